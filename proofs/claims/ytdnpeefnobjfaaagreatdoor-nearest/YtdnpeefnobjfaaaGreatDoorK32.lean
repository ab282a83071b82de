import Derived.Test.YtdnpeefnobjfaaaGreatDoorK26
import Derived.Test.YtdnpeefnobjfaaaGreatDoorK30
set_option maxRecDepth 100000
set_option maxHeartbeats 4000000
set_option linter.all false
section
namespace Go.Proofs.q
open Go.RowKit
def look(L:List Rw)(p:Pf):Option Rw:=L.find? λr=>decide (aM r=p)
def a2Y{r n}(h:aM r=aM n):aM (dO r n)=aM n:=by
 unfold dO;split
 .exact h
 .split
  .unfold gw;split
   .unfold di;split<;>exact h
   .rfl
  .split
   .rfl
   .exact h
def C0(p): ¬dQ p p:=by unfold dQ;omega
def a0u{a b c}(h:dQ a b)(d:dQ b c):dQ a c:=by unfold dQ at*;omega
def Ch{L p}(h:∀r∈L,aM r≠p):look L p=none:=b1f.2 λr a=>by simpa using h r a
def sK(A B p):look (A++B) p=(look A p).or (look B p):=b1l ..
def lg(r B p):look (r::B) p=if aM r=p then some r else look B p:=by unfold look;rw[b0Y];by_cases h:aM r=p<;>simp[h]
def Wo(L p)(d:eX L):(∀r∈L.take (eV L p),dQ (aM r) p)/\(∀r∈L.drop (eV L p),¬dQ (aM r) p):=by
 induction L with
 |nil=>simp
 |cons x L b=>
  obtain⟨e,f⟩:=a9Y.1 d;have b:=b f;unfold eV at b⊢;by_cases c:dQ (aM x) p
  .rw[a9U,if_pos (by simpa using (sU x p).1 c)];simp only[gm,List.take_succ_cons,List.drop_succ_cons];exact⟨λr a=>by obtain rfl|a:=dj.1 a;exact c;exact b.1 r a,b.2⟩
  .rw[a9U,if_neg (by simpa using λq=>c ((sU x p).2 q))];refine⟨a9i,λr a q=>?_⟩;simp only[ir,b1H]at a;obtain rfl|a:=dj.1 a
   .exact c q
   .exact c (a0u (e r a) q)
def Cj{L:List Rw}(j:eX L)(k:L.length<60)(n:Rw)(p:Pf):
  look (gD L n) p=if p=aM n then (match look L p with|some r=>some (dO r n)|none=>if n.met<16 then some (jc n)else none)else look L p:=by
 obtain⟨D,E⟩:=Wo L (aM n) j;unfold gD tD;generalize F:eV L (aM n)=i at*;have v:L=L.take i++L.drop i:=(b0P i L).symm;have w:∀q,q=aM n->look (L.take i) q=none:=λq e=>Ch λr b y=>C0 (aM n) (by have:=D r b;rw[y,e]at this;exact this);have l:look (L.take i++jc n::L.drop i) p=if p=aM n then some (jc n)else look L p:=by
  rw[sK,lg];have e:aM (jc n)=aM n:=rfl;rw[e];by_cases a:p=aM n
  .rw[if_pos a,if_pos a.symm,w p a];rfl
  .rw[if_neg a,if_neg (λq=>a q.symm),<-sK,<-v]
 have d:(∀r,L[i]?=some r->aM r≠aM n)->∀q,q=aM n->look L q=none:=by
  intro h q e;rw[v,sK,w q e];refine(Option.none_or ..).trans (Ch λr b y=>?_);cases f:L.drop i with
  |nil=>rw[f]at b;cases b
  |cons x B=>
   have g:L[i]?=some x:=by have:=congrArg (·[0]?) f;simpa using this
   rw[f]at b;obtain rfl|b:=dj.1 b
   .exact h r g (y.trans e)
   .have z:eX (L.drop i):=List.Pairwise.sublist (List.drop_sublist i L) j;rw[f]at z;have A:=(a9Y.1 z).1 r b;rw[y,e]at A;exact E x (by rw[f];simp) A
 cases g:L[i]? with
 |none=>
  dsimp only;have o:=d (λr q=>by rw[g]at q;cases q);by_cases c:n.met<16
  .rw[if_pos ⟨c,k⟩,l];by_cases a:p=aM n
   .simp[a,o _ rfl,c]
   .simp[a]
  .rw[if_neg λq=>c q.1];by_cases a:p=aM n
   .simp[a,o _ rfl,c]
   .simp[a]
 |some r=>
  dsimp only;have s:i<L.length:=(nh.1 g).1;have t:L[i]=r:=(nh.1 g).2;have f:L.drop i=r::L.drop (i+1):=by rw[b0C s,t]
  by_cases b:aM r=aM n
  .rw[if_pos b];have u:L.set i (dO r n)=L.take i++dO r n::L.drop (i+1):=by rw[List.set_eq_take_append_cons_drop,if_pos s]
   rw[u,sK,lg,a2Y b];by_cases a:p=aM n
   .have e:look L p=some r:=by rw[v,sK,w p a,f,lg,if_pos (b.trans a.symm)];rfl
    rw[if_pos a,if_pos a.symm,e,w p a];rfl
   .rw[if_neg a,if_neg λq=>a q.symm];have e:look L p=(look (L.take i) p).or (look (L.drop (i+1)) p):=by
     have:look L p=look (L.take i++L.drop i) p:=by rw[<-v]
     rw[this,sK,f,lg,if_neg λq=>a (q.symm.trans b)]
    exact e.symm
  .rw[if_neg b];have o:=d λq C=>by rw[g]at C;cases C;exact b
   by_cases c:n.met<16
   .rw[if_pos ⟨c,k⟩,l];by_cases a:p=aM n
    .simp[a,o _ rfl,c]
    .simp[a]
   .rw[if_neg λq=>c q.1];by_cases a:p=aM n
    .simp[a,o _ rfl,c]
    .simp[a]
def jz(e:cR):Pf:=⟨e.addr,e.len⟩
def ti(o:Option Rw)(n:Rw):Option Rw:=match o with
 |some r=>some (dO r n)
 |none=>if n.met<16 then some (jc n)else none
def a4L(L n):(gD L n).length<=L.length+1:=by
 unfold gD tD
 repeat' split
 all_goals simp
 all_goals omega
def Xh(an a:Int)(p:Pf):∀(es:List cR) (L:List Rw),eX L->L.length+es.length<60->(es.map jz).Nodup->
  look (dL L an a es) p=match es.find? (λe=>decide (jz e=p))with|none=>look L p|some e=>ti (look L p) (fq e an a):=by
 intro es;induction es with
 |nil=>intro L _ _ _;rfl
 |cons e es f=>
  intro L b g h;have c:=List.nodup_cons.1 (by simpa using h:(jz e::es.map jz).Nodup);have l:=a4L L (fq e an a);simp only[gm]at g;show look (dL (gD L (fq e an a)) an a es) p=_;rw[f _ (zY _ b) a9h c.2,Cj b a9h];have i:aM (fq e an a)=jz e:=rfl;rw[i,b0Y];by_cases d:jz e=p
  .have j:es.find? (λe=>decide (jz e=p))=none:=b1f.2 λx k=>by simp only[decide_eq_true_eq];intro q;exact c.1 (eS.2 ⟨x,k,q.trans d.symm⟩)
   rw[j];simp only[d,decide_true,if_true];rfl
  .simp only[d,decide_false,if_neg λq:p=jz e=>d q.symm]
def TX(i p L):(cT i L).find? (λe=>decide (jz e=p))=(look L p).map (dV i):=by
 induction L with
 |nil=>rfl
 |cons r L a=>
  simp only[cT,dq,b0Y]at a⊢;rw[lg];have:jz (dV i r)=aM r:=rfl;rw[this];by_cases h:aM r=p
  .simp[h]
  .simp only[h,decide_false,if_false];exact a
def VH(i){L}(c:eX L):((cT i L).map jz).Nodup:=by
 have e:(cT i L).map jz=L.map aM:=by simp only[cT,b0R];rfl
 rw[e];refine List.Pairwise.map _ (λa b h q=>?_) c;rw[q]at h;exact C0 _ h
def Xm{L M:List Rw}(b:eX L)(c:eX M)(h:L.length+M.length<60)(i an a:Int)(p:Pf):
  look (dL L an a (cT i M)) p=match look M p with|none=>look L p|some r=>ti (look L p) (fq (dV i r) an a):=by
 rw[Xh an a p _ L b (by simpa[cT]using h) (VH i c),TX];cases look M p<;>rfl
def cG(a:List Nat):Option Rw->Nat×Option Nat
 |none=>(16,none)
 |some r=>(r.met.toNat,if r.an= -1 then none else a[r.an.toNat]?)
def yM{l:List Nat}(h:l.Nodup){i j x:Nat}(f:l[i]?=some x)(g:l[j]?=some x):i=j:=by
 obtain⟨a,b⟩:=nh.1 f;obtain⟨c,d⟩:=nh.1 g;have e:=b0z.1 h;obtain q|q|q:=b1j i j
 .exact absurd (b.trans d.symm) (e i j a c q)
 .exact q
 .exact absurd (d.trans b.symm) (e j i c a q)
def rN{a}(h:a.Nodup){i x:Nat}(b:a[i]?=some x){r}(c:r.an= -1\/0<=r.an):(cG a (some r)).2=some x↔r.an=i:=by
 unfold cG;dsimp only;constructor
 .intro q;split at q
  .cases q
  .rename_i d;have:=yM h q b;omega
 .intro q;rw[if_neg a9h,q];simpa using b
def tI(b a:Option Rw)(i j c:Int):Option Rw:=match b with
 |none=>a
 |some r=>ti a (fq (dV i r) j c)
def Oc{d e}(t:d.Nodup)(u:e.Nodup){a b i j c:Nat}(v:d[i]?=some b)(p:e[j]?=some a)(f g)(D:∀r,f=some r->1<=r.met/\r.met<=16/\(r.an= -1\/0<=r.an))(w:∀r,g=some r->r.bi=0/\1<=r.met/\r.met<=16/\0<=r.an)(A:(cG e g).2=some a->f≠none):cG e (tI f g i j c)=(if (cG e g).2=some a then (min ((if (cG d f).2=some b then 16 else (cG d f).1)+c) 16,some a)else if min ((if (cG d f).2=some b then 16 else (cG d f).1)+c) 16<(cG e g).1 then (min ((if (cG d f).2=some b then 16 else (cG d f).1)+c) 16,some a)else cG e g):=by
 cases f with
 |none=>
  have l:(cG e g).1<=16:=by
   cases g with
   |none=>exact az _
   |some r=>have:=w r rfl;simp only[cG];omega
  have E:(if (cG d none).2=some b then 16 else (cG d none).1)=16:=by simp[cG]
  rw[E,if_neg λq=>A q rfl,if_neg a9h];rfl
 |some r=>
  obtain⟨M,N,B⟩:=D r rfl;have C:(if (cG d (some r)).2=some b then 16 else (cG d (some r)).1)=(dV i r).met.toNat:=by
   unfold dV;dsimp only;by_cases q:r.an=i
   .rw[if_pos ((rN t v B).2 q),if_pos q];rfl
   .rw[if_neg λz=>q ((rN t v B).1 z),if_neg q];rfl
  rw[C];have F:1<=(dV i r).met/\(dV i r).met<=16:=by unfold dV;dsimp only;split<;>omega
  have o:(fq (dV i r) j c).met=min ((dV i r).met+c) 16:=rfl;have s:(fq (dV i r) j c).an=j:=rfl;have H:(fq (dV i r) j c).bi=0:=rfl;have em:(fq (dV i r) j c).met.toNat=min ((dV i r).met.toNat+c) 16:=by rw[o];omega
  have I:(fq (dV i r) j c).met<=16:=by rw[o];omega
  have O:0<=(fq (dV i r) j c).met:=by rw[o];omega
  rw[<-em];unfold tI;dsimp only;generalize fq (dV i r) j c=n at*;clear o em C F A;have h:∀x:Rw,x.met=n.met->x.an=n.an->cG e (some x)=(n.met.toNat,some a):=λx l J=>by unfold cG;dsimp only;rw[l,J,s,if_neg a9h];simpa using p
  cases g with
  |none=>
   have h0: ¬(cG e none).2=some a:=by simp[cG]
   have l:(cG e none).1=16:=rfl;rw[if_neg h0,l];simp only[ti];by_cases q:n.met<16
   .rw[if_pos q,if_pos (show n.met.toNat<16 by omega)];exact h _ rfl rfl
   .rw[if_neg q,if_neg (show¬n.met.toNat<16 by omega)]
  |some x=>
   obtain⟨K,P,Q,x3⟩:=w x rfl;simp only[ti];unfold dO;rw[if_neg a9h];by_cases q:x.an=n.an
   .rw[if_pos q,if_pos ((rN u p (.inr x3)).2 (q.trans s))];unfold gw;by_cases z:n.met=16
    .rw[if_pos z];refine h _ ?_ ?_
     .unfold di;split<;>simp_all
     .unfold di;split<;>exact q
    .rw[if_neg z];exact h _ rfl rfl
   .rw[if_neg q,if_neg λz=>q (((rN u p (.inr x3)).1 z).trans s.symm)];have L:jQ x n=decide (n.met<x.met):=by
     unfold jQ;rw[K];by_cases z:n.met=x.met
     .rw[if_pos z];simp;omega
     .rw[if_neg z]
    rw[L];have k:n.met.toNat<(cG e (some x)).1↔n.met<x.met:=by simp only[cG];omega
    by_cases z:n.met<x.met
    .rw[if_pos (by simpa using z),if_pos (k.2 z)];exact h _ rfl rfl
    .rw[if_neg (by simpa using z),if_neg λy=>z (k.1 y)]
structure d9 (sides:Nat->List Nat) (far0:Nat->Nat->Nat):Prop where
 sy:∀a b,far0 a b=far0 b a
 nd:∀a,(sides a).Nodup
 mem:∀a b,b∈sides a↔far0 a b≠0
 out:∀a b,5<=a->far0 a b=0
 self:∀a,far0 a a=0
 j9:∀a,(sides a).length<=5
structure fW (far0 far:Nat->Nat->Nat):Prop where
 sy:∀a b,far a b=far b a
 of:∀a b,far a b≠0->far a b=far0 a b
structure wM (n a:Nat) (r:Rw):Prop where
 bi:r.bi=0
 tag:r.tag=0
 pf:∃d,d<5/\aM r=bh d
 lo:1<=r.met
 hi:r.met<=16
 an:(r.an= -1/\aM r=bh a/\r.met=1)\/(0<=r.an/\r.an<n/\aM r≠bh a)
structure eB (n a:Nat) (L:List Rw):Prop where
 sorted:eX L
 row:∀r∈L,wM n a r
 own:∃r,look L (bh a)=some r
def TP{L}(c:eX L)(a:∀r∈L,∃d,d<5/\aM r=bh d):L.length<=5:=by
 have f:∀(L:List Rw) (k:Nat),k<=5->eX L->(∀r∈L,∃d,k<=d/\d<5/\aM r=bh d)->L.length<=5 - k:=by
  intro L;induction L with
  |nil=>intro k _ _ _;simp
  |cons x L i=>
   intro k p c a;obtain⟨j,l⟩:=a9Y.1 c;obtain⟨d,q,s,n⟩:=a x a9i;have:=i (d+1) a9h l λr b=>by obtain⟨e,t,o,g⟩:=a r (by simp[b]);refine⟨e,?_,o,g⟩;have:=j r b;rw[n,g]at this;unfold dQ bh at this;simp only at this;omega
   simp only[gm];omega
 simpa using f L 0 a9h c λr b=>by obtain⟨d,h⟩:=a r b;exact⟨d,a9h,h⟩
def eB.j9{n a L}(h:eB n a L):L.length<=5:=TP h.sorted λr b=>(h.row r b).pf
def lh{L p r}(h:look L p=some r):r∈L/\aM r=p:=⟨List.mem_of_find?_eq_some h,by simpa using List.find?_some h⟩
def wM.heard{n a r m}(h:wM n a r)(b:aM r=aM m)(i:m.bi=0/\m.tag=0)(j:1<=m.met)(k:m.met<=16)(l:0<=m.an)(o:m.an<n):wM n a (dO r m):=by
 unfold dO;by_cases q:r.an= -1
 .rw[if_pos q];exact h
 rw[if_neg q];have c:0<=r.an/\r.an<n/\aM r≠bh a:=by obtain z|z:=h.an;exact absurd z.1 q;exact z
 obtain⟨d,f,g⟩:=h.pf;by_cases z:r.an=m.an
 .rw[if_pos z];unfold gw;split
  .unfold di;split
   .exact h
   .exact⟨rfl,h.tag,⟨d,f,g⟩,a9i,a9i,.inr c⟩
  .exact⟨rfl,i.2,⟨d,f,b▸g⟩,j,k,.inr ⟨l,o,λe=>c.2.2 (b.trans e)⟩⟩
 .rw[if_neg z];split
  .exact⟨rfl,i.2,⟨d,f,b▸g⟩,j,k,.inr ⟨l,o,λe=>c.2.2 (b.trans e)⟩⟩
  .exact h
def eB.take{n a L}(h:eB n a L){m}(s:∃d,d<5/\aM m=bh d)(k:m.bi=0/\m.tag=0)(l:1<=m.met)(o:m.met<=16)(p:0<=m.an)(q:m.an<n):eB n a (gD L m):=by
 have f:L.length<60:=by have:=h.j9;omega
 refine⟨zY _ h.sorted,λr c=>?_,?_⟩
 .have b:look (gD L m) (aM r)=some r:=by
   unfold look;have j:=zY m h.sorted;revert c j;generalize gD L m=M;intro c j;induction M with
   |nil=>cases c
   |cons x M t=>
    rw[b0Y];obtain⟨u,v⟩:=a9Y.1 j;obtain rfl|c:=dj.1 c
    .simp
    .have: ¬aM x=aM r:=λe=>by have:=u r c;rw[e]at this;exact C0 _ this
     simp only[this,decide_false];exact t c v
  rw[Cj h.sorted f]at b;split at b
  .rename_i w;cases g:look L (aM r)with
   |none=>
    rw[g]at b;dsimp only at b;split at b
    .cases b;refine⟨rfl,k.2,s,l,o,.inr ⟨p,q,λe=>?_⟩⟩;obtain⟨x,i⟩:=h.own;have y:aM (jc m)=bh a:=e;rw[y,i]at g;cases g
    .cases b
   |some x=>rw[g]at b;cases b;obtain⟨z,A⟩:=lh g;exact(h.row x z).heard (A.trans w) k l o p q
  .exact h.row r (lh b).1
 .obtain⟨x,i⟩:=h.own;rw[Cj h.sorted f];split
  .rw[i];exact⟨_,rfl⟩
  .exact⟨x,i⟩
def eB.heard{n a:Nat}{an b:Int}(f:0<=an)(g:an<n)(l:0<=b):∀es {L},eB n a L->(∀e∈es,(∃d,d<5/\jz e=bh d)/\e.tag=0/\1<=e.met)->eB n a (dL L an b es):=by
 intro es;induction es with
 |nil=>intro L h _;exact h
 |cons e es i=>intro L h c;obtain⟨j,h0,o⟩:=c e a9i;exact i (h.take (m:=fq e an b) j ⟨rfl,h0⟩ (by simp only[fq];omega) (by simp only[fq];omega) f g) λx k=>c x (by simp[k])
variable{m:Nat->List Nat}{y far:Nat->Nat->Nat}{T:Nat->List Rw}
def cQ(m:Nat->List Nat)(T:Nat->List Rw)(d:Nat):Near.St:=λa=>cG (m a) (look (T a) (bh d))
structure iw (m:Nat->List Nat) (T:Nat->List Rw):Prop where
 tab:∀a,a<5->eB (m a).length a (T a)
 has:∀d a b,a<5->(cQ m T d a).2=some b->∃r,look (T b) (bh d)=some r
def idx(m:Nat->List Nat)(a b:Nat):Nat:=(m a).idxOf b
def iK(m:Nat->List Nat)(y far:Nat->Nat->Nat)(a:Nat)(T:Nat->List Rw):Nat->List Rw:=λb=>if b=a then d7 (T a)else if far a b≠0 then dL (T b) (idx m b a) (y a b) (cT (idx m a b) (T a))else T b
def nO(G:d9 m y){a b}(h:y a b≠0):(m a)[idx m a b]?=some b/\idx m a b<(m a).length:=by have c:(m a).idxOf b<(m a).length:=List.idxOf_lt_length_iff.2 ((G.mem a b).2 h);exact⟨by unfold idx;rw[iM c,List.getElem_idxOf],c⟩
def Ci(L p):look (d7 L) p=(look L p).map jP:=by
 induction L with
 |nil=>rfl
 |cons r L a=>have:d7 (r::L)=jP r::d7 L:=rfl;rw[this,lg,lg,a];have e:aM (jP r)=aM r:=rfl;rw[e];split<;>rfl
def Oe(a o):cG a (o.map jP)=cG a o:=by cases o<;>rfl
def eB.still{n a L}(h:eB n a L):eB n a (d7 L):=by
 refine⟨Ld (λ_=>rfl) h.sorted,λr c=>?_,?_⟩
 .obtain⟨x,b,rfl⟩:=eS.1 c;exact⟨(h.row x b).bi,(h.row x b).tag,(h.row x b).pf,(h.row x b).lo,(h.row x b).hi,(h.row x b).an⟩
 .obtain⟨x,b⟩:=h.own;rw[Ci,b];exact⟨_,rfl⟩
def eB.hears{n a L}(h:eB n a L)(i):∀e∈cT i L,(∃d,d<5/\jz e=bh d)/\e.tag=0/\1<=e.met:=by intro e c;obtain⟨r,b,rfl⟩:=eS.1 c;refine⟨(h.row r b).pf,(h.row r b).tag,?_⟩;have:=(h.row r b).lo;unfold dV;dsimp only;split<;>omega
def l7(G:d9 m y)(F:fW y far){a b}(h:far a b≠0):b<5/\b≠a/\y a b=far a b/\y a b≠0/\y b a≠0:=by
 have h0:y a b≠0:=by rw[<-F.of a b h];exact h
 have c:y b a≠0:=by rw[G.sy];exact h0
 refine⟨a9W λq=>c (G.out b a q),λe=>?_,(F.of a b h).symm,h0,c⟩;subst e;exact h0 (G.self b)
def Ij(G:d9 m y)(F:fW y far)(H:iw m T){a b}(d:a<5)(e:far a b≠0)(p):look (iK m y far a T b) p=tI (look (T a) p) (look (T b) p) (idx m a b) (idx m b a) (y a b):=by obtain⟨f,c,_⟩:=l7 G F e;unfold iK;rw[if_neg c,if_pos e,Xm (H.tab b f).sorted (H.tab a d).sorted (by have:=(H.tab b f).j9;have:=(H.tab a d).j9;omega)];rfl
def a4Z{a b i j c r}(h:b=some r):∃x,tI a b i j c=some x:=by
 subst h;cases a with
 |none=>exact⟨r,rfl⟩
 |some x=>exact⟨_,rfl⟩
def Xg(G:d9 m y)(F:fW y far)(H:iw m T){a}(d:a<5){b p}(h:∃r,look (T b) p=some r):∃r,look (iK m y far a T b) p=some r:=by
 obtain⟨r,h⟩:=h;by_cases e:b=a
 .subst e;unfold iK;rw[if_pos rfl,Ci,h];exact⟨_,rfl⟩
 .by_cases c:far a b≠0
  .rw[Ij G F H d c];exact a4Z h
  .unfold iK;rw[if_neg e,if_neg c];exact⟨r,h⟩
def Er(G:d9 m y)(F:fW y far)(H:iw m T){a}(k:a<5)(d):cQ m (iK m y far a T) d=Near.a9A far d a (cQ m T d):=by
 funext b;by_cases e:b=a
 .subst e;unfold Near.a9A;rw[if_neg λq=>q.2.1 rfl];unfold cQ iK;rw[if_pos rfl,Ci,Oe]
 by_cases g:far a b≠0
 .obtain⟨h,_,l,o,p⟩:=l7 G F g;have s:cQ m (iK m y far a T) d b=cG (m b) (tI (look (T a) (bh d)) (look (T b) (bh d)) (idx m a b) (idx m b a) (y a b)):=by unfold cQ;rw[Ij G F H k g]
  rw[s];unfold Near.a9A;by_cases i:b=d
  .rw[if_neg λq=>q.2.2 i];subst i;obtain⟨r,f⟩:=(H.tab b h).own;obtain⟨t,u⟩:=lh f;have j:r.an= -1:=by
    obtain z|z:=((H.tab b h).row r t).an
    .exact z.1
    .exact absurd u z.2.2
   unfold cQ;rw[f];cases look (T a) (bh b)with
   |none=>rfl
   |some x=>
    have:∀n,dO r n=r:=λn=>by unfold dO;rw[if_pos j]
    simp only[tI,ti,this]
  .rw[if_pos ⟨g,e,i⟩];have:=Oc (G.nd a) (G.nd b) (c:=y a b) (nO G o).1 (nO G p).1 (look (T a) (bh d)) (look (T b) (bh d))
    (λr f=>by
     have:=(H.tab a k).row r (lh f).1;exact⟨this.lo,this.hi,by obtain z|z:=this.an;exact .inl z.1;exact .inr z.1⟩)
    (λr f=>by
     have q:=(H.tab b h).row r (lh f).1;refine⟨q.bi,q.lo,q.hi,?_⟩;obtain z|z:=q.an
     .exact absurd (JE ((lh f).2.symm.trans z.2.1)) λw=>i w.symm
     .exact z.1)
    (λq=>by
     obtain⟨x,v⟩:=H.has d b a h q;rw[v];simp)
   refine this.trans ?_;unfold Near.a9D Near.told;rw[l];rfl
 .unfold Near.a9A;rw[if_neg λq=>g q.1];unfold cQ iK;rw[if_neg e,if_neg g]
def iw.tell(G:d9 m y)(F:fW y far)(H:iw m T){a}(g:a<5):iw m (iK m y far a T):=by
 refine⟨λb c=>?_,λd b x c h=>?_⟩
 .unfold iK;by_cases e:b=a
  .subst e;rw[if_pos rfl];exact(H.tab b c).still
  .rw[if_neg e];by_cases i:far a b≠0
   .rw[if_pos i];obtain⟨_,_,p,s,l⟩:=l7 G F i;exact eB.heard a9h (by have:=(nO G l).2;omega) a9h _ (H.tab b c) ((H.tab a g).hears _)
   .rw[if_neg i];exact H.tab b c
 .rw[Er G F H g]at h;refine Xg G F H g ?_;unfold Near.a9A at h;split at h
  .rename_i t;obtain q|⟨q,_⟩:=Near.ql far (cQ m T d) a b
   .
    rw[q]at h;cases h;have f:=q;unfold Near.a9D at f;dsimp only at f;split at f
    .rename_i z;exact H.has d b a c z
    .split at f
     .rename_i z;cases n:look (T a) (bh d)with
      |some r=>exact⟨r,rfl⟩
      |none=>
       exfalso;have o:cQ m T d a=(16,none):=by unfold cQ;rw[n];rfl
       have u:(cQ m T d b).1<=16:=by
        unfold cQ;cases j:look (T b) (bh d)with
        |none=>exact az _
        |some r=>have:=((H.tab b c).row r (lh j).1).hi;simp only[cG];omega
       unfold Near.told at z;rw[o]at z;simp at z;omega
     .rename_i k v;rw[f]at k;exact absurd rfl k
   .rw[q]at h;exact H.has d b x c h
  .exact H.has d b x c h
variable{m:Nat->List Nat}{E far:Nat->Nat->Nat}{T:Nat->List Rw}
def pv(m:Nat->List Nat)(E far:Nat->Nat->Nat):Nat->(Nat->List Rw)->Nat->List Rw
 |0,T=>T
 |k+1,T=>iK m E far k (pv m E far k T)
def lB(m:Nat->List Nat)(E far:Nat->Nat->Nat):Nat->(Nat->List Rw)->Nat->List Rw
 |0,T=>T
 |k+1,T=>pv m E far 5 (lB m E far k T)
theorem LG(G:d9 m E)(F:fW E far)(H:iw m T):∀k,k<=5->iw m (pv m E far k T)/\∀d,cQ m (pv m E far k T) d=Near.ez far d k (cQ m T d)
 |0,_=>⟨H,λ_=>rfl⟩
 |k+1,b=>by have a:=LG G F H k a9h;refine⟨a.1.tell G F a9h,λd=>?_⟩;show cQ m (iK m E far k _) d=Near.a9A far d k _;rw[Er G F a.1 a9h,a.2]
theorem zu(G:d9 m E)(F:fW E far)(H:iw m T):∀k,iw m (lB m E far k T)/\∀d,cQ m (lB m E far k T) d=Near.a9E far d 5 k (cQ m T d)
 |0=>⟨H,λ_=>rfl⟩
 |k+1=>by have a:=zu G F H k;have q:=LG G F a.1 5 (az _);refine⟨q.1,λd=>?_⟩;show cQ m (pv m E far 5 _) d=Near.ez far d 5 _;rw[q.2,a.2]
structure mz (m:Nat->List Nat) (far:Nat->Nat->Nat) (T:Nat->List Rw):Prop where
 ed:iw m T
 ok:∀d,d<5->Near.Ok far d 5 (cQ m T d)
def mz.rounds(G:d9 m E)(F:fW E far)(h:mz m far T)(k):mz m far (lB m E far k T):=by have q:=zu G F h.ed k;exact⟨q.1,λd a=>by rw[q.2];exact(h.ok d a).rounds k⟩
def kc:Nat->List Rw:=λa=>if a<5 then [fJ (bh a)]else []
def Ii(a d):look (kc a) (bh d)=if a<5/\a=d then some (fJ (bh a))else none:=by
 unfold kc;by_cases h:a<5
 .rw[if_pos h,lg];have e:aM (fJ (bh a))=bh a:=rfl;rw[e];by_cases q:a=d
  .subst q;simp[h]
  .rw[if_neg λz=>q (JE z),if_neg λz=>q z.2];rfl
 .rw[if_neg h,if_neg λz=>h z.1];rfl
def Lh(m){d}(b:d<5)(a):cQ m kc d a=if a=d then (1,none)else (16,none):=by
 unfold cQ;rw[Ii];by_cases q:a=d
 .subst q;rw[if_pos ⟨b,rfl⟩,if_pos rfl];rfl
 .rw[if_neg λz=>q z.2,if_neg q];rfl
def uO(m far):mz m far kc:=by
 refine⟨⟨λa c=>?_,λd a b c h=>?_⟩,λd f=>?_⟩
 .have e:kc a=[fJ (bh a)]:=if_pos c;rw[e];refine⟨b1q ..,λr g=>?_,⟨_,(lg _ _ _).trans (if_pos rfl)⟩⟩;obtain rfl:=fM.1 g;exact⟨rfl,rfl,⟨a,c,rfl⟩,by simp[fJ,uN],by simp[fJ,uN],.inl ⟨rfl,rfl,rfl⟩⟩
 .unfold cQ at h;rw[Ii]at h;split at h<;>simp[cG,fJ,uN]at h
 .have e:=Lh m f;refine⟨by rw[e,if_pos rfl],λa=>?_,λa n h=>?_,λa c _=>?_⟩
  .rw[e];split<;>simp
  .rw[e]at h;split at h<;>cases h
  .rw[e,if_neg c]
def Us{D}(m){d}(b:d<5)(c:Near.eT far d 5 D):Near.Fair far d 5 D (cQ m kc d):=by
 have e:=Lh m b;refine⟨(uO m far).ok d b,λa=>?_,λa n h=>?_⟩
 .rw[e];split
  .rename_i q;subst q;rw[c.own];exact az _
  .exact c.top a
 .rw[e]at h;split at h<;>cases h
def Ut{D}(G:d9 m E)(F:fW E far){d}(b:d<5)(a:Near.eT far d 5 D):Near.pQ far d 5 D (cQ m (lB m E far 6 kc) d):=by rw[(zu G F (uO m far).ed 6).2];exact Near.J5 a (Us m b a) a9h
def a0n{D}(G:d9 m E)(F:fW E far)(h:mz m far T){d}(a:d<5)(b:Near.eT far d 5 D):Near.pQ far d 5 D (cQ m (lB m E far 26 T) d):=by rw[(zu G F h.ed 26).2];exact Near.a2b b (h.ok d a) (k:=9) a9h
def j8(far:Nat->Nat->Nat)(a b:Nat):Nat->Nat->Nat:=λx y=>if (x=a/\y=b)\/(x=b/\y=a)then 0 else far x y
def jk(m:Nat->List Nat)(a b:Nat)(T:Nat->List Rw):Nat->List Rw:=λx=>if x=a then fy (idx m a b) (T a)else if x=b then fy (idx m b a) (T b)else T x
def TB(F:fW E far)(a b):fW E (j8 far a b):=by
 refine⟨λx y=>?_,λx y h=>?_⟩
 .unfold j8;by_cases h:(x=a/\y=b)\/(x=b/\y=a)
  .rw[if_pos h,if_pos (by obtain h|h:=h;exact .inr ⟨h.2,h.1⟩;exact .inl ⟨h.2,h.1⟩)]
  .rw[if_neg h,if_neg (λq=>h (by obtain q|q:=q;exact .inr ⟨q.2,q.1⟩;exact .inl ⟨q.2,q.1⟩)),F.sy]
 .unfold j8 at h⊢;split at h
  .exact absurd rfl h
  .rename_i q;rw[if_neg q];exact F.of x y h
def vq(a L p):look (fy a L) p=(look L p).map λr=>if r.an=a then di r else r:=by
 induction L with
 |nil=>rfl
 |cons r L b=>
  have:fy a (r::L)=(if r.an=a then di r else r)::fy a L:=rfl;rw[this,lg,lg,b];have e:aM (if r.an=a then di r else r)=aM r:=by
   split
   .unfold di;split<;>rfl
   .rfl
  rw[e];split<;>rfl
def Ep{a}(d:a.Nodup){i b:Nat}(c:a[i]?=some b){o}(f:∀r,o=some r->r.an= -1\/0<=r.an):cG a (o.map λr=>if r.an=(i:Int)then di r else r)=if (cG a o).2=some b then (16,some b)else cG a o:=by
 cases o with
 |none=>rfl
 |some r=>
  simp only[bY];by_cases q:r.an=i
  .rw[if_pos q,if_pos ((rN d c (f r rfl)).2 q)];have e:(di r).met=16/\(di r).an=r.an:=by unfold di;split<;>simp_all
   unfold cG;dsimp only;rw[e.1,e.2,if_neg a9h,q];simpa using c
  .rw[if_neg q,if_neg λz=>q ((rN d c (f r rfl)).1 z)]
def eB.lost{n a L}(h:eB n a L){c}(h0:0<=c):eB n a (fy c L):=by
 refine⟨Ld (λr=>?_) h.sorted,λr d=>?_,?_⟩
 .split
  .unfold di;split<;>rfl
  .rfl
 .obtain⟨x,b,rfl⟩:=eS.1 d;have q:=h.row x b;split
  .rename_i e;unfold di;split
   .exact q
   .refine⟨rfl,q.tag,q.pf,a9i,a9i,?_⟩;obtain z|z:=q.an
    .omega
    .exact .inr z
  .exact q
 .obtain⟨x,b⟩:=h.own;rw[vq,b];exact⟨_,rfl⟩
def Kb(H:iw m T){a}(b:a<5)(d):∀r,look (T a) (bh d)=some r->r.an= -1\/0<=r.an:=λr c=>by
 obtain z|z:=((H.tab a b).row r (lh c).1).an
 .exact .inl z.1
 .exact .inr z.1
def a4a(G:d9 m E)(H:iw m T){a b}(h:a<5)(i:b<5)(h0:E a b≠0)(d x):cQ m (jk m a b T) d x=if (x=a/\(cQ m T d x).2=some b)\/(x=b/\(cQ m T d x).2=some a)then (16,(cQ m T d x).2)else cQ m T d x:=by
 have j:E b a≠0:=by rw[G.sy];exact h0
 have c:a≠b:=λe=>by subst e;exact h0 (G.self a)
 by_cases e:x=a
 .subst e;have f:cQ m (jk m x b T) d x=cG (m x) ((look (T x) (bh d)).map λr=>if r.an=(idx m x b:Int)then di r else r):=by unfold cQ jk;rw[if_pos rfl,vq]
  rw[f,Ep (G.nd x) (nO G h0).1 (Kb H h d)];unfold cQ;by_cases q:(cG (m x) (look (T x) (bh d))).2=some b
  .rw[if_pos q,if_pos (.inl ⟨rfl,q⟩),q]
  .rw[if_neg q,if_neg (λz=>by obtain z|z:=z;exact q z.2;exact c z.1)]
 .by_cases g:x=b
  .subst g;have f:cQ m (jk m a x T) d x=cG (m x) ((look (T x) (bh d)).map λr=>if r.an=(idx m x a:Int)then di r else r):=by unfold cQ jk;rw[if_neg e,if_pos rfl,vq]
   rw[f,Ep (G.nd x) (nO G j).1 (Kb H i d)];unfold cQ;by_cases q:(cG (m x) (look (T x) (bh d))).2=some a
   .rw[if_pos q,if_pos (.inr ⟨rfl,q⟩),q]
   .rw[if_neg q,if_neg (λz=>by obtain z|z:=z;exact e z.1;exact q z.2)]
  .rw[if_neg (λz=>by obtain z|z:=z;exact e z.1;exact g z.1)];unfold cQ jk;rw[if_neg e,if_neg g]
def mz.down(G:d9 m E)(F:fW E far)(h:mz m far T){a b}(k:a<5)(l:far a b≠0):mz m (j8 far a b) (jk m a b T):=by
 obtain⟨s,t,C,u,D⟩:=l7 G F l;have i:=a4a G h.ed k s u;have f:∀d x,(cQ m (jk m a b T) d x).2=(cQ m T d x).2:=λd x=>by rw[i];split<;>rfl
 have v:∀x p,(∃r,look (T x) p=some r)->∃r,look (jk m a b T x) p=some r:=by
  rintro x p ⟨r,j⟩;unfold jk;split
  .rename_i e;subst e;rw[vq,j];exact⟨_,rfl⟩
  .split
   .rename_i e;subst e;rw[vq,j];exact⟨_,rfl⟩
   .exact⟨r,j⟩
 refine⟨⟨λx g=>?_,λd x y g q=>?_⟩,λd w=>?_⟩
 .unfold jk;split
  .rename_i e;subst e;exact(h.ed.tab x g).lost a9h
  .split
   .rename_i e;subst e;exact(h.ed.tab x g).lost a9h
   .exact h.ed.tab x g
 .rw[f]at q;exact v y _ (h.ed.has d x y g q)
 .have o:=h.ok d w;refine⟨?_,λx=>?_,λx n q=>?_,λx g q=>?_⟩
  .rw[i,if_neg (λz=>by rw[o.own]at z;obtain z|z:=z<;>cases z.2),o.own]
  .rw[i];split
   .exact az _
   .exact o.top x
  .rw[f]at q;obtain z|⟨A,B,z3⟩:=o.an x n q
   .left;rw[i];split
    .rfl
    .exact z
   .by_cases c:(n=a/\x=b)\/(n=b/\x=a)
    .left;rw[i,if_pos (by obtain⟨c1,c2⟩|⟨c1,c2⟩:=c;exact .inr ⟨c2,c1▸q⟩;exact .inl ⟨c2,c1▸q⟩)]
    .right;exact⟨A,B,by unfold j8;rw[if_neg c];exact z3⟩
  .rw[f]at q;rw[i];split
   .rfl
   .exact o.sR x g q
end Go.Proofs.q
end
section
namespace Go.Proofs.q
open Go.RowKit Go.Shelf
variable{v:dI}{c:Nat}{w:aa}{m:List Int}{L:List Rw}{cv:aj}
def eB.zX{n a}(h:eB n a L):rH L:=by
 refine⟨h.sorted,by have:=h.j9;omega,λr b=>?_,λr b=>?_⟩
 .have q:=h.row r b;refine⟨q.hi,by obtain z|z:=q.an<;>omega,by rw[q.bi];omega,by rw[q.bi];omega,λ_=>by rw[q.bi];omega⟩
 .have q:=h.row r b;obtain⟨d,i,e⟩:=q.pf;have f:r.addr=(bh d).addr:=congrArg Pf.addr e;have g:r.len=(bh d).len:=congrArg Pf.len e;refine⟨by rw[f];simp only[bh];omega,?_,by rw[q.tag];rfl,?_⟩
  .rw[f,g];obtain rfl|rfl|rfl|rfl|rfl:d=0\/d=1\/d=2\/d=3\/d=4:=a9h
   all_goals decide
  .have:=q.lo;have:=q.hi;unfold fH;simp;omega
def a5B{R V g}(h:gp v c w R m L V cv g)(i:rH L)(b:m.length<=8):Calls Gh.prog.{0} 21 #[.pointer (some ⟨R,0,none⟩)] w λe d=> ∃u f a,e=.returned u/\gp (fP v w.heap.size c) c d R m (d7 L) f cv a/\cO (·=c) v (fP v w.heap.size c) w d/\ju (fP v w.heap.size c) c d 64 2 u (m.length*aY L.length) (jI m.length L):=
 (a5F R V 0 m L cv g w h.at b (by have:=i.len;omega) i.uL).mono λ_ _ ⟨u,f,a,he,h',hg,hv,hr,ho⟩=>⟨u,f,a,he,(h.step h' hg hv hr).1,(h.step h' hg hv hr).2,ju.new ho⟩
def VL{R V an j M}(i)(h:gp v c w R m L V cv j)(k:rH L)(l:rH M)(n:0<M.length)(d:M.length<=25)(o:an<m.length)(a:∀c∈m,1<=c/\c<=15):Calls Gh.prog.{0} 14 #[.pointer (some ⟨R,0,none⟩),.int .i64 an,ig (cT i M) 0] w λe w'=>e=.returned (.tuple #[.slice none 0 0,.nilIface])/\∃p f,gp (fP v w.heap.size c) c w' R m (dL L an m[an] (cT i M)) p cv f/\cO (·=c) v (fP v w.heap.size c) w w':=by
 have g:(cT i M).length<=25:=by simpa[cT]using d
 obtain⟨q,r⟩:=VF l.uL n d i;obtain⟨s,t,u⟩:=a9L q r;have b:(jd (eF 2 (cT i M))).data.toList=eF 2 (cT i M):=by simp[jd]
 rw[a0y g];have:=a1G h k o a (S0 g) (by rw[b];exact s) (by rw[b];exact t);rw[b,u]at this;exact this
def xd{w w':aa}{k}(h:w'.heap[k]?=w.heap[k]?)(o):w'.cell? ⟨k,o,none⟩=w.cell? ⟨k,o,none⟩:=by simp[World.cell?,h]
def CF{w w' ao l}(h:fO w ao l)(c:∀p,ao=some p->w'.heap[p.block]?=w.heap[p.block]?):fO w' ao l:=by
 obtain h|⟨b,a,rfl,d⟩:=h
 .exact .inl h
 .exact .inr ⟨b,a,rfl,λk e=>(xd (c _ rfl) _).trans (d k e)⟩
structure eA (v:dI) (w:aa) (y:Nat) (u far:Nat->Nat->Nat) (m:Nat->List Nat) (R:Nat->Nat) (T:Nat->List Rw):Prop where
 bn:y<w.heap.size/\v y=0
 fr:∀a b,a<5->b<5->w.cell? ⟨y,a*5+b,none⟩=some (.int .i64 (far a b:Nat))
 rt:∀a,a<5->w.cell? ⟨y,25+a,none⟩=some (.pointer (some ⟨R a,0,none⟩))
 sd:∀a,a<5->∃ao cap,w.cell? ⟨y,30+a,none⟩=some (.slice ao (m a).length cap)/\fO w ao ((m a).map Int.ofNat)/\∀p,ao=some p->p.block<w.heap.size/\v p.block=0/\p.block≠y
 rr:∀a,a<5->∃V cv rv,gp v (10+a) w (R a) ((m a).map λb=>(u a b:Int)) (T a) V cv rv
variable{v x:dI}{w w':aa}{y:Nat}{u far:Nat->Nat->Nat}{m:Nat->List Nat}{R:Nat->Nat}{T:Nat->List Rw}
def eA.il{C}(h:eA v w y u far m R T)(c:cO C v x w w')(h0: ¬C 0){a L}(n:∀b,b<5->b≠a->¬C (10+b))(o:a<5->∃V g i,gp x (10+a) w' (R a) ((m a).map λb=>(u a b:Int)) L V g i):eA x w' y u far m R (λb=>if b=a then L else T b):=by
 have j:w'.heap[y]?=w.heap[y]? :=c.keep y h.bn.1 (by rw[h.bn.2];exact h0);refine⟨⟨bL h.bn.1 c.size,(c.jm y h.bn.1).trans h.bn.2⟩,λa b f r=>(xd j _).trans (h.fr a b f r),λa f=>(xd j _).trans (h.rt a f),λa f=>?_,λb k=>?_⟩
 .obtain⟨s,l,q1,t,q3⟩:=h.sd a f;exact⟨s,l,(xd j _).trans q1,CF t λp d=>c.keep _ (q3 p d).1 (by rw[(q3 p d).2.1];exact h0),λp d=>⟨bL (q3 p d).1 c.size,(c.jm _ (q3 p d).1).trans (q3 p d).2.1,(q3 p d).2.2⟩⟩
 .by_cases e:b=a
  .subst e;rw[if_pos rfl];exact o k
  .rw[if_neg e];obtain⟨V,g,i,q⟩:=h.rr b k;exact⟨V,g,i,q.il c (n b k e)⟩
def eA.step(h:eA v w y u far m R T){a L V cv c}(d:cO (·=10+a) v x w w')(e:gp x (10+a) w' (R a) ((m a).map λb=>(u a b:Int)) L V cv c):eA x w' y u far m R (λb=>if b=a then L else T b):=
 h.il d a9h (λb _ f=>a9h) λ_=>⟨V,cv,c,e⟩
def eA.below(h:eA v w y u far m R T)(b:Below w.heap.size w w')(c):eA (fP v w.heap.size c) w' y u far m R T:=by
 have:=h.il (C:=λ_=>False) (a:=5) (L:=[]) (cO.below c b) id (λ_ _ _=>id) (λq=>a9h);refine⟨this.bn,this.fr,this.rt,this.sd,λa d=>?_⟩;have q:=this.rr a d
 rwa [if_neg a9h]at q
def TJ(l n):d9 (λa=>fR (fx l n) a 5) (fx l n):=by
 have z:∀a b,fx l n a b≠0->a<5/\b<5/\a≠b:=λa b h=>by
  unfold fx at h;split at h
  .rename_i q;exact⟨q.1,q.2.1,q.2.2.1⟩
  .exact absurd rfl h
 refine⟨TI l n,λa=>List.Pairwise.filter _ List.nodup_range,λa b=>?_,λa b h=>eQ λq=>by have:=(z a b q).1;omega,λa=>eQ λq=>(z a a q).2.2 rfl,λa=>zN _ a 5⟩;unfold fR;simp only[b0y,pK,decide_eq_true_eq];exact⟨λh=>h.2,λh=>⟨(z a b h).2.1,h⟩⟩
def oN(P m:Nat->Nat)(b:Nat):Nat:=if P 0<=b/\b<m 1 then 10 else if P 1<=b/\b<m 2 then 11 else if P 2<=b/\b<m 3 then 12 else if P 3<=b/\b<m 4 then 13 else if P 4<=b/\b<m 5 then 14 else 0
section
variable{w u wr:aa}{F:Nat->Nat->Nat}{R:Nat->Nat}{Q:Nat->aj}{m P:Nat->Nat}{a b:Nat}
def Eo(wr:aa)(F:Nat->Nat->Nat)(R:Nat->Nat)(m P:Nat->Nat)(x V:Nat)(cv c:aj):Prop:=
 dK wr (P x) (R x) (jj F x 5) [fJ (bh x)] V cv c/\jO wr cv/\(∃a,c=.slice a 1 1)/\R x<m (x+1)/\V<m (x+1)/\(∀g,cv.ownBlock=some g->g<m (x+1))/\∀g,c.ownBlock=some g->g<m (x+1)
def nz(B:Nat)(wr:aa)(F:Nat->Nat->Nat)(R:Nat->Nat)(Q:Nat->aj)(m P:Nat->Nat)(b:Nat):Prop:=
 b=0\/b=1\/b=B\/∃x,x<5/\((Q x).ownBlock=some b\/∃V c d,Eo wr F R m P x V c d/\(b=R x\/b=V\/c.ownBlock=some b\/d.ownBlock=some b))
def gE.marks(h:gE w wr F 5 R Q m P):w.heap.size<m 0/\m 0<=P 0/\P 0<=m 1/\m 1<=P 1/\P 1<=m 2/\m 2<=P 2/\P 2<=m 3/\m 3<=P 3/\P 3<=m 4/\m 4<=P 4/\P 4<=m 5:=
 ⟨h.z,(h.mo 0 a9h).1,(h.mo 0 a9h).2,(h.mo 1 a9h).1,(h.mo 1 a9h).2,(h.mo 2 a9h).1,(h.mo 2 a9h).2,(h.mo 3 a9h).1,(h.mo 3 a9h).2,(h.mo 4 a9h).1,(h.mo 4 a9h).2⟩
def xk(h:gE w wr F 5 R Q m P){x}(e:x<5)(c:P x<=b)(d:b<m (x+1)):oN P m b=10+x:=by
 obtain⟨_,_,_,_,_,_,_,_,_,_,_⟩:=h.marks;unfold oN;obtain rfl|rfl|rfl|rfl|rfl:x=0\/x=1\/x=2\/x=3\/x=4:=a9h
 all_goals
  simp only[dC,Nat.reduceAdd]at c d
  repeat' split
  all_goals omega
def Qf(h:gE w wr F 5 R Q m P){x}(c:x<5)(d:m x<=b)(e:b<P x):oN P m b=0:=by
 obtain⟨_,_,_,_,_,_,_,_,_,_,_⟩:=h.marks;unfold oN;obtain rfl|rfl|rfl|rfl|rfl:x=0\/x=1\/x=2\/x=3\/x=4:=a9h
 all_goals
  repeat' split
  all_goals omega
def E6(h:gE w wr F 5 R Q m P)(c:b<=w.heap.size):oN P m b=0:=by
 obtain⟨_,_,_,_,_,_,_,_,_,_,_⟩:=h.marks;unfold oN
 repeat' split
 all_goals omega
def gE.Ke(h:gE w wr F 5 R Q m P){x}(c:x<5):∃V d rv,Eo wr F R m P x V d rv:=h.rt x c
def gE.Ya(h:gE w wr F 5 R Q m P)(j:∀b,nz w.heap.size wr F R Q m P b->u.heap[b]?=wr.heap[b]?):eA (oN P m) u w.heap.size F F (λa=>fR F a 5) R kc:=by
 have o:aE u w.heap.size (fN F (λx=>if x<5 then .pointer (some ⟨R x,0,none⟩)else .pointer none) λx=>if x<5 then Q x else .slice none 0 0) 74:=(j _ (.inr (.inr (.inl rfl)))).trans h.b;have O:∀b,nz w.heap.size wr F R Q m P b->b<wr.heap.size->b<u.heap.size:=λb l E=>by have:u.heap[b]?=some wr.heap[b]:=(j b l).trans (eY E);exact(bz.1 this).1
 refine⟨⟨o.lt,E6 h (az _)⟩,λa b d l=>(o.cell _).trans (Cr _ _ _ d l),λa d=>?_,λa d=>?_,λa d=>?_⟩
 .have:=(o.cell (25+a)).trans (Iz _ _ _ d)
  rwa [if_pos d]at this
 .have s:=(o.cell (30+a)).trans (Cs _ _ _ d);rw[if_pos d]at s;obtain⟨C,D⟩:=h.sd a d;have t:∀g,(Q a).ownBlock=some g->nz w.heap.size wr F R Q m P g:=λg v=>.inr (.inr (.inr ⟨a,d,.inl v⟩));have n:=C.keep (w':=u) λg v=>j g (t g v);obtain⟨H,y,e,_,z,_⟩:=n.slice;rw[e,b0A]at s;refine⟨H,y,s,z,λp I=>?_⟩;have f:(Q a).ownBlock=some p.block:=by rw[e,I];rfl
  refine⟨(n.blk f).2,Qf h d (n.blk f).1 (D _ f),λe=>?_⟩;have l:=(n.blk f).1;rw[e]at l;obtain⟨_,_,_,_,_,_,_,_,_,_,_⟩:=h.marks;obtain rfl|rfl|rfl|rfl|rfl:a=0\/a=1\/a=2\/a=3\/a=4:=a9h
  all_goals omega
 .obtain⟨V,A,B,q⟩:=h.Ke d;have r:∀b,(b=R a\/b=V\/A.ownBlock=some b\/B.ownBlock=some b)->nz w.heap.size wr F R Q m P b:=λb l=>.inr (.inr (.inr ⟨a,d,.inr ⟨V,A,B,q,l⟩⟩));obtain⟨i,C,D,n,J,K,L⟩:=q;have M:kc a=[fJ (bh a)]:=if_pos d;rw[M];have N:(fR F a 5).map (λb=>(F a b:Int))=jj F a 5:=rfl;rw[N];refine⟨V,A,B,⟨(j _ (r _ (.inl rfl))).trans i.blk,xk h d i.new.1 n⟩,⟨(j _ (r _ (.inr (.inl rfl)))).trans i.view,xk h d i.new.2 J⟩,⟨dY (vR i.aH λk c=>j k (r k (.inr (.inr (.inl c))))) (iP _),λk c=>xk h d (qw i.aH c).1 (K k c)⟩,⟨dY (vR i.rows λk c=>j k (r k (.inr (.inr (.inr c))))) (iP _),λk c=>xk h d (qw i.rows c).1 (L k c)⟩⟩
end
end Go.Proofs.q
end
section
namespace Go.Proofs.q
open Go.RowKit Go.Shelf
attribute [local go_sem ↓] Go.wp_at_zero Go.wp_at_succ
variable{n far:Nat->Nat->Nat}{m:Nat->List Nat}{T:Nat->List Rw}
def gg(m:Nat->List Nat)(n far:Nat->Nat->Nat)(a k:Nat)(M:List Rw)(T:Nat->List Rw):Nat->List Rw:=λb=>if b∈(m a).take k/\far a b≠0 then dL (T b) (idx m b a) (n a b) (cT (idx m a b) M)else T b
def a0l(a M):gg m n far a 0 M T=T:=by funext b;simp[gg]
def VX(G:d9 m n){a k b}(h:(m a)[k]?=some b):idx m a b=k:=yM (G.nd a) (nO G ((G.mem a b).1 (b0T h))).1 h
def DQ{l:List Nat}{k b}(h:l[k]?=some b)(x):x∈l.take (k+1)↔x∈l.take k\/x=b:=by obtain⟨a,e⟩:=nh.1 h;rw[oA a,e];simp
def a0i{a k b}(M)(h:(m a)[k]?=some b)(c:far a b=0):gg m n far a (k+1) M T=gg m n far a k M T:=by
 funext x;unfold gg;simp only[DQ h];by_cases e:x=b
 .subst e;simp[c]
 .simp[e]
def JA(G:d9 m n){a k b}(M)(h:(m a)[k]?=some b):gg m n far a k M T b=T b:=by
 refine if_neg λz=>?_;obtain⟨q,c,e⟩:=ox z.1;have d:q<k:=by simp at c;omega
 have:(m a)[q]?=some b:=by rw[b0o]at e;rw[iM (by simp at c;omega),e]
 have:=yM (G.nd a) this h;omega
def VV(l:List Nat)(x:Nat):(l.map Int.ofNat).idxOf (x:Int)=l.idxOf x:=by
 induction l with
 |nil=>rfl
 |cons y l a=>
  rw[dq,b0X,b0X,a];have:(Int.ofNat y==(x:Int))=(y==x):=by
   by_cases h:y=x
   .subst h;simp
   .rw[beq_false_of_ne h,beq_false_of_ne λq:Int.ofNat y=(x:Int)=>h (Int.ofNat.inj q)]
  rw[this]
def JH(G:d9 m n){a b}(h:n b a≠0):qz ((m b).map Int.ofNat) (a:Int)=(idx m b a:Nat):=by unfold qz;have c:(a:Int)∈(m b).map Int.ofNat:=eS.2 ⟨a,(G.mem b a).2 h,rfl⟩;rw[if_pos c,VV];rfl
def a0f(G:d9 m n){a k b}(M)(h:(m a)[k]?=some b)(d:far a b≠0):gg m n far a (k+1) M T=λx=>if x=b then dL (gg m n far a k M T b) (idx m b a) (n a b) (cT k M)else gg m n far a k M T x:=by
 have f:b∉(m a).take k:=λg=>by
  obtain⟨q,c,e⟩:=ox g;have i:q<k:=by simp at c;omega
  have:(m a)[q]?=some b:=by rw[b0o]at e;rw[iM (by simp at c;omega),e]
  have:=yM (G.nd a) this h;omega
 funext x;by_cases e:x=b
 .subst e;rw[if_pos rfl];have j:gg m n far a k M T x=T x:=if_neg λq=>f q.1;rw[j];unfold gg;rw[if_pos ⟨(DQ h x).2 (.inr rfl),d⟩,VX G h]
 .rw[if_neg e];unfold gg;simp only[DQ h,e,or_false]
def a0b(G:d9 m n)(F:fW n far)(a):(λb=>if b=a then d7 (T a)else gg m n far a (m a).length (T a) T b)=iK m n far a T:=by
 funext b;unfold iK gg;by_cases e:b=a
 .simp[e]
 .rw[if_neg e,if_neg e,pN];by_cases c:far a b≠0
  .rw[if_pos ⟨(G.mem a b).2 (l7 G F c).2.2.2.1,c⟩,if_pos c]
  .rw[if_neg (λq=>c q.2),if_neg c]
end Go.Proofs.q
end
