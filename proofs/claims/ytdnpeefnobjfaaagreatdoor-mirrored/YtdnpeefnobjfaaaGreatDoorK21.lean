import Derived.Laws.LoneSync
import Derived.Lib.AppendZeros
import Derived.Maps.AppendAt
import Derived.OwnWalk
import Derived.Test.YtdnpeefnobjfaaaGreatDoorK17
import Derived.Test.YtdnpeefnobjfaaaGreatDoorK20
set_option maxRecDepth 100000
set_option maxHeartbeats 4000000
set_option linter.all false
section
namespace Go.Proofs.q
section
universe u
open Go.RowKit
attribute [local go_sem ↓] Go.wp_at_zero Go.wp_at_succ
def dq(l:List Int):List af:=l.map (.int .i64)
def AN(l):(dq l).length=l.length:=by simp[dq]
def a5I(l):∀u∈dq l,u.oneCell'=true:=by intro u a;simp only[dq,eS]at a;obtain⟨x,_,rfl⟩:=a;rfl
def Xp{w b a l}(h:oS w b a l):∀j u,(dq l)[j]?=some u->w.cell? ((⟨b,a,none⟩:ap).add j)=some u:=by
 intro j u c;have d:j<l.length:=by
  have:=(List.getElem?_eq_some_iff.1 c).1
  rwa [AN]at this
 have:=h j d;rw[show(⟨b,a,none⟩:ap).add j=⟨b,a+j,none⟩by unfold Addr.add;split<;>simp_all];rw[this];simp[dq,d]at c;rw[c]
def kF(w:aa)(v:af):Prop:=∀a n c,v=.slice (some a) n c->∃b,w.heap[a.block]?=some (.cells b 3)/\∀x∈b,∃i,x=Value.int .i64 i
def Nv(b m n cap l w)(s:l.length=n)(h0:0<n)(P:n<=8)(M:b<w.heap.size)(J:oS w b m l):Calls Gh.prog.{u} 36 #[.slice (some ⟨b,m,none⟩) n cap] w λe t=> ∃v,e=.returned v/\t.ownsRow w.heap.size 3 1 v n (dq l)/\Below w.heap.size w t/\(0<n->kF t v):=by
 obtain⟨N,y,z,A,B⟩:=info_parts Gh.Ac.{u};have Q:∀(w:aa) (a:Option ap) (n c C D:Nat),(binOp .eql 22 (.slice a n c) (.slice none C D)).run Gh.prog.{u} w=.ok (.bool a.isNone) w:=λw a n c C D=>Lib.run_eql_slice_nil w _ _ a n c C D Gh.underlying22;have g:∀E,(Builtin.append_ #[22,22] E #[.slice (some ⟨w.heap.size,0,none⟩) 0 0,.slice (some ⟨b,m,none⟩) n cap]).run Gh.prog.{u} (w.alloc (.cells #[] 3))=
   .ok (.slice (some ⟨(w.alloc (.cells #[] 3)).heap.size,0,none⟩) (0+n) (grownCap (w.alloc (.cells #[] 3)) (0+n) 0 3)) ((w.alloc (.cells #[] 3)).drew.alloc (.cells (([]:List af).toArray++(dq l).toArray++Builtin.zeroCells (Value.int .i64 0).cells (grownCap (w.alloc (.cells #[] 3)) (0+n) 0 3 - (0+n))) 3)):=λE=>
  run_append_grow _ 22 E 3 N _ Gh.underlying22 y z ⟨w.heap.size,0,none⟩ 0 0 [] (by simp) (by intro j v h;simp at h) ⟨b,m,none⟩ n cap (dq l) (by rw[AN,s,A];omega) (Xp (GQ J (bH w (.cells #[] 3)) M)) (by omega) (by omega) (by rw[B];exact growslice_fits (by omega) (by omega))
 simp only[dG]at g;have F:n<=grownCap (w.alloc (.cells #[] 3)) n 0 3:=grownCap_ge _ _ _ _;have H:=grownCap_le_maxLen (w.alloc (.cells #[] 3)) n 0 3 (by unfold maxLen;omega);generalize grownCap (w.alloc (.cells #[] 3)) n 0 3=G at*;obtain⟨d,f⟩:∃d:Array af,d=([]:List af).toArray++(dq l).toArray++Builtin.zeroCells (Value.int .i64 0).cells (G - n):=⟨_,rfl⟩;rw[<-f]at g;have K:d.size=G*1/\d.toList.take (n*1)=dq l:=by
  have L:(dq l).length=n*1:=by rw[AN,s];omega
  constructor
  .rw[f];simp only[a6J,fS,size_zeroCells,L];simp[Value.cells];omega
  .rw[f,<-L];simp
 have o:∀x∈d,∃i,x=Value.int .i64 i:=by
  intro x I;rw[f]at I;simp only[l8,dK]at I;obtain(h|h)|h:=I
  .simp at h
  .simp only[dq,eS]at h;obtain⟨i,_,rfl⟩:=h;exact⟨i,rfl⟩
  .simp only[Builtin.zeroCells,l9]at h;obtain⟨i,_,rfl⟩:=h;refine⟨0,?_⟩;simp[Value.cells,Nat.mod_one]
 have r:=am K;have O:=am o;clear f s J K o;go_enter Gh.func36,Tryz.ntmps36;go_wp2_with (at_builtin;go_loud (refine Lib.wpList_append_run _ rfl _ _ _ _ rfl _ _ rfl rfl _ _ (g _) ?_));go_ret;have p:((w.alloc (.cells #[] 3)).alloc (.cells d 3)).drew.heap[w.heap.size+1]?=some (.cells d 3):=by have:=heap_alloc_new (w.alloc (.cells #[] 3)) (.cells d 3);rw[World.size_alloc]at this;exact this
 have q:(dq l).length=n*1:=by rw[<-(ai r).2,it,a6m,(ai r).1];omega
 refine⟨_,rfl,⟨q,.inr ⟨_,G,d,rfl,by omega,p,F,H,(ai r).1,(ai r).2⟩⟩,((bH w _).alloc (by simp) _).drew,λ_ a k c e=>?_⟩;cases e;exact⟨d,p,ai O⟩
def Nw(a cap w):Calls Gh.prog.{u} 36 #[.slice (some a) 0 cap] w λe w'=> ∃v,e=.returned v/\w'.ownsRow w.heap.size 3 1 v 0 []/\Below w.heap.size w w':=by obtain⟨m,d,f,g,h⟩:=info_parts Gh.Ac.{u};have q:∀(w:aa) (a:Option ap) (n c i k:Nat),(binOp .eql 22 (.slice a n c) (.slice none i k)).run Gh.prog.{u} w=.ok (.bool a.isNone) w:=λw a n c i k=>Lib.run_eql_slice_nil w _ _ a n c i k Gh.underlying22;go_enter Gh.func36,Tryz.ntmps36;go_wp2_with (at_builtin;go_loud (refine wpList_append_own _ rfl (.tmp 5) (.tmp 6) 22 rfl w.heap.size 3 m (.int .i64 0) 1 8 Gh.underlying22 d f g h rfl (by decide) (.slice (some ⟨w.heap.size,0,none⟩) 0 0) 0 [] rfl ⟨rfl,.inr ⟨w.heap.size,0,#[],rfl,aF _,by exact heap_alloc_new w _,aF _,by unfold maxLen;omega,rfl,rfl⟩⟩ a 0 cap [] rfl rfl (by intro j u o;simp at o) (by simp) (by decide) (by decide) (by simp) ?_;intro r s b l p));go_ret;exact⟨_,rfl,b,(bH w _).trans ((Below.refl _ _).grown l (by simp) (by simp[Value.ownBlock]))⟩
def Nu(w):Calls Gh.prog.{u} 36 #[.slice none 0 0] w λe w'=> ∃v,e=.returned v/\w'.ownsRow w.heap.size 3 1 v 0 []/\Below w.heap.size w w':=by have f:∀(w:aa) (a:Option ap) (n c b d:Nat),(binOp .eql 22 (.slice a n c) (.slice none b d)).run Gh.prog.{u} w=.ok (.bool a.isNone) w:=λw a n c b d=>Lib.run_eql_slice_nil w _ _ a n c b d Gh.underlying22;go_enter Gh.func36,Tryz.ntmps36;go_wp2;go_ret;exact⟨_,rfl,World.ownsRow_nil _ _ _ _,Below.refl _ _⟩
def Nt(ao n cap l w)(d:l.length=n)(j:n<=8)(c:ao=none->n=0/\cap=0)(k:jm w ao l):Calls Gh.prog.{u} 36 #[.slice ao n cap] w λe f=> ∃v,e=.returned v/\f.ownsRow w.heap.size 3 1 v n (dq l)/\Below w.heap.size w f/\(0<n->kF f v):=by
 by_cases h0:n=0
 .subst h0;have:l=[]:=fq d;subst this;cases ao with
  |none=>obtain⟨_,rfl⟩:=c rfl;exact(Nu w).mono λ_ _ ⟨v,h1,h2,h3⟩=>⟨v,h1,h2,h3,λh=>absurd h (a7h _)⟩
  |some a=>exact(Nw a cap w).mono λ_ _ ⟨v,h1,h2,h3⟩=>⟨v,h1,h2,h3,λh=>absurd h (a7h _)⟩
 .rcases k with rfl|⟨b,g,rfl,i⟩
  .simp at d;omega
  .exact Nv b g n cap l w d (by omega) j (GR i (by omega)) i
end
section
universe u
open Go.RowKit Go.Shelf
attribute [local go_sem] Oper.semAt_some
def wK(p:Pf):Array af:=#[.agg #[.int .u32 p.addr,.int .i64 p.len]]
def a2Y(F n)(O:F.fn 131)(m:F.round=none)(U:1<=n)(l z f b g len cap L)(A:L.length=len)(B:len<=1000000)(P:b<f)(J C:List Pf->aa->Prop)(W)(o:f<=W.heap.size)(p:AbidesFrom W.heap.size J)(Q:∀a x W,J a W->a.length<len->YieldAt F (n - 1) Gh.prog.{u} l (wK x) W λe d=>(e=.returned (.bool true)/\J (a++[x]) d/\Below f W d)\/(e=.returned (.bool false)/\C (a++[x]) d))(R:W.cell? ⟨z,0,none⟩=some (.slice (some ⟨b,g,none⟩) len cap))(D:gW W b g L)(h0:J [] W):CallsIn F n Gh.prog.{u} 131 #[.func (.yield l) #[] #[],.pointer (some ⟨z,0,none⟩)] W λe d=>(∃v,e=.returned v)/\((∃H,H=L/\J H d)\/(∃a,a<+:L/\C a d)):=by
 refine callsIn_of_wp Gh.func131 rfl O ?_ m;simp only[Tryz.ntmps131,fS,gu,gv,Nat.reduceAdd,Nat.reduceSub,j9,ka,kg,ke,gP,fy];have I:=am A;have S:=am D;clear A D
 gi_wp2
 gi_loopw [7] (λi wr=> ∃k:Nat,k<=len/\i=.int .i64 k/\J (L.take k) wr/\Below f W wr)
  (λi _=>len - (intOf i).toNat)
 case atStart=>exact⟨0,m8 _,rfl,by simpa using h0,Below.refl _ _⟩
 case round=>
  obtain⟨k,V,rfl,h,c⟩:=hrel;by_cases q:k<len
  .have K:k<L.length:=by rw[ai I];exact q
   obtain⟨X,c1⟩:=nI (ai S) c P k K;have Y:(0:Int)<=(k:Int):=by omega
   have Z:(k:Int)<(len:Int):=by omega
   have s:f<=wr.heap.size:=dF o c.size;have t:=p _ _ _ _ h (World.grownBy_alloc wr (.cells #[.int .u32 L[k].addr,.int .i64 L[k].len] 32) none) (λr e=>by cases e);obtain⟨fn,M,assign,body,T,N⟩:=Q _ L[k] _ t (by rw[it];omega);rw[<-kL K]at N;simp only[wK]at T;generalize L[k]=E at*
   gi_wp2
   refine N.mono ?_;rintro e W3 (⟨rfl,w,y⟩|⟨rfl,j⟩)
   .gi_wp2
    go_roundw
    case rel=>exact⟨k+1,by omega,by go_num,w,(c.alloc s _).trans y⟩
    case measure=>simp[intOf];omega
   .gi_wp2
    refine bodyPost_ret (results_none rfl _ _ _) rfl ?_;exact⟨⟨_,rfl⟩,.inr ⟨_,List.take_prefix _ _,j⟩⟩
  .obtain rfl:k=len:=by omega
   gi_wp2
   go_end0;exact⟨⟨_,rfl⟩,.inl ⟨_,by rw[<-ai I,nX],h⟩⟩
def a2Z(F n)(d:F.fn 131)(a:F.round=none)(l c cap ao)(J:List Pf->aa->Prop)(W)(f:W.cell? ⟨c,0,none⟩=some (.slice ao 0 cap))(h0:J [] W):CallsIn F n Gh.prog.{u} 131 #[.func (.yield l) #[] #[],.pointer (some ⟨c,0,none⟩)] W λe W'=>(∃v,e=.returned v)/\J [] W':=by
 refine callsIn_of_wp Gh.func131 rfl d ?_ a;simp only[Tryz.ntmps131,fS,gu,gv,Nat.reduceAdd,Nat.reduceSub,j9,ka,kg,ke,gP,fy]
 gi_wp2
 gi_loopw [7] (λi wr=>i=.int .i64 0/\J [] wr) (λ_ _=>0)
 case atStart=>exact⟨rfl,h0⟩
 case round=>
  obtain⟨rfl,b⟩:=hrel
  gi_wp2
  go_end0;exact⟨⟨_,rfl⟩,b⟩
def a3b(F n)(q:F.fn 131)(f:F.round=none)(s:1<=n)(d g cap ao L)(h:L.length<=1000000)(w)(j:d<g)(c:g<=w.heap.size)(t:w.cell? ⟨d,0,none⟩=some (.slice ao L.length cap))(hI:L=[]\/∃b a,ao=some ⟨b,a,none⟩/\b<g/\gW w b a L):SeqStopsK F n Gh.prog.{u} 131 #[.pointer (some ⟨d,0,none⟩)] wK (Below g) (λv=>v=L) (λk=>k<+:L) L.length w:=λl J x W m y _ z h0=>by
 have i:=(m.cell (p:=⟨d,0,none⟩) (cG j c)).trans t;obtain rfl|⟨b,a,rfl,r,o⟩:=hI
 .exact(a2Z F n q f l d cap ao J W i h0).mono λe B ⟨A,hj⟩=>⟨A,.inl ⟨_,rfl,hj⟩⟩
 .exact a2Y F n q f s l d g b a L.length cap L rfl h r J x W (dF c m.size) y z i (nI o m (cG r c)) h0
def a3a(a len cap w):Calls Gh.prog.{u} 81 #[.slice a len cap] w λe b=>e=.returned (.func (.func 131) #[] #[.pointer (some ⟨w.heap.size,0,none⟩)])/\b=w.alloc (.cells #[.slice a len cap] 23):=by
 refine(callsIn_wide (n:=3)).1 ?_;refine callsIn_of_wp Gh.func81 rfl trivial ?_ rfl;simp only[Tryz.ntmps81,fS,gu,gv,Nat.reduceAdd,Nat.reduceSub,j9,ka,kg,ke,gP,fy]
 gi_wp2
 go_ret;exact⟨rfl,rfl⟩
def jp(L:List Pf):List af:=L.flatMap λp=> [.int .u32 p.addr,.int .i64 p.len]
def Yo(L):(jp L).length=L.length*2:=by
 induction L with
 |nil=>rfl
 |cons p r a=>simp only[jp,jF,ia,gu,gv]at a⊢;omega
def Yp(L p):jp (L++[p])=jp L++[.int .u32 p.addr,.int .i64 p.len]:=by simp[jp]
theorem Gh.Tx:(Gh.prog.{u}.info? 32).map (λi=>(i.zero,i.size,i.bytes))=some (some (.agg #[.int .u32 0,.int .i64 0]),2,16):=by kernel_rfl
def L0(k cap ao L)(s:L.length<=1000000)(w)(t:k<w.heap.size)(m:w.cell? ⟨k,0,none⟩=some (.slice ao L.length cap))(x:lm w ao L):Calls Gh.prog.{u} 168 #[.slice none 0 0,.func (.func 131) #[] #[.pointer (some ⟨k,0,none⟩)]] w λe w'=> ∃v,e=.returned v/\w'.ownsRow w.heap.size 32 2 v L.length (jp L)/\Below w.heap.size w w':=by
 obtain⟨i0,hi,F,H,I⟩:=info_parts Gh.Tx.{u};have J:L=[]\/∃b f,ao=some ⟨b,f,none⟩/\b<w.heap.size/\gW w b f L:=by
  obtain h|⟨b,f,M,m⟩:=x
  .exact .inl h
  .by_cases h0:0<L.length
   .exact .inr ⟨b,f,M,te m h0,m⟩
   .exact .inl (fq (by omega))
 refine(callsIn_wide (n:=6)).1 ?_;refine callsIn_of_wp_marks Gh.func168 rfl trivial ?_ rfl;simp only[Tryz.ntmps168,fS,gu,gv,Nat.reduceAdd,Nat.reduceSub,j9,ka,kg,ke,gP,fy]
 gi_wp2
 have T:=Boxed.new w 23 (.slice none 0 0);have j:Below w.heap.size w (w.alloc (.cells #[.slice none 0 0] 23)):=(Below.refl _ w).alloc (aF _) _;have N:(w.alloc (.cells #[.slice none 0 0] 23)).heap.size=w.heap.size+1:=by simp
 obtain⟨W0,z⟩:∃W0,w.alloc (.cells #[.slice none 0 0] 23)=W0:=⟨_,rfl⟩;rw[z]at T j N⊢;clear z;have O:L=[]\/∃b f,ao=some ⟨b,f,none⟩/\b<w.heap.size/\gW W0 b f L:=by
  obtain h|⟨b,f,M,U,m⟩:=J
  .exact .inl h
  .exact .inr ⟨b,f,M,U,nI m j U⟩
 refine wpIn_rangeFunc_ownH rfl (by decide) (gf:=131) (lb:=#[.pointer (some ⟨k,0,none⟩)]) rfl trivial (enters_of Gh.func131 (by kernel_rfl) rfl)
  (a3b Fence.wide (6 - 1) trivial rfl (by decide) k w.heap.size cap ao L s W0 t (by omega) ((j.cell (p:=⟨k,0,none⟩) t).trans m) O) belowK_t (belowK_b (by omega)) (Below.refl _ _) (λ_=>rfl)
  (λa W=>(∃v,Boxed W w.heap.size 23 v/\W.ownsRow w.heap.size 32 2 v a.length (jp a)/\True)/\Below w.heap.size w W)
  (λ_ _ _=>False)
  (OwnFrom.and (Own.from (holdsRow_own w.heap.size w.heap.size 23 32 2 (λ(a:List Pf)=>a.length) (λ(a:List Pf)=>jp a) (λ_ _=>True)) _) (ownFrom_below (aF _) (by omega)))
  (λ_ _ _ _ _ x _ _=>x)
  ⟨⟨_,T,World.ownsRow_nil _ _ _ _,trivial⟩,j⟩
  (λy P W=> ∃Bx,w.heap.size<Bx/\aK W Bx #[.int .u32 y.addr,.int .i64 y.len] 32/\P={tmps:=#[.slice none 0 0,.func (.func 131) #[] #[.pointer (some ⟨k,0,none⟩)],.pointer (some ⟨w.heap.size,0,none⟩),undef,.slice none 0 0,.pointer (some ⟨Bx,0,none⟩),.func (.func 131) #[] #[.pointer (some ⟨k,0,none⟩)],.agg #[.int .u32 y.addr,.int .i64 y.len],undef,undef,undef,undef,undef],defers:=[]})
  ?hAx ?assign ?body ?done ?stop
 case hAx=>intro y P _ X Y row x hg V;obtain⟨Bx,h1,h2,h3⟩:=x;exact⟨Bx,h1,aK.own (β:=Unit) _ (λ_=>_) _ () X Y row h2 hg (λr e=>(V r e).2),h3⟩
 case assign=>
  rintro l a y W K ⟨⟨v,o,d,_⟩,g⟩ A;simp only[wK]
  gi_wp2
  exact A _ _ ((KeepsOthers.alloc _ _).from _) ((Below.refl _ W).alloc g.size _) ⟨⟨v,o.alloc _,d.alloc _,trivial⟩,g.alloc g.size _⟩ ⟨W.heap.size,o.lt,aK.new W _ _,rfl⟩
 case body=>
  rintro l a y P W hl ⟨r,V⟩ ⟨⟨v,o,d,_⟩,g⟩ ⟨Bx,ab,B,rfl⟩ ad;have ae:=o.cell;have c0:W.cell? ⟨Bx,0,none⟩=some (.int .u32 y.addr):=B.cell 0;have c1:W.cell? ⟨Bx,1,none⟩=some (.int .i64 y.len):=B.cell 1;have ag:a.length<1000000:=by omega
  gi_wp2_with (gi_at_builtin;go_loud (refine wpListIn_append_own _ rfl _ _ 23 rfl w.heap.size 32 i0 (.agg #[.int .u32 0,.int .i64 0]) 2 16 Gh.underlying23 hi F H I rfl (by decide) _ _ _ rfl (d.alloc _) ⟨W.heap.size,0,none⟩ 1 1 [.int .u32 y.addr,.int .i64 y.len] rfl rfl (by exact World.news_of_block (heap_alloc_new W _)) (by simp[Value.oneCell']) (by unfold maxLen;omega) (by omega) (by have:=g.size;simp;omega) ?_;intro v' w1 i q _;obtain⟨g',Z,rfl⟩:=ownsRow_succ i;obtain⟨C,Q,R,S,E⟩:=o.appended (by decide) d g.size (aF _) i q;have al:=C.cell;have aq:=C.frozen))
  exact⟨S.from _,E,⟨_,Q,by rw[Yp,ia];exact R,trivial⟩,g.trans E⟩
 case done=>
  rintro D ys W hD rfl ⟨⟨v,o,d,_⟩,hB⟩ A;have m:=o.cell
  gi_wp2
  refine⟨by simp,.inl ⟨_,_,rfl,run_takeDeferred A,?_⟩⟩;exact⟨_,results_tmp rfl _ _ _,v,rfl,ownsRow_putObj d _ A rfl,hB.trans (belowK_b (w:=w) (aF _) W D _ _ (by omega) A rfl rfl)⟩
 case stop=>rintro D c a W _ _ h _;exact h.elim
end
section
universe u
open Go.RowKit Go.Shelf Go.Sort
def fk(p q:Pf):Prop:=p.addr<q.addr\/p.addr=q.addr/\p.len<q.len
def CV(p q):iT p q<0↔fk p q:=by
 unfold iT ie fk;by_cases a:p.addr<q.addr
 .simp[a]
 .by_cases c:q.addr<p.addr
  .simp[a,c];omega
  .have:p.addr=q.addr:=by omega
   by_cases b:p.len<q.len
   .simp[this,b]
   .by_cases d:q.len<p.len<;>simp[this,b,d]
def vX(p q):(Go.Proofs.ltOf iT p q=true)↔fk p q:=by rw[<-CV];simp[Go.Proofs.ltOf]
def a1F:SWO (Go.Proofs.ltOf iT) where
 irrefl x:=by rw[<-a7j,vX];unfold fk;omega
 trans x y z h1 h2:=by rw[vX]at*;unfold fk at*;omega
 ntrans x y z h1 h2:=by rw[<-a7j,vX]at*;unfold fk at*;omega
def NC(b c a w):Go.Proofs.CmpLays Gh.prog.{u} 82 #[] ln 2 iT b c a w:=
 λ_ _ _ _ x y=>CX x y _
def Tp{w base g n cap L}(h:w.ownsRow base 32 2 (.slice (some ⟨g,0,none⟩) n cap) n (jp L)):HoldsK ln 2 w g 0 L.toArray:=by
 obtain⟨k,⟨a,_⟩|⟨u,v,b,a,_,l,o,_,e,m⟩⟩:=h
 .simp at a
 .simp at a;obtain⟨rfl,rfl⟩:=a;rw[Yo]at k;have f:L.length=n:=by omega
  intro j d;rw[size_flatK]at d;have c:j<L.length*2:=by simpa using d
  rw[get_flatK _ _ _ _ d];have a:(jp L)[j]?=some ((ln L.toArray[j / 2]!)[j%2]!):=by
   clear m d e k f;induction L generalizing j with
   |nil=>simp at c
   |cons p r q=>
    obtain rfl|rfl|x:=(by omega:j=0\/j=1\/2<=j)
    .rfl
    .rfl
    .obtain⟨i,rfl⟩:∃i,j=i+2:=⟨j - 2,by omega⟩;have:=q i (by simp at c;omega);have s:(i+2) / 2=i / 2+1:=by omega
     have t:(i+2)%2=i%2:=by omega
     rw[s,t];simpa[jp]using this
  constructor
  .rw[dG,show w.cell? ⟨g,j,none⟩=b[j]? by simp[World.cell?,l]];have:(b.toList.take (n*2))[j]?=(jp L)[j]? :=by rw[m]
   rw[a6s,if_pos (by omega)]at this;simp at this;rw[this,a];rfl
  .simp[World.frozen?,l]
def M5{w g d}(h:HoldsK ln 2 w g 0 d):gW w g 0 d.toList:=λk e=>by
 have a:k<d.size:=by simpa using e
 have b:=(h.cell (i:=k) (c:=0) a (by decide)).1;have c1:=(h.cell (i:=k) (c:=1) a (by decide)).1;rw[getElem!_pos d k a]at b c1;exact⟨by simpa[ln]using b,by simpa[ln]using c1⟩
def a1m(w g m d os k)(b:k<w.heap.size)(a:k≠g):(Go.Proofs.sortWorldK ln 2 w g 0 m d os).heap[k]?=w.heap[k]? :=by unfold Go.Proofs.sortWorldK putRowK putRow mapBlock Go.Sort.ahead Go.Sort.grow;simp only[a7k,Array.size_modify,b,if_true,j7];rw[if_neg (λe=>a e.symm)]
def ql(L:List Pf):Prop:=L.Pairwise λp q=> ¬fk q p
def a1o(base g cap L w)(t:L.length<=1000000)(F:base<=g)(h:w.ownsRow base 32 2 (.slice (some ⟨g,0,none⟩) L.length cap) L.length (jp L))(f:g<w.heap.size):Calls Gh.prog.{u} 130 #[.slice (some ⟨g,0,none⟩) L.length cap,.func (.func 82) #[] #[]] w λe w'=>e=.returned (.tuple #[])/\∃o,o.Perm L/\ql o/\gW w' g 0 o/\Below base w w':=by
 have y:=Tp h;have A:∀c w,(callFunc 82 c).run Gh.prog.{u} w=.ok (.enter 82 c) w:=enters_of Gh.func82 (by kernel_rfl) rfl;have a:=Go.Proofs.AnyQ.slices_SortFunc Gh.IU 2 Gh.isAgg32 Gh.sizeOf32 ln (λ_=>rfl) (λx v z=>by simp[ln]at z;obtain rfl|rfl:=z<;>rfl) iT a1F 82 #[] g 0 cap L.toArray w A (NC g 0 _ w) y f (by simp;omega);change Calls Gh.prog.{u} 130 _ _ _ at a;simp only[fS]at a;refine a.mono ?_;rintro e w' ⟨rfl,d',m,p,⟨l,_,b⟩,d,rfl⟩;have n:d'.size=L.length:=by simpa using l
 refine⟨rfl,d'.toList,?_,?_,M5 (Go.Proofs.holdsK_sortWorldK_c ln 2 w g 0 L.toArray d' m p y f l),?_⟩
 .have B:d'.extract 0 L.length=d':=by rw[<-n];simp
  have C:L.toArray.extract 0 L.length=L.toArray:=by simp
  rw[B,C]at b;simpa using b
 .unfold ql;rw[a6X];intro i j D E q;have r:i<d'.size:=by simpa using D
  have s:j<d'.size:=by simpa using E
  have:=d i j (m8 _) q (by omega);rw[getElem!_pos d' i r,getElem!_pos d' j s,<-a7j,vX]at this;simpa using this
 .exact⟨rfl,rfl,rfl,Go.Proofs.size_sortWorldK_c ln 2 w g 0 m d' p,λk H=>a1m w g m d' p k (by omega) (by omega)⟩
def TG(p cap a w):Calls Gh.prog.{u} 215 #[.slice p 0 cap,.int .i64 0,.int .i64 0,a] w λe b=>e=.returned (.tuple #[])/\b=w:=by go_enter Gh.func215,Tryz.ntmps215;go_wp2;refine wp_loop_rounds 1 ?_;rw[rounds_succ];go_wp2;go_end0;exact⟨rfl,rfl⟩
def Yl(p cap a b w):Calls Gh.prog.{u} 169 #[.slice p 0 cap,.int .i64 0,.int .i64 0,.int .i64 a,b] w λe c=>e=.returned (.tuple #[])/\c=w:=by have d:=TG.{u} p cap b w;go_enter Gh.func169,Tryz.ntmps169;go_wp2_with fail;refine wp_loop_rounds 1 ?_;rw[rounds_succ];go_wp2_with (go_at_call 215;refine d.mono ?_;rintro e f ⟨rfl,rfl⟩);refine bodyPost_ret (results_none rfl _ _ _) rfl ?_;exact⟨rfl,rfl⟩
def a1n(p cap c w):Calls Gh.prog.{u} 130 #[.slice p 0 cap,c] w λe a=>e=.returned (.tuple #[])/\a=w:=by
 have d:Calls Gh.prog.{u} 170 #[.int .u64 0] w λe a=>e=.returned (.int .i64 (Lib.bitLen 0:Nat))/\a=w:=
  Go.Proofs.Any.bits_Len (Go.Proofs.SlLaysF0.n15.bits (P:=Gh.prog.{u}) (ρ:=Gh.IV) {Gh.IU with}) 0 w (by omega) (by omega)
 have f:=λb=>Yl.{u} p cap b c w;go_enter Gh.func130,Tryz.ntmps130;go_wp2_with (first|(go_at_call 170;refine d.mono ?_;rintro e a ⟨rfl,rfl⟩)|(go_at_call 169;refine(f _).mono ?_;rintro e a ⟨rfl,rfl⟩));go_end0;exact⟨rfl,rfl⟩
def NI(c cap ao L)(a:L.length<=1000000)(w)(d:c<w.heap.size)(f:w.cell? ⟨c,0,none⟩=some (.slice ao L.length cap))(g:lm w ao L):Calls Gh.prog.{u} 129 #[.func (.func 131) #[] #[.pointer (some ⟨c,0,none⟩)]] w λe w'=> ∃v,e=.returned v/\w'.ownsRow w.heap.size 32 2 v L.length (jp L)/\Below w.heap.size w w':=by have h:=L0.{u} c cap ao L a w d f g;go_enter Gh.func129,Tryz.ntmps129;go_wp2_with (go_at_call 168;refine h.mono ?_;rintro e j ⟨v,rfl,b,i⟩);go_ret;exact⟨v,rfl,b,i⟩
def a1p(k cap ao L)(d:L.length<=1000000)(w)(l:k<w.heap.size)(m:w.cell? ⟨k,0,none⟩=some (.slice ao L.length cap))(n:lm w ao L):Calls Gh.prog.{u} 80 #[.func (.func 131) #[] #[.pointer (some ⟨k,0,none⟩)],.func (.func 82) #[] #[]] w λe w'=> ∃b cap' h,e=.returned (.slice b L.length cap')/\h.Perm L/\ql h/\(h=[]\/∃g,b=some ⟨g,0,none⟩/\w.heap.size<=g/\gW w' g 0 h)/\Below w.heap.size w w':=by
 have A:=NI.{u} k cap ao L d w l m n;have E:=am m;have F:=am n;clear m n;by_cases h0:L.length=0
 .have B:L=[]:=fq h0;subst B;go_enter Gh.func80,Tryz.ntmps80;go_wp2_with fail;refine A.mono ?_;rintro e o ⟨v,rfl,a,p⟩;obtain⟨b,cap',rfl⟩:∃b cap',v=.slice b 0 cap':=by
   obtain⟨q,_⟩|⟨g,c,r,q,_⟩:=a.2
   .exact⟨_,_,q⟩
   .exact⟨_,_,q⟩
  have s:=a1n.{u} b cap' (.func (.func 82) #[] #[]) o;clear a;go_wp2_with (go_at_call 130;refine s.mono ?_;rintro e w' ⟨rfl,rfl⟩);go_ret;exact⟨b,cap',[],rfl,List.Perm.refl _,List.Pairwise.nil,.inl rfl,p⟩
 .go_enter Gh.func80,Tryz.ntmps80;go_wp2_with fail;refine A.mono ?_;rintro e o ⟨v,rfl,a,p⟩;have f:=a;obtain⟨_,⟨_,C⟩|⟨g,cap',r,rfl,i,j,_⟩⟩:=f
  .exact absurd C h0
  .have t:=a1o.{u} w.heap.size g cap' L o d i a (bW.1 j).1;clear a j;go_wp2_with (go_at_call 130;refine t.mono ?_;rintro e w' ⟨rfl,h,D,x,y,z⟩);go_ret;exact⟨_,cap',h,rfl,D,x,.inr ⟨g,rfl,i,y⟩,p.trans z⟩
end
section
universe u
open Go.RowKit Go.Shelf Go.Sort
attribute [local go_sem ↓] Go.wp_at_zero Go.wp_at_succ
def aM(L:List Rw):List af:=L.flatMap cQ
def jw(L):(aM L).length=L.length*7:=by
 induction L with
 |nil=>rfl
 |cons p r a=>simp only[aM,jF,ia,cQ,gu,gv]at a⊢;omega
def H8(L r):aM (L++[r])=aM L++cQ r:=by simp[aM]
theorem Gh.p8:(Gh.prog.{u}.info? 137).map (λi=>(i.zero,i.size,i.bytes))=some (some (.agg #[.int .u32 0,.int .i64 0,.int .i64 0,.int .i64 0,.int .i64 0,.int .i64 0,.bool false]),7,56):=by kernel_rfl
def qC(r):∀u∈cQ r,u.oneCell'=true:=by intro u a;simp[cQ]at a;obtain rfl|rfl|rfl|rfl|rfl|rfl|rfl:=a<;>rfl
def EY(a l t m f:Int):Rw:=⟨a,l,t,m,f,0,true⟩
def kB(p:Pf):Rw:=EY p.addr p.len 0 1 (-1)
def zH(a l t m f w):Calls Gh.prog.{u} 135 #[.agg #[.int .u32 a,.int .i64 l,.int .i64 t,.int .i64 m,.int .i64 f]] w λe w'=>e=.returned (.agg #[.int .u32 a,.int .i64 l,.int .i64 t,.int .i64 m,.int .i64 f,.int .i64 0,.bool true])/\aL w w':=by go_enter Gh.func135,Tryz.ntmps135;go_wp2;exact bodyPost_ret (v:=.agg #[.int .u32 a,.int .i64 l,.int .i64 t,.int .i64 m,.int .i64 f,.int .i64 0,.bool true]) (by simp[results,Tryz.results135,go_sem]) rfl ⟨rfl,((aL.refl w).alloc _).alloc _⟩
def X3(p:Pf)(w):Calls Gh.prog.{u} 83 #[.agg #[.int .u32 p.addr,.int .i64 p.len]] w λe w'=>e=.returned (.agg #[.int .u32 p.addr,.int .i64 p.len,.int .i64 0,.int .i64 1,.int .i64 (-1),.int .i64 0,.bool true])/\aL w w':=by have c:=aK.new (w.alloc (.cells #[.int .u32 p.addr,.int .i64 p.len] 32)) #[.int .u32 0,.int .i64 0,.int .i64 0,.int .i64 0,.int .i64 0,.int .i64 0,.bool false] 137;simp only[World.size_alloc]at c;have m:=am c;clear c;go_enter Gh.func83,Tryz.ntmps83;go_wp2_with (go_at_call 135;refine(zH p.addr p.len 0 1 (-1) _).mono ?_;rintro e n ⟨rfl,d⟩;have a:=(ai m).dY d;have s0:=a.cell 0;have o:=a.cell 1;have s2:=a.cell 2;have q:=a.cell 3;have s4:=a.cell 4;have r:=a.cell 5;have s:=a.cell 6;have t:=a.frozen 0;have x:=a.frozen 1;have y:=a.frozen 2;have z3:=a.frozen 3;have z:=a.frozen 4;have A:=a.frozen 5;have B:=a.frozen 6);have b:=((((((a.set 0 (.int .u32 p.addr)).set 1 (.int .i64 p.len)).set 2 (.int .i64 0)).set 3 (.int .i64 1)).set 4 (.int .i64 (-1))).set 5 (.int .i64 0)).set 6 (.bool true);have f:=b.cell 0;have g:=b.cell 1;have h:=b.cell 2;have i:=b.cell 3;have j:=b.cell 4;have k:=b.cell 5;have l:=b.cell 6;simp at f g h i j k l;refine bodyPost_ret (v:=.agg #[.int .u32 p.addr,.int .i64 p.len,.int .i64 0,.int .i64 1,.int .i64 (-1),.int .i64 0,.bool true]) (by simp[results,Tryz.results83,go_sem,f,g,h,i,j,k,l]) rfl ⟨rfl,?_⟩;exact((((((((((aL.refl w).alloc _).alloc _).trans d).setCell (by simp) _).setCell (by simp) _).setCell (by simp) _).setCell (by simp) _).setCell (by simp) _).setCell (by simp) _).setCell (by simp) _
def lj{w w':aa}{base e d g n cap:Nat}{xs}(h:w.ownsRow base e d (.slice (some ⟨g,0,none⟩) n cap) n xs)(f:w'.heap[g]?=w.heap[g]?):w'.ownsRow base e d (.slice (some ⟨g,0,none⟩) n cap) n xs:=by
 obtain⟨i,⟨a,_⟩|⟨l,m,b,a,c,j,k⟩⟩:=h
 .simp at a
 .simp at a;obtain⟨rfl,rfl⟩:=a;exact⟨i,.inr ⟨g,cap,b,rfl,c,f.trans j,k⟩⟩
def iH{w:aa}{base e b g n cap:Nat}{c}(h:w.ownsRow base e b (.slice (some ⟨g,0,none⟩) n cap) n c):g<w.heap.size:=by
 obtain⟨j,⟨a,_⟩|⟨k,l,d,a,f,i,m⟩⟩:=h
 .simp at a
 .simp at a;obtain⟨rfl,rfl⟩:=a;exact(bW.1 i).1
def Ym{w w' g L}(h:gW w g 0 L)(c:w'.heap[g]?=w.heap[g]?):gW w' g 0 L:=λk b=>by obtain⟨h0,d⟩:=h k b;exact⟨(World.cell?_of_block (w:=w) (a:=⟨g,_,none⟩) c).trans h0,(World.cell?_of_block (w:=w) (a:=⟨g,_,none⟩) c).trans d⟩
def a1s(ao cap L w)(ag:L.length<=20)(hs:lm w ao L):Calls Gh.prog.{u} 38 #[.slice ao L.length cap] w λe w'=> ∃v m,e=.returned (.agg #[v])/\w'.ownsRow w.heap.size 137 7 v L.length (aM (m.map kB))/\m.Perm L/\ql m/\Below w.heap.size w w'/\∃a,v=.slice a L.length L.length:=by
 obtain⟨iR,C,P,D,Q⟩:=info_parts Gh.p8.{u};have HS:=am hs;clear hs;have bT:=am (aK.new w #[.slice none 0 0] 120);go_enter Gh.func38,Tryz.ntmps38;go_wp2_with (first|(at_make;go_loud (refine wpList_make_own _ rfl _ _ 118 rfl w.heap.size 137 iR (.agg #[.int .u32 0,.int .i64 0,.int .i64 0,.int .i64 0,.int .i64 0,.int .i64 0,.bool false]) 7 Gh.underlying118 C P D _ _ _ L.length rfl rfl (by omega) (by rw[Q];omega) (by unfold maxLen;omega) (by simp) ?_);intro w2 b r)|(go_at_call 81;refine(a3a _ _ _ _).mono ?_;rintro e w3 ⟨rfl,rfl⟩));simp only[World.size_alloc]at b;have au:w.heap.size+2<=w2.heap.size:=iH b;have q:Below w.heap.size w w2:=(bH w _).trans ((Below.refl _ _).grown r (by simp) (by simp));have F:=a1p.{u} w2.heap.size cap ao L (by omega) (w2.alloc (.cells #[.slice ao L.length cap] 23)) (by simp) (yt _ _ _ rfl rfl) (wM (ai HS) (q.alloc q.size _));refine F.mono ?_;rintro e w3 ⟨av,al,m,rfl,c,n,H,s⟩;clear F;have HP:=am c;have R:=am n;have I:m.length=L.length:=c.length_eq;have S:=am H;have f:Below (w.heap.size+2) w2 w3:=((Below.refl _ w2).alloc (by omega) _).trans (s.mono (by simp;omega));have t:w3.ownsRow w.heap.size 137 7 (.slice (some ⟨w.heap.size+1,0,none⟩) 0 L.length) 0 []:=lj b (f.block _ (by omega));have T:aK w3 w.heap.size #[.slice none 0 0] 120:=((f.block _ (by omega)).trans (r.block _ (by simp) (by simp))).trans (ai bT);have U:=am (q.trans (f.mono (by omega)));have aq:w.heap.size+3<=w3.heap.size:=by have:=s.size;simp at this;omega
 have x:=am I;clear c n H I s f b r q;go_wp2_with fail
 go_loopw [3,13] (λd i wr=> ∃k:Nat,k<=L.length/\i=.int .i64 k/\d=.slice (some ⟨w.heap.size+1,0,none⟩) k L.length/\wr.ownsRow w.heap.size 137 7 (.slice (some ⟨w.heap.size+1,0,none⟩) k L.length) k (aM ((m.take k).map kB))/\w3.grownBy wr (some (w.heap.size+1))) (λ_ i _=>L.length - (intOf i).toNat)
 case atStart=>exact⟨0,by omega,rfl,rfl,by simpa[aM]using t,World.grownBy.refl _ _⟩
 case round=>
  obtain⟨k,hk,rfl,rfl,h,l⟩:=hrel;by_cases V:k<L.length
  .have j:k<m.length:=by rw[ai x];exact V
   obtain h0|⟨g,rfl,W,J⟩:=ai S
   .rw[h0]at j;simp at j
   .have ar:g≠w.heap.size+1:=by simp at W;omega
    have K:g<w3.heap.size:=te J (by omega);obtain⟨c0,c1⟩:=Ym J (l.block g K (by simp;omega)) k j;simp only[dG]at c0 c1;have M:aM ((m.take (k+1)).map kB)=aM ((m.take k).map kB)++cQ (kB m[k]):=by rw[kL j,nW,List.map_singleton,H8]
    have X:=am M;have y:=am l;clear M l;generalize m[k]=E at*;have j0:(0:Int)<=(k:Int):=by omega
    have j1:(k:Int)<(L.length:Int):=by omega
    go_wp2_with (first|(go_at_call 83;refine(X3 E _).mono ?_;rintro e Y ⟨rfl,N⟩;have o:=((aL.refl wr).alloc _).trans N;have z:=lj h (o.below.block _ (iH h));have Z:=am o;clear N o)|(at_builtin;go_loud (refine wpList_append_fits _ rfl (.tmp 17) (.tmp 20) 118 rfl w.heap.size 137 iR 7 Gh.underlying118 C D (w.heap.size+1) k L.length _ rfl (z.alloc _) ⟨Y.heap.size,0,none⟩ 1 1 (cQ (kB E)) rfl rfl (by exact World.news_of_block (heap_alloc_new Y _)) (qC _) (by omega) ?_;intro w5 A ab)))
    go_roundw
    case rel=>refine⟨k+1,by omega,by go_num,rfl,by rw[ai X];exact A,?_⟩;exact dg (ai y) (dg (jj (ai Z).grownBy) (dg (jj (World.grownBy_alloc Y _ none)) ab))
    case measure=>simp[intOf];omega
  .have ad:k=L.length:=by omega
   subst ad;have B:aK wr w.heap.size #[.slice none 0 0] 120:=(l.block _ (by omega) (by simp)).trans T;have s0:=B.cell 0;have z0:=B.frozen 0;have O:=am h;have y:=am l;clear h l;go_wp2;have ae:=B.set 0 (.slice (some ⟨w.heap.size+1,0,none⟩) L.length L.length);have t0:=ae.cell 0;simp at t0;refine bodyPost_ret (v:=.agg #[.slice (some ⟨w.heap.size+1,0,none⟩) L.length L.length]) (by simp[results,Tryz.results38,go_sem,t0]) rfl ⟨_,m,rfl,?_,ai HP,ai R,?_,_,rfl⟩
   .have:=ai O;rw[<-ai x,nX]at this;rw[<-ai x];exact lj this (Below.heap_setCell _ _ _ _ (by simp))
   .exact((ai U).trans ((Below.refl _ _).grown (ai y) (by omega) (by simp))).setCell (p:=⟨w.heap.size,0,none⟩) (aF _) _
end
section
universe u
open Go.RowKit Go.Shelf Go.Sort
attribute [local go_sem ↓] Go.wp_at_zero Go.wp_at_succ
section
variable{P:ay}{f:bc}{fn:Func}
def a0j(c:P.funcs[f]?=some fn)(b:(fn.name== "runtime.NumGoroutine")=false)(d:fn.body.isNone=true)(e:Extern.findNext fn=none)(g:Extern.find fn=some (Extern.Atomic.loadT .ptr)){a p w}(h:w.cell? a=some (.pointer p)):(callFunc f #[.pointer (some a)]).run P w=.ok (.value (.pointer p)) w:=by rw[run_callFunc_extern c b d e g];change (Sem.run P (do Extern.Atomic.read .ptr (<-asAddr (.pointer (some a)))) w).andThen _=_;simp[Extern.Atomic.read,asAddr,h,Result.andThen]
def a0k(c:P.funcs[f]?=some fn)(b:(fn.name== "runtime.NumGoroutine")=false)(d:fn.body.isNone=true)(e:Extern.findNext fn=none)(g:Extern.find fn=some Extern.Atomic.storeT){a p u w}(h:w.cell? a=some u)(i:w.frozen? a=false):(callFunc f #[.pointer (some a),.pointer p]).run P w=.ok (.value (.tuple #[])) (w.setCell a (.pointer p)):=by
 rw[run_callFunc_extern c b d e g];change (Sem.run P (do
  store (<-asAddr (.pointer (some a))) (.pointer p) .atomic
  pure Extern.Atomic.none_) w).andThen _=_
 simp[asAddr,h,i,run_store P w a (.pointer p) .atomic rfl,Result.andThen,Extern.Atomic.none_]
def a0m{src dst t}(e:P.underlying src=some .unsafePointer)(g:P.underlying dst=some (.pointer t))(b:(P.info? t).map (λi=>decide (i.size=0))=some false){B cs w}(a:liesAt P P.depth t (cs.size / P.cellsOf t) 0 t 1=true)(d:aK w B cs t):(convert src dst (.pointer (some ⟨B,0,none⟩))).run P w=.ok (.pointer (some ⟨B,0,none⟩)) w:=by
 obtain⟨i,h,j⟩:=fA.1 b;have c:w.shape? B=some (t,cs.size):=by unfold aK at d;simp[World.shape?,d]
 simp[convert,run_underlying e,run_underlying g,Conv.unsafePointer,Conv.seenAt,viewAt,c,variablesAt,a,sizeOf,typeInfo,h]
end
def xy(R i V a u w)(c:w.cell? ⟨R,i,none⟩=some u)(d:w.frozen? ⟨R,i,none⟩=false)(b:aK w V #[a] 122):Calls Gh.prog.{u} 37 #[.pointer (some ⟨R,i,none⟩),.pointer (some ⟨V,0,none⟩)] w λe g=>e=.returned (.tuple #[])/\g=w.setCell ⟨R,i,none⟩ (.pointer (some ⟨V,0,none⟩)):=by have h:=run_convert_to_unsafe (P:=Gh.prog.{u}) (src:=54) (dst:=112) Gh.underlying54 Gh.underlying112 (by kernel_rfl) ((b.cell 0).trans (show _=some a from rfl));have j:=a0k (P:=Gh.prog.{u}) Gh.func79 (by kernel_rfl) (by kernel_rfl) (by kernel_rfl) (by kernel_rfl) (p:=some ⟨V,0,none⟩) c d;clear b;go_enter Gh.func37,Tryz.ntmps37;go_wp2;go_end0;exact⟨rfl,rfl⟩
def vV(R i V a w)(c:w.cell? ⟨R,i,none⟩=some (.pointer (some ⟨V,0,none⟩)))(b:aK w V #[a] 122):Calls Gh.prog.{u} 49 #[.pointer (some ⟨R,i,none⟩)] w λe d=>e=.returned (.pointer (some ⟨V,0,none⟩))/\d=w:=by have g:=a0m (P:=Gh.prog.{u}) (src:=112) (dst:=54) Gh.underlying112 Gh.underlying54 (by kernel_rfl) (cs:=#[a]) (by kernel_rfl) b;have h:=a0j (P:=Gh.prog.{u}) Gh.func101 (by kernel_rfl) (by kernel_rfl) (by kernel_rfl) (by kernel_rfl) c;clear b;go_enter Gh.func49,Tryz.ntmps49;go_wp2;go_ret;exact⟨rfl,rfl⟩
def Jn(R V b cv d g w)(a:aK w R #[cv,.int .i32 d,.int .u32 g,.pointer (some ⟨V,0,none⟩)] 116)(c:aK w V #[b] 122):Calls Gh.prog.{u} 17 #[.pointer (some ⟨R,0,none⟩)] w λe h=>e=.returned (.pointer (some ⟨V,0,none⟩))/\h=w:=by have i:=vV.{u} R 3 V b w ((a.cell 3).trans rfl) c;have j:=(a.cell 0).trans (show _=some cv from rfl);clear a c;go_enter Gh.func17,Tryz.ntmps17;go_wp2_with (go_at_call 49;refine i.mono ?_;rintro e k ⟨rfl,rfl⟩);go_ret;exact⟨rfl,rfl⟩
def FF:Option Rw->af
 |some r=>.tuple #[.agg (nL r),.nilIface]
 |none=>.tuple #[.agg lD,.iface 102 (.int .i64 10)]
def Uy(V ao n cap L x w)(q:aK w V #[.slice ao n cap] 122)(s:L.length=n)(z:n<=1000000)(d:∀r∈L,0<=r.len/\r.len<=32)(A:0<=x)(o:x<4294967296)(t:fP w ao L):Calls Gh.prog.{u} 18 #[.pointer (some ⟨V,0,none⟩),.int .u32 x] w λe w'=>e=.returned (FF (mF L x))/\Below w.heap.size w w':=by
 have y:=am (aK.new w lD 52);have B:=((q.alloc (.cells lD 52)).cell 0).trans (show _=some (.slice ao n cap)from rfl);simp only[lD]at B;have hF:=Q2.{u} ao n cap L x (w.alloc (.cells lD 52)) s z d A o (jx t (bH _ _));clear t d s q;cases m:mF L x with
 |none=>rw[m]at hF;clear m;simp only[nz,lD]at hF;go_enter Gh.func18,Tryz.ntmps18;go_wp2_with (go_at_call 50;refine hF.mono ?_;rintro e C ⟨rfl,c⟩;have a:=(ai y).below c (by simp);simp only[lD]at a;have s0:=(a.alloc (.cells #[.int .u32 0,.int .i64 0,.int .i64 0,.int .i64 0,.int .i64 0] 52)).cell 0;have D:=(a.alloc (.cells #[.int .u32 0,.int .i64 0,.int .i64 0,.int .i64 0,.int .i64 0] 52)).frozen 0;have E:=(a.alloc (.cells #[.int .u32 0,.int .i64 0,.int .i64 0,.int .i64 0,.int .i64 0] 52)).cell 1;have F:=(a.alloc (.cells #[.int .u32 0,.int .i64 0,.int .i64 0,.int .i64 0,.int .i64 0] 52)).frozen 1;have s2:=(a.alloc (.cells #[.int .u32 0,.int .i64 0,.int .i64 0,.int .i64 0,.int .i64 0] 52)).cell 2;have H:=(a.alloc (.cells #[.int .u32 0,.int .i64 0,.int .i64 0,.int .i64 0,.int .i64 0] 52)).frozen 2;have I:=(a.alloc (.cells #[.int .u32 0,.int .i64 0,.int .i64 0,.int .i64 0,.int .i64 0] 52)).cell 3;have z3:=(a.alloc (.cells #[.int .u32 0,.int .i64 0,.int .i64 0,.int .i64 0,.int .i64 0] 52)).frozen 3;have s4:=(a.alloc (.cells #[.int .u32 0,.int .i64 0,.int .i64 0,.int .i64 0,.int .i64 0] 52)).cell 4;have J:=(a.alloc (.cells #[.int .u32 0,.int .i64 0,.int .i64 0,.int .i64 0,.int .i64 0] 52)).frozen 4;have g:=am c;clear c);have b:=((((((a.alloc (.cells #[.int .u32 0,.int .i64 0,.int .i64 0,.int .i64 0,.int .i64 0] 52)).set 0 (.int .u32 0)).set 1 (.int .i64 0)).set 2 (.int .i64 0)).set 3 (.int .i64 0)).set 4 (.int .i64 0));have h:=b.cell 0;have i:=b.cell 1;have j:=b.cell 2;have k:=b.cell 3;have l:=b.cell 4;simp at h i j k l;refine bodyPost_ret (v:=.tuple #[.agg #[.int .u32 0,.int .i64 0,.int .i64 0,.int .i64 0,.int .i64 0],.iface 102 (.int .i64 10)]) (by simp[results,Tryz.results18,go_sem,h,i,j,k,l]) rfl ⟨rfl,?_⟩;exact(((((((bH w _).trans ((ai g).mono (by simp))).alloc (by have:=(ai g).size;simp at this;omega) _).setCell (p:=⟨w.heap.size,0,none⟩) (aF _) _).setCell (p:=⟨w.heap.size,1,none⟩) (aF _) _).setCell (p:=⟨w.heap.size,2,none⟩) (aF _) _).setCell (p:=⟨w.heap.size,3,none⟩) (aF _) _).setCell (p:=⟨w.heap.size,4,none⟩) (aF _) _
 |some r=>rw[m]at hF;clear m;simp only[nz,lD,nL]at hF;go_enter Gh.func18,Tryz.ntmps18;go_wp2_with (go_at_call 50;refine hF.mono ?_;rintro e C ⟨rfl,c⟩;have a:=(ai y).below c (by simp);simp only[lD]at a;have s0:=(a.alloc (.cells #[.int .u32 r.addr,.int .i64 r.len,.int .i64 r.tag,.int .i64 r.met,.int .i64 r.az] 52)).cell 0;have D:=(a.alloc (.cells #[.int .u32 r.addr,.int .i64 r.len,.int .i64 r.tag,.int .i64 r.met,.int .i64 r.az] 52)).frozen 0;have E:=(a.alloc (.cells #[.int .u32 r.addr,.int .i64 r.len,.int .i64 r.tag,.int .i64 r.met,.int .i64 r.az] 52)).cell 1;have F:=(a.alloc (.cells #[.int .u32 r.addr,.int .i64 r.len,.int .i64 r.tag,.int .i64 r.met,.int .i64 r.az] 52)).frozen 1;have s2:=(a.alloc (.cells #[.int .u32 r.addr,.int .i64 r.len,.int .i64 r.tag,.int .i64 r.met,.int .i64 r.az] 52)).cell 2;have H:=(a.alloc (.cells #[.int .u32 r.addr,.int .i64 r.len,.int .i64 r.tag,.int .i64 r.met,.int .i64 r.az] 52)).frozen 2;have I:=(a.alloc (.cells #[.int .u32 r.addr,.int .i64 r.len,.int .i64 r.tag,.int .i64 r.met,.int .i64 r.az] 52)).cell 3;have z3:=(a.alloc (.cells #[.int .u32 r.addr,.int .i64 r.len,.int .i64 r.tag,.int .i64 r.met,.int .i64 r.az] 52)).frozen 3;have s4:=(a.alloc (.cells #[.int .u32 r.addr,.int .i64 r.len,.int .i64 r.tag,.int .i64 r.met,.int .i64 r.az] 52)).cell 4;have J:=(a.alloc (.cells #[.int .u32 r.addr,.int .i64 r.len,.int .i64 r.tag,.int .i64 r.met,.int .i64 r.az] 52)).frozen 4;have g:=am c;clear c);have b:=((((((a.alloc (.cells #[.int .u32 r.addr,.int .i64 r.len,.int .i64 r.tag,.int .i64 r.met,.int .i64 r.az] 52)).set 0 (.int .u32 r.addr)).set 1 (.int .i64 r.len)).set 2 (.int .i64 r.tag)).set 3 (.int .i64 r.met)).set 4 (.int .i64 r.az));have h:=b.cell 0;have i:=b.cell 1;have j:=b.cell 2;have k:=b.cell 3;have l:=b.cell 4;simp at h i j k l;refine bodyPost_ret (v:=.tuple #[.agg #[.int .u32 r.addr,.int .i64 r.len,.int .i64 r.tag,.int .i64 r.met,.int .i64 r.az],.nilIface]) (by simp[results,Tryz.results18,go_sem,h,i,j,k,l]) rfl ⟨rfl,?_⟩;exact(((((((bH w _).trans ((ai g).mono (by simp))).alloc (by have:=(ai g).size;simp at this;omega) _).setCell (p:=⟨w.heap.size,0,none⟩) (aF _) _).setCell (p:=⟨w.heap.size,1,none⟩) (aF _) _).setCell (p:=⟨w.heap.size,2,none⟩) (aF _) _).setCell (p:=⟨w.heap.size,3,none⟩) (aF _) _).setCell (p:=⟨w.heap.size,4,none⟩) (aF _) _
end
end Go.Proofs.q
end
