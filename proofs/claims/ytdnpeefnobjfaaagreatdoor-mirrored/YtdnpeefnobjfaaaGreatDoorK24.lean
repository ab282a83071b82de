import Derived.Laws.CopyRow
import Derived.Lib.AppendZerosOnto
import Derived.Lib.SliceRun
import Derived.Shelf.Spec.SlicesInsert
import Derived.Test.YtdnpeefnobjfaaaGreatDoorK23
set_option maxRecDepth 100000
set_option maxHeartbeats 4000000
set_option linter.all false
section
namespace Go.Proofs.q
section
universe u
open Go.RowKit Go.Shelf
attribute [local go_sem] Oper.semAt_some
def a5M(l:List aT)(k:Nat):List aT:=(l.drop (25*k)).take 25
abbrev kM(n):={k:Nat // 25*k<n}
def kq(n k:Nat):Nat:=min 25 (n - 25*k)
def w8(b a n:Nat)(x:kM n):Array af:=#[.slice (some ⟨b,a+25*x.1*4,none⟩) (kq n x.1) (kq n x.1)]
def ju(n k:Nat):List (kM n):=(List.range k).filterMap λi=>if h:25*i<n then some ⟨i,h⟩else none
def HU(n k)(h:25*k<n):ju n (k+1)=ju n k++[⟨k,h⟩]:=by simp[ju,a6w,List.filterMap_append,h]
def ZU(n k):(ju n k).length<=k:=by have:=List.length_filterMap_le (λi=>if h:25*i<n then some (⟨i,h⟩:kM n)else none) (List.range k);simpa[ju]using this
def aV(n:Nat):Nat:=(n+24) / 25
def KC(a b:Nat)(W c:aa):Prop:=c.heap[a]?=W.heap[a]? /\c.heap[b]?=W.heap[b]?
def KC.t{a b A B C}(h:KC a b A B)(k:KC a b B C):KC a b A C:=⟨k.1.trans h.1,k.2.trans h.2⟩
def KC.b{d e}{w:aa}(f:d<w.heap.size)(g:e<w.heap.size)(W l o c)(h:w.heap.size<=l)(_:W.heap[l]?=some o)(_:o.isCells=false)(_:o.isWalk=false):KC d e W (W.putObj l c):=by
 have i:=grownBy_putObj' W l c;have a:∀B,B<w.heap.size->(W.putObj l c).heap[B]?=W.heap[B]? :=λB j=>by simp[World.putObj,di (show l≠B by omega)]
 exact⟨a _ f,a _ g⟩
def KC.cellS{b d W c}(h:KC b d W c):c.cell? ⟨b,0,none⟩=W.cell? ⟨b,0,none⟩:=World.cell?_of_block (a:=⟨b,0,none⟩) h.1
def KC.Cz{d b W c}(h:KC d b W c):c.cell? ⟨b,0,none⟩=W.cell? ⟨b,0,none⟩:=World.cell?_of_block (a:=⟨b,0,none⟩) h.2
def Np(n)(U:1<=n)(l j m b o len cap)(E:len<=cap)(w:cap<=1000000)(J F:List (kM len)->aa->Prop)(W)(y:AbidesFrom W.heap.size J)(Q:∀a x W,J a W->a.length<len->YieldAt Fence.wide (n - 1) Gh.prog.{u} l (w8 b o len x) W λe h=>(e=.returned (.bool true)/\J (a++[x]) h/\KC j m W h)\/(e=.returned (.bool false)/\F (a++[x]) h))(z:W.cell? ⟨j,0,none⟩=some (.slice (some ⟨b,o,none⟩) len cap))(p:W.cell? ⟨m,0,none⟩=some (.int .i64 25))(h0:J [] W):CallsIn Fence.wide n Gh.prog.{u} 183 #[.func (.yield l) #[] #[],.pointer (some ⟨j,0,none⟩),.pointer (some ⟨m,0,none⟩)] W λe h=>(∃v,e=.returned v)/\((∃H,H=ju len (aV len)/\J H h)\/(∃a,F a h)):=by
 have I:=jq.{u};refine callsIn_of_wp Gh.func183 rfl trivial ?_ rfl;simp only[Tryz.ntmps183,fS,gu,gv,Nat.reduceAdd,Nat.reduceSub,j9,ka,kg,ke,gP,fy]
 gi_wp2
 gi_loopw [4] (λi wr=> ∃k:Nat,25*k<len+25/\i=.int .i64 ((25*k:Nat):Int)/\J (ju len k) wr/\KC j m W wr)
  (λi _=>len+25 - (intOf i).toNat)
 case atStart=>exact⟨0,by omega,rfl,by simpa[ju]using h0,rfl,rfl⟩
 case round=>
  obtain⟨k,V,rfl,f,g⟩:=hrel;have X:=g.cellS.trans z;have c1:=g.Cz.trans p;by_cases q:25*k<len
  .have A:=y _ _ wr.drew none f ⟨rfl,rfl,rfl,aF _,λ_ _ _=>rfl⟩ (λr e=>by cases e);obtain⟨Y,K,assign,body,L,M⟩:=Q _ ⟨k,q⟩ wr.drew A (by have:=ZU len k;omega);rw[<-HU len k q]at M;simp only[w8,kq]at L;generalize N:25*k=i at*;have O:=am N;clear N;have Z:(0:Int)<=(i:Int):=by omega
   have R:(i:Int)<(len:Int):=by omega
   have j2:(i:Int)<=(cap:Int):=by omega
   have j3:(len:Int)<=(cap:Int):=by omega
   gi_wp2
   gi_big_region_o
   obtain⟨c,P⟩:∃c:Nat,min 25 (len - i)=c:=⟨_,rfl⟩;rw[show(min 25 ((len - i:Nat):Int))=(c:Int)by omega];rw[P]at L;have k0:0<c:=by omega
   have k1:(i:Int)+(c:Int)<=(len:Int):=by omega
   have k2:(i:Int)+(c:Int)<=(cap:Int):=by omega
   have k3:(i:Int)<=(i:Int)+(c:Int):=by omega
   clear P
   gi_wp2
   refine M.mono ?_;rintro e W3 (⟨rfl,B,C⟩|⟨rfl,s⟩)
   .have d:KC j m W W3:=g.t C;have S:=d.Cz.trans p
    gi_wp2
    go_roundw
    case rel=>exact⟨k+1,by have:=ai O;omega,by have:=ai O;subst this;go_num,B,d⟩
    case measure=>simp[intOf];omega
   .gi_wp2
    refine bodyPost_ret (results_none rfl _ _ _) rfl ?_;exact⟨⟨_,rfl⟩,.inr ⟨_,s⟩⟩
  .have D:ju len k=ju len (aV len):=by
    have T:k=aV len:=by unfold aV;omega
    rw[T]
   rw[D]at f;have R: ¬((25*k:Nat):Int)<(len:Int):=by omega
   gi_wp2
   go_end0;exact⟨⟨_,rfl⟩,.inl f⟩
def Nr(n)(t:1<=n)(d f b a len cap)(g:len<=cap)(c:cap<=1000000)(w)(k:d<w.heap.size)(m:f<w.heap.size)(o:w.cell? ⟨d,0,none⟩=some (.slice (some ⟨b,a,none⟩) len cap))(q:w.cell? ⟨f,0,none⟩=some (.int .i64 25)):SeqStopsK Fence.wide n Gh.prog.{u} 183 #[.pointer (some ⟨d,0,none⟩),.pointer (some ⟨f,0,none⟩)] (w8 b a len) (KC d f) (λv=>v=ju len (aV len)) (λ_=>True) len w:=λl J x W s y _ z h0=>by
 have i:=(s.cell (p:=⟨d,0,none⟩) k).trans o;have j:=(s.cell (p:=⟨f,0,none⟩) m).trans q;refine(Np n t l d f b a len cap g c J x W y z i j h0).mono λe C ⟨A,B⟩=>⟨A,?_⟩;obtain h|⟨r,h⟩:=B
 .exact .inl h
 .exact .inr ⟨r,trivial,h⟩
def Nq(a len cap w):Calls Gh.prog.{u} 143 #[.slice a len cap,.int .i64 25] w λe b=>e=.returned (.func (.func 183) #[] #[.pointer (some ⟨w.heap.size,0,none⟩),.pointer (some ⟨w.heap.size+1,0,none⟩)])/\b=(w.alloc (.cells #[.slice a len cap] 43)).alloc (.cells #[.int .i64 25] 3):=by
 refine(callsIn_wide (n:=3)).1 ?_;refine callsIn_of_wp Gh.func143 rfl trivial ?_ rfl;simp only[Tryz.ntmps143,fS,gu,gv,Nat.reduceAdd,Nat.reduceSub,j9,ka,kg,ke,gP,fy]
 gi_wp2
 go_ret;exact⟨rfl,rfl⟩
end
section
universe u
open Go.RowKit
attribute [local go_sem ↓] Go.wp_at_zero Go.wp_at_succ
def a0r(L k)(b:k<L.length)(r):((((((((aM L).set (k*7) (.int .u32 r.addr)).set (k*7+1) (.int .i64 r.len)).set (k*7+2) (.int .i64 r.tag)).set (k*7+3) (.int .i64 r.met)).set (k*7+4) (.int .i64 r.az)).set (k*7+5) (.int .i64 r.bM)).set (k*7+6) (.bool r.ci))=aM (L.set k r):=by
 induction L generalizing k with
 |nil=>simp at b
 |cons x R c=>
  cases k with
  |zero=>simp[aM,cQ]
  |succ k=>
   have:=c k (by simpa using b);simp only[aM,jF,List.set_cons_succ]at this⊢;have a:(cQ x).length=7:=rfl;have e:∀j,(k+1)*7+j - 7=k*7+j:=λj=>by omega
   have d:(k+1)*7 - 7=k*7:=by omega
   rw[a6j _ _ (by rw[a];omega),a,d,a6j _ _ (by rw[a];omega),a,e,a6j _ _ (by rw[a];omega),a,e,a6j _ _ (by rw[a];omega),a,e,a6j _ _ (by rw[a];omega),a,e,a6j _ _ (by rw[a];omega),a,e,a6j _ _ (by rw[a];omega),a,e,this]
def He{w:aa}{base g n cap k L}(h:w.ownsRow base 137 7 (.slice (some ⟨g,0,none⟩) n cap) n (aM L))(j:k<L.length)(r):(((((((w.setCell ⟨g,k*7,none⟩ (.int .u32 r.addr)).setCell ⟨g,k*7+1,none⟩ (.int .i64 r.len)).setCell ⟨g,k*7+2,none⟩ (.int .i64 r.tag)).setCell ⟨g,k*7+3,none⟩ (.int .i64 r.met)).setCell ⟨g,k*7+4,none⟩ (.int .i64 r.az)).setCell ⟨g,k*7+5,none⟩ (.int .i64 r.bM)).setCell ⟨g,k*7+6,none⟩ (.bool r.ci)).ownsRow base 137 7 (.slice (some ⟨g,0,none⟩) n cap) n (aM (L.set k r)):=by
 obtain⟨i,⟨b,_⟩|⟨o,p,a,b,c,l,d,e,f,m⟩⟩:=h
 .simp at b
 .simp at b;obtain⟨rfl,rfl⟩:=b;refine⟨by rw[jw]at i⊢;rw[a6Y];exact i,.inr ⟨g,cap,(((((((a.setIfInBounds (k*7) (.int .u32 r.addr)).setIfInBounds (k*7+1) (.int .i64 r.len)).setIfInBounds (k*7+2) (.int .i64 r.tag)).setIfInBounds (k*7+3) (.int .i64 r.met)).setIfInBounds (k*7+4) (.int .i64 r.az)).setIfInBounds (k*7+5) (.int .i64 r.bM)).setIfInBounds (k*7+6) (.bool r.ci)),rfl,c,?_,d,e,by simpa using f,?_⟩⟩
  .exact(((((((show aK w g a 137 from l).set _ _).set _ _).set _ _).set _ _).set _ _).set _ _).set _ _
  .rw[<-a0r L k j r,<-m];simp only[a7C,List.take_set]
def sX{w base g n cap k L}(h:w.ownsRow base 137 7 (.slice (some ⟨g,0,none⟩) n cap) n (aM L))(f:k<L.length):(∃a,aK w g a 137/\n*7<=a.size)/\jW w g 0 L:=by
 constructor
 .obtain⟨q,⟨c,_⟩|⟨r,s,a,c,j,l,d,m,e,t⟩⟩:=h
  .simp at c
  .simp at c;obtain⟨rfl,rfl⟩:=c;exact⟨a,l,by rw[e];exact a6p 7 d⟩
 .rcases nM h with h0|⟨b,o,i,p⟩
  .rw[h0]at f;simp at f
  .simp at i;obtain⟨rfl,rfl⟩:=i;exact p
def jc{w g n k cur}(h:aK w g cur 137)(a:n*7<=cur.size)(b:k<n)(j)(c:j<7):∃v,w.cell? ⟨g,k*7+j,none⟩=some v:=by rw[h.cell,eF (by omega)];exact⟨_,rfl⟩
end
section
universe u
open Go.RowKit
attribute [local go_sem ↓] Go.wp_at_zero Go.wp_at_succ
def xk(M i):(aM M).take (i*7)=aM (M.take i):=by
 induction M generalizing i with
 |nil=>simp[aM]
 |cons x R a=>
  cases i with
  |zero=>simp[aM]
  |succ i=>have:=a i;simp only[aM,jF,List.take_succ_cons]at this⊢;rw[<-this,List.take_append,show(cQ x).length=7 from rfl,show(i+1)*7 - 7=i*7 by omega,mZ (show(cQ x).length<=(i+1)*7 by rw[show(cQ x).length=7 from rfl];omega)]
end
section
universe u
open Go.RowKit Go.Shelf Go.Lib
attribute [local go_sem ↓] Go.wp_at_zero Go.wp_at_succ
def xf{P}(w p s u b sz g o c e a d f k cur t cs)(x:P.underlying p=some (.slice b))(q:(P.info? b).map (·.size)=some sz)(y:w.heap[g]?=some (.cells cur t (0,0)))(z:k=Nat.min d c)(A:cs.length=k*sz)(h:∀j v,cs[j]?=some v->w.cell? (a.add j)=some v)(l:o+cs.length<=cur.size)(B:∀v∈cs,v.oneCell'=true):(Builtin.copy_ #[p,s] u #[.slice (some ⟨g,o,none⟩) c e,.slice (some a) d f]).run P w=.ok (goInt k) (w.setRow g (cur.toList.take o++cs++cur.toList.drop (o+cs.length)).toArray):=by
 have r:=run_loadCells_list (P:=P) w a cs h;have m:=run_storeCells_at P g o t cs 0 cur w y (by simpa using l) B;cases n:P.info? b with
 |none=>simp[n]at q
 |some i=>
  have C:i.size=sz:=by simpa[n]using q
  rw[A]at r;simp[Builtin.copy_,run_underlying x,Builtin.lenOf,Builtin.firstCells,sizeOf,typeInfo,n,C,<-z,r,m]
def TC(base v)(n i:Nat)(k r w)(I:n<=1000000)(d:base<=w.heap.size)(a:w.ownsRow base 137 7 v n k)(h:aK w i (cQ r).toArray 137):Calls Gh.prog.{u} 149 #[v,.int .i64 n,.slice (some ⟨i,0,none⟩) 1 1] w λe s=> ∃t,e=.returned t/\s.ownsRow base 137 7 t (n+1) (k++cQ r)/\w.grownBy s v.ownBlock:=by
 obtain⟨B,l,m,o,p⟩:=info_parts Gh.p8.{u};obtain⟨x,cap,rfl⟩:=dA a;have b:∀j u,(cQ r)[j]?=some u->w.cell? ((⟨i,0,none⟩:ap).add j)=some u:=World.news_of_block h;have y:n<=cap:=by
  obtain⟨h,h0⟩|⟨g,c,C,h,_,_,J,_⟩:=a.2
  .simp at h;omega
  .simp at h;omega
 have D:(n:Int)<=(cap:Int):=by omega
 have E:(0:Int)<=(n:Int):=by omega
 have F:=am a;have H:=am b;clear a h b;go_enter Gh.func149,Tryz.ntmps149;go_wp2_with (at_builtin;go_loud (refine wpList_append_lies _ rfl (.tmp 23) (.tmp 24) 118 rfl base 137 B (.agg #[.int .u32 0,.int .i64 0,.int .i64 0,.int .i64 0,.int .i64 0,.int .i64 0,.bool false]) 7 56 Gh.underlying118 l m o p rfl (by decide) (.slice x n cap) n k rfl (ai F) ⟨i,0,none⟩ 1 1 (cQ r) rfl rfl (ai H) (qC r) (by decide) (by unfold maxLen;omega) (by omega) d w.heap.size rfl ?_;intro K c1 L f q z A))
 all_goals go_ret
 all_goals exact⟨_,rfl,f,by cases x<;>exact q⟩
def xj(A B):aM (A++B)=aM A++aM B:=by simp[aM]
def H7(M i):(aM M).drop (i*7)=aM (M.drop i):=by
 by_cases a:i<=M.length
 .have h:=xj (M.take i) (M.drop i);rw[a7W]at h;rw[h,List.drop_append,a7g (by rw[jw,it];omega),gP,jw,it,a7r a,Nat.sub_self,List.drop_zero]
 .rw[a7g (by rw[jw];omega),a7g (by omega)];rfl
def BC(X:List af)(i:Nat)(D V:List af):List af:=
 (X.take ((i+1)*7)++D++X.drop ((i+1)*7+D.length)).take (i*7)++V++(X.take ((i+1)*7)++D++X.drop ((i+1)*7+D.length)).drop (i*7+V.length)
def a1c{X L r i n}(b:L.length=n)(c:i<n)(j:(n+1)*7<=X.length)(d:X.take (n*7)=aM L):BC X i (aM (L.drop i)) (cQ r)=aM (L.take i++r::L.drop i)++X.drop ((i+1)*7+(aM (L.drop i)).length):=by
 unfold BC;have e:(cQ r).length=7:=rfl;have a:(X.take ((i+1)*7)).length=(i+1)*7:=by rw[it];omega
 have f:X.take (i*7)=aM (L.take i):=by have:=congrArg (List.take (i*7)) d;rw[a7Y,a7r (a6p 7 (a7p c)),xk]at this;exact this
 have g:(X.take ((i+1)*7)++aM (L.drop i)++X.drop ((i+1)*7+(aM (L.drop i)).length)).take (i*7)=aM (L.take i):=by rw[kc,List.take_append_of_le_length (by rw[a];omega),a7Y,a7r (by omega),f]
 have h:(X.take ((i+1)*7)++aM (L.drop i)++X.drop ((i+1)*7+(aM (L.drop i)).length)).drop (i*7+(cQ r).length)=aM (L.drop i)++X.drop ((i+1)*7+(aM (L.drop i)).length):=by rw[kc,e,show i*7+7=(X.take ((i+1)*7)).length by rw[a];omega,List.drop_left]
 rw[g,h,xj,show aM (r::L.drop i)=cQ r++aM (L.drop i)from rfl];simp[kc]
def TF(base g n cap i o L r w)(hL:L.length=n)(hn:n<=1000000)(hi:i<n)(s:n+1<=cap)(C:o≠g)(d:w.ownsRow base 137 7 (.slice (some ⟨g,0,none⟩) n cap) n (aM L))(h:aK w o (cQ r).toArray 137):Calls Gh.prog.{u} 149 #[.slice (some ⟨g,0,none⟩) n cap,.int .i64 i,.slice (some ⟨o,0,none⟩) 1 1] w λe w'=>e=.returned (.slice (some ⟨g,0,none⟩) (n+1) cap)/\w'.ownsRow base 137 7 (.slice (some ⟨g,0,none⟩) (n+1) cap) (n+1) (aM (L.take i++r::L.drop i))/\w.grownBy w' (some g):=by
 have v:(Gh.prog.{u}.info? 137).map (·.size)=some 7:=by kernel_rfl
 obtain⟨b,B,D,E,m,ht⟩:∃b,aK w g b 137/\base<=g/\cap<=maxLen/\b.size=cap*7/\b.toList.take (n*7)=aM L:=by
  obtain⟨_,⟨h,_⟩|⟨g',c',b,h,h1,h2,h3,h4,h5,h6⟩⟩:=d
  .simp at h
  .simp at h;obtain⟨rfl,rfl⟩:=h;exact⟨b,h2,h1,h4,h5,h6⟩
 have O:∀P Q,(callFunc 194 #[.slice (some ⟨o,0,none⟩) 1 1,.slice (some ⟨g,(i+1)*7,none⟩) P Q]).run Gh.prog.{u} w=.ok (.value (.bool false)) w:=λP Q=>by
  rw[run_callFunc_extern Gh.func194 (by kernel_rfl) (by kernel_rfl) (by kernel_rfl) (e:=Extern.SlicesOverlaps.overlaps #[118,118] #[4]) (by kernel_rfl),
   Lib.run_overlaps_apart w 118 4 137 Gh.underlying118 7 Gh.sizeOf137 ⟨o,0,none⟩ ⟨g,(i+1)*7,none⟩ 1 1 P Q C 137 137 7 (cap*7) (by unfold aK at h;simp[World.shape?,h,cQ]) (by unfold aK at B;simp[World.shape?,B,m]) (by omega) (h.frozen 0) (h.frozen 7)]
  rfl
 have F:(aM (L.drop i)).length=(n - i)*7:=by rw[jw,mc,hL]
 have p:(n+1)*7<=b.size:=by rw[m];exact a6p 7 s
 have f:∀j u,(aM L)[j]?=some u->w.cell? ⟨g,j,none⟩=some u:=λj u M=>by have:=oT d j u M;rw[show(⟨g,0,none⟩:ap).add j=⟨g,j,none⟩by unfold Addr.add;split<;>simp_all]at this;exact this
 have q:∀x y R,(Builtin.copy_ #[118,118] x #[.slice (some ⟨g,(i+1)*7,none⟩) (n - i) y,.slice (some ⟨g,i*7,none⟩) (n+1 - i) R]).run Gh.prog.{u} w.drew=.ok (goInt ((n - i:Nat):Int)) (w.drew.setRow g (b.toList.take ((i+1)*7)++aM (L.drop i)++b.toList.drop ((i+1)*7+(aM (L.drop i)).length)).toArray):=λx y R=>
  xf w.drew _ _ x 137 7 g ((i+1)*7) _ y ⟨g,i*7,none⟩ _ R (n - i) b 137 (aM (L.drop i)) Gh.underlying118 v B (by simp only[a7P];split<;>omega) F
   (λj u M=>by
    rw[Addr.add_lit];refine f (i*7+j) u ?_;rw[<-H7,a7z]at M;exact M) (by rw[F];omega) (Bw _)
 obtain⟨a,c⟩:∃a,a=(b.toList.take ((i+1)*7)++aM (L.drop i)++b.toList.drop ((i+1)*7+(aM (L.drop i)).length)).toArray:=⟨_,rfl⟩;rw[<-c]at q;have l:a.size=b.size:=by rw[c];simp only[fS,ia,it,mc,a6m];rw[F];omega
 have H:∀W:aa,W=w.drew.setRow g a->W.heap[g]?=some (.cells a 137 (0,0)):=λW N=>by rw[N];exact setRow_heap w.drew g b a 137 (0,0) B
 have I:∀(W:aa),W.heap=(w.drew.setRow g a).heap->∀x y,(Builtin.copy_ #[118,118] x #[.slice (some ⟨g,i*7,none⟩) (n+1 - i) y,.slice (some ⟨o,0,none⟩) 1 1]).run Gh.prog.{u} W=.ok (goInt 1) (W.setRow g (a.toList.take (i*7)++cQ r++a.toList.drop (i*7+(cQ r).length)).toArray):=λW N x y=>
  xf W _ _ x 137 7 g (i*7) _ y ⟨o,0,none⟩ _ 1 1 a 137 (cQ r) Gh.underlying118 v (by rw[N];exact H _ rfl) (by simp only[a7P];split<;>omega) rfl
   (World.news_of_block (t:=137) (by rw[N];exact(setRow_other w.drew g o a C).trans h)) (by rw[l];show i*7+7<=_;omega) (qC r)
 have S:=am c;have ag:=am l;have T:=am m;have U:=am ht;have V:=am B;have X:=am D;have Y:=am E;have J:=am hL;have K:=am p;have Z:=am F;have ab:=jq.{u};have al: ¬((i:Int)=(n:Int)):=by omega
 have ao:(0:Int)<=(i:Int):=by omega
 have aq:(i:Int)<=(n:Int):=by omega
 have ar:IntKind.i64.wrap ((i:Int)+1)=(i:Int)+1:=wrap_small _ (by omega) (by omega);have au:IntKind.i64.wrap ((n:Int)+1)=(n:Int)+1:=wrap_small _ (by omega) (by omega);have av: ¬(cap:Int)<(n:Int)+1:=by omega
 have aP:(n:Int)+1<=(cap:Int):=by omega
 have ba:(i:Int)+1<=(n:Int)+1:=by omega
 have bb:(0:Int)<=(i:Int)+1:=by omega
 have bd:(0:Int)<=(n:Int)+1:=by omega
 have bl:(i:Int)<=(n:Int)+1:=by omega
 have ad: ¬cap=i+1:=by omega
 have ae: ¬cap=i:=by omega
 have bn:((i:Int)+1).toNat=i+1:=by omega
 have bo:((n:Int)+1).toNat=n+1:=by omega
 have HO:=am d;have HV:=am h;clear f B h d m ht c l H E D F p v;go_enter Gh.func149,Tryz.ntmps149;go_wp2_with (simp only[O])
 go_region_law_o (refine Go.Proofs.step_copy_runI rfl _ _ 118 118 rfl _ _ (by simp[Act.eval,Act.put]) (by simp[Act.eval,Act.put]) (q _ _ _) ?_)
 go_wp2_with (at_builtin;refine Go.Proofs.wpList_copy_runI _ rfl _ _ 118 118 rfl _ _ rfl rfl (I _ rfl _ _) ?_);go_ret;have z:List.take (i*7) a.toList++(cQ r++List.drop (i*7+(cQ r).length) a.toList)=aM (L.take i++r::L.drop i)++b.toList.drop ((i+1)*7+(aM (L.drop i)).length):=by rw[<-a1c (r:=r) (ai J) hi (by simpa using ai K) (ai U),ai S];simp[BC]
 have A:(aM (L.take i++r::L.drop i)).length=(n+1)*7:=by rw[jw,ia,gu,it,mc,ai J];omega
 rw[z];refine⟨rfl,⟨A,.inr ⟨g,cap,_,rfl,ai X,setRow_heap _ g a _ 137 (0,0) (setRow_heap w.drew g b a 137 (0,0) (ai V)),by omega,ai Y,?_,?_⟩⟩,?_⟩
 .have h0:=ai K;have h1:=ai T;simp only[fS,ia,mc,a6m];rw[A,ai Z];omega
 .rw[a6S,<-A,a6A]
 .exact⟨rfl,rfl,rfl,by simp,λk _ hk=>(setRow_other _ g k _ (λe=>hk (by rw[e]))).trans (setRow_other w.drew g k _ (λe=>hk (by rw[e])))⟩
def TE(base g n cap i N L r w)(hL:L.length=n)(hn:n<=1000000)(hi:i<n)(C:cap<n+1)(D:base<=w.heap.size)(m:w.ownsRow base 137 7 (.slice (some ⟨g,0,none⟩) n cap) n (aM L))(E:aK w N (cQ r).toArray 137):Calls Gh.prog.{u} 149 #[.slice (some ⟨g,0,none⟩) n cap,.int .i64 i,.slice (some ⟨N,0,none⟩) 1 1] w λe w'=> ∃G,e=.returned (.slice (some ⟨w.heap.size,0,none⟩) (n+1) G)/\w'.ownsRow base 137 7 (.slice (some ⟨w.heap.size,0,none⟩) (n+1) G) (n+1) (aM (L.take i++r::L.drop i))/\w.grownBy w' (some g):=by
 obtain⟨iR,X,Y,Z,O⟩:=info_parts Gh.p8.{u};have F:(Gh.prog.{u}.info? 137).map (·.size)=some 7:=by kernel_rfl
 have ab:n<=cap:=by
  obtain⟨E,h0⟩|⟨g,c,bb,E,_,_,h1,_⟩:=m.2
  .simp at E
  .simp at E;omega
 have P:g<w.heap.size:=iH m;have Q:N<w.heap.size:=E.lt;have f:∀j u,(aM L)[j]?=some u->w.cell? ⟨g,j,none⟩=some u:=λj u v=>by have:=oT m j u v;rw[show(⟨g,0,none⟩:ap).add j=⟨g,j,none⟩by unfold Addr.add;split<;>simp_all]at this;exact this
 have H:i+(n+1 - i)=n+1:=by omega
 have z:(Builtin.firstCells iR.size i (.slice (some ⟨g,0,none⟩) i cap)).run Gh.prog.{u} w.drew=.ok (aM (L.take i)).toArray w.drew:=by
  rw[Z];exact run_firstCells_some w.drew 7 i ⟨g,0,none⟩ i cap (aM (L.take i)) (by rw[jw,it];omega) (λj u v=>by
   rw[Addr.add_lit,dG];refine f j u ?_;rw[<-xk,a6s]at v;split at v
   .exact v
   .cases v)
 have R:∀p,(Builtin.append_ #[118,3] p #[.slice (some ⟨g,0,none⟩) i cap,.int .i64 ((n:Int)+1 - (i:Int))]).run Gh.prog.{u} w=
   .ok (.slice (some ⟨w.heap.size,0,none⟩) (n+1) (grownCap w (n+1) cap 137)) (w.drew.alloc (.cells ((aM (L.take i)).toArray++Builtin.zeroCells (Value.agg #[Value.int .u32 0,.int .i64 0,.int .i64 0,.int .i64 0,.int .i64 0,.int .i64 0,.bool false]).cells (n+1 - i)++Builtin.zeroCells (Value.agg #[Value.int .u32 0,.int .i64 0,.int .i64 0,.int .i64 0,.int .i64 0,.int .i64 0,.bool false]).cells (grownCap w (n+1) cap 137 - (n+1))) 137)):=λp=>by
  have h:=Lib.run_append_grow_zeros w 118 3 p 137 iR _ .i64 .i64 Gh.underlying118 Gh.underlying3 X Y (some ⟨g,0,none⟩) i cap (aM (L.take i)) z (n+1 - i) (by omega) (by omega) (by omega) (by omega) (by rw[O];omega) (by rw[O,H];exact growslice_fits C (by omega));rw[H]at h;rw[show(n:Int)+1 - (i:Int)=((n+1 - i:Nat):Int)by omega];exact h
 have ad:n+1<=grownCap w (n+1) cap 137:=grownCap_ge w _ _ _;have ae:=grownCap_le_maxLen w (n+1) cap 137 (by unfold maxLen;omega);generalize grownCap w (n+1) cap 137=G at*;obtain⟨d,o⟩:∃d:Array af,d=(aM (L.take i)).toArray++Builtin.zeroCells (Value.agg #[Value.int .u32 0,.int .i64 0,.int .i64 0,.int .i64 0,.int .i64 0,.int .i64 0,.bool false]).cells (n+1 - i)++Builtin.zeroCells (Value.agg #[Value.int .u32 0,.int .i64 0,.int .i64 0,.int .i64 0,.int .i64 0,.int .i64 0,.bool false]).cells (G - (n+1)):=⟨_,rfl⟩;rw[<-o]at R;have x:(aM (L.take i)).length=i*7:=by rw[jw,it];omega
 have V:(aM (L.drop i)).length=(n - i)*7:=by rw[jw,mc,hL]
 have I:d.size=G*7:=by rw[o];simp only[a6J,fS,x,Builtin.zeroCells,Value.cells,kK,a7J];show i*7+(n+1 - i)*7+(G - (n+1))*7=G*7;omega
 have S:d.toList.take (i*7)=aM (L.take i):=by rw[o,a7u,a7u,kc,a6S,<-x,a6A]
 have y:(w.drew.alloc (.cells d 137)).heap[w.heap.size]?=some (.cells d 137 (0,0)):=World.alloc_heap_new w.drew _;have q:∀(W:aa),W.heap=(w.drew.alloc (.cells d 137)).heap->∀p J,(Builtin.copy_ #[118,118] p #[.slice (some ⟨w.heap.size,i*7,none⟩) (n+1 - i) J,.slice (some ⟨N,0,none⟩) 1 1]).run Gh.prog.{u} W=.ok (goInt 1) (W.setRow w.heap.size (d.toList.take (i*7)++cQ r++d.toList.drop (i*7+(cQ r).length)).toArray):=λW T p J=>
  xf W _ _ p 137 7 w.heap.size (i*7) _ J ⟨N,0,none⟩ _ 1 1 d 137 (cQ r) Gh.underlying118 F (by rw[T];exact y) (by simp only[a7P];split<;>omega) rfl
   (World.news_of_block (t:=137) (by rw[T];exact(Below.heap_alloc w.drew _ N Q).trans E)) (by rw[I];show i*7+7<=_;omega) (qC r)
 obtain⟨b,l⟩:∃b,b=(d.toList.take (i*7)++cQ r++d.toList.drop (i*7+(cQ r).length)).toArray:=⟨_,rfl⟩;rw[<-l]at q;have s:b.size=G*7:=by rw[l];simp only[fS,ia,it,mc,a6m,I,show(cQ r).length=7 from rfl];omega
 have A:∀(W:aa),W.heap=((w.drew.alloc (.cells d 137)).setRow w.heap.size b).heap->∀p J sc,(Builtin.copy_ #[118,118] p #[.slice (some ⟨w.heap.size,(i+1)*7,none⟩) (n - i) J,.slice (some ⟨g,i*7,none⟩) (n - i) sc]).run Gh.prog.{u} W=.ok (goInt ((n - i:Nat):Int)) (W.setRow w.heap.size (b.toList.take ((i+1)*7)++aM (L.drop i)++b.toList.drop ((i+1)*7+(aM (L.drop i)).length)).toArray):=λW T p J sc=>
  xf W _ _ p 137 7 w.heap.size ((i+1)*7) _ J ⟨g,i*7,none⟩ _ sc (n - i) b 137 (aM (L.drop i)) Gh.underlying118 F (by rw[T];exact setRow_heap _ _ d b 137 (0,0) y) (by simp only[a7P];split<;>omega) V
   (λj u v=>by
    rw[Addr.add_lit];have hc:=f (i*7+j) u (by rw[<-H7,a7z]at v;exact v);rw[<-hc];refine World.cell?_of_block (w:=w) (a:=⟨g,i*7+j,none⟩) ?_;rw[T];exact(setRow_other _ _ g _ (by omega)).trans (Below.heap_alloc w.drew _ g P)) (by rw[V,s];omega) (Bw _)
 have B:(b.toList.take ((i+1)*7)++aM (L.drop i)++b.toList.drop ((i+1)*7+(aM (L.drop i)).length))=aM (L.take i++r::L.drop i)++b.toList.drop ((i+1)*7+(aM (L.drop i)).length):=by congr 1;rw[xj,show aM (r::L.drop i)=cQ r++aM (L.drop i)from rfl,<-kc];congr 1;rw[l,a6S,S,show(i+1)*7=(aM (L.take i)++cQ r).length by rw[ia,x];show _=i*7+7;omega,a6A]
 have hA:=q ((w.alloc (.cells d 137)).drew) rfl;have hB:=A ((((w.alloc (.cells d 137)).drew).setRow w.heap.size b).drew) rfl;have U:=am B;have ag:=am s;have al:=am V;have ao:=am y;have aq:=am hL;have au:=jq.{u};have bd: ¬((i:Int)=(n:Int)):=by omega
 have bl:(0:Int)<=(i:Int):=by omega
 have bn:(i:Int)<=(n:Int):=by omega
 have bo:(i:Int)<=(cap:Int):=by omega
 have bp:IntKind.i64.wrap ((i:Int)+1)=(i:Int)+1:=wrap_small _ (by omega) (by omega);have br:IntKind.i64.wrap ((n:Int)+1)=(n:Int)+1:=wrap_small _ (by omega) (by omega);have bs:IntKind.i64.wrap ((n:Int)+1 - (i:Int))=(n:Int)+1 - (i:Int):=wrap_small _ (by omega) (by omega);have bw:(cap:Int)<(n:Int)+1:=by omega
 have bx:(i:Int)+1<=(n:Int)+1:=by omega
 have bA:(0:Int)<=(i:Int)+1:=by omega
 have bB:(i:Int)<=(n:Int)+1:=by omega
 have av: ¬G=i+1:=by omega
 have aP: ¬G=i:=by omega
 have ba: ¬cap=i:=by omega
 have bC:((i:Int)+1).toNat=i+1:=by omega
 clear q A f E m o l I s S y V F z H x B;go_enter Gh.func149,Tryz.ntmps149;go_wp2_with (at_builtin;refine Lib.wpList_append_run _ rfl _ _ _ _ rfl _ _ rfl rfl _ _ (R _) ?_);go_region;go_wp2;go_ret;have K:List.take ((i+1)*7) b.toList++(aM (List.drop i L)++List.drop ((i+1)*7+(aM (List.drop i L)).length) b.toList)=aM (L.take i++r::L.drop i)++b.toList.drop ((i+1)*7+(aM (L.drop i)).length):=by rw[<-kc];exact ai U
 have M:(aM (L.take i++r::L.drop i)).length=(n+1)*7:=by rw[jw,ia,gu,it,mc,ai aq];omega
 rw[K];have ar:((w.alloc (.cells d 137)).drew.setRow w.heap.size b).drew.heap[w.heap.size]?=some (.cells b 137 (0,0)):=setRow_heap (w.alloc (.cells d 137)).drew w.heap.size d b 137 (0,0) (ai ao);refine⟨G,rfl,⟨M,.inr ⟨w.heap.size,G,_,rfl,D,setRow_heap _ _ b _ 137 (0,0) ar,ad,ae,?_,?_⟩⟩,?_⟩
 .have h0:=ai ag;simp only[fS,ia,mc,a6m];rw[M,ai al,h0];omega
 .rw[a6S,<-M,a6A]
 .refine⟨rfl,rfl,rfl,?_,λk hk _=>(setRow_other _ _ k _ (by omega)).trans ((setRow_other _ _ k _ (by omega)).trans (Below.heap_alloc w.drew _ k hk))⟩;simp
end
section
universe u
open Go.RowKit Go.Shelf Go.Lib
attribute [local go_sem ↓] Go.wp_at_zero Go.wp_at_succ
def sY{w:aa}{base e f n:Nat}{v g}(h:w.ownsRow base e f v n g):∀q,v.ownBlock=some q->base<=q/\q<w.heap.size:=λq a=>by
 obtain⟨b,_⟩|⟨k,c,i,b,d,j,_⟩:=h.2
 .rw[b]at a;simp[Value.ownBlock]at a
 .rw[b]at a;simp[Value.ownBlock]at a;subst a;exact⟨d,(bW.1 j).1⟩
def TB(base v)(i d:Nat)(L r w)(o:L.length<=1000000)(y:i<=L.length)(b:base<=w.heap.size)(p:v.ownBlock≠some d)(a:w.ownsRow base 137 7 v L.length (aM L))(j:aK w d (cQ r).toArray 137):Calls Gh.prog.{u} 149 #[v,.int .i64 i,.slice (some ⟨d,0,none⟩) 1 1] w λe k=> ∃n,e=.returned n/\k.ownsRow base 137 7 n (L.length+1) (aM (L.take i++r::L.drop i))/\w.grownBy k v.ownBlock:=by
 by_cases h:i=L.length
 .subst h;refine(TC base v L.length d (aM L) r w o b a j).mono ?_;rintro e k ⟨n,rfl,l,m⟩;refine⟨n,rfl,?_,m⟩;rw[nX,List.drop_length,H8];exact l
 .obtain⟨s,f,rfl⟩:=dA a;obtain⟨g,rfl⟩:∃g,s=some ⟨g,0,none⟩:=by
   obtain⟨_,h0⟩|⟨g,c,t,j,_⟩:=a.2
   .omega
   .simp at j;exact⟨g,j.1⟩
  have q:d≠g:=λe=>p (by simp[Value.ownBlock,e]);by_cases x:L.length+1<=f
  .refine(TF base g L.length f i d L r w rfl o (by omega) x q a j).mono ?_;rintro e k ⟨rfl,l,m⟩;exact⟨_,rfl,l,m⟩
  .refine(TE base g L.length f i d L r w rfl o (by omega) (by omega) b a j).mono ?_;rintro e k ⟨G,rfl,l,m⟩;exact⟨_,rfl,l,m⟩
def fF(L:List Rw)(p:Pf):Nat:=(L.takeWhile λr=>decide (r.addr<p.addr\/r.addr=p.addr/\r.len<p.len)).length
def wL(r p):fk (bL r) p↔(r.addr<p.addr\/r.addr=p.addr/\r.len<p.len):=by simp[fk,bL]
def TM(L p):fF L p<=L.length:=by unfold fF;exact(List.takeWhile_sublist _).length_le
def Yw{L p i}(h:a5S L p i):i=fF L p:=by
 unfold fF;induction L generalizing i with
 |nil=>have:=h.1;simp at this;simp[this]
 |cons r R e=>
  obtain⟨f,c,d⟩:=h;cases i with
  |zero=>have:=d 0 (by simp) (aF _);simp only[a6r,wL]at this;rw[a6T,if_neg (by simpa using this)];rfl
  |succ i=>have h0:=c 0 (by simp) (by omega);simp only[a6r,wL]at h0;have:=e (i:=i) ⟨by simpa using f,λj a b=>c (j+1) (by simpa using a) (by omega),λj a b=>d (j+1) (by simpa using a) (by omega)⟩;rw[a6T,if_pos (by simpa using h0),gu,<-this]
def pi(L:List Rw)(n:Rw)(i:Nat):List Rw:=
 match L[i]? with
 |some r=>if bL r=bL n then L.set i (eQ r n)else if n.met<16/\L.length<60 then L.take i++jv n::L.drop i else L
 |none=>if n.met<16/\L.length<60 then L.take i++jv n::L.drop i else L
def gt(L:List Rw)(n:Rw):List Rw:=pi L n (fF L (bL n))
def I9{L n i}(b:i<L.length)(a:i=fF L (bL n))(h:bL L[i]=bL n):gt L n=L.set i (eQ L[i] n):=by unfold gt pi;rw[<-a,lF b];simp only[h,if_true]
def Jb{L n i}(a:i=fF L (bL n))(h:((L[i]?.map bL)==some (bL n))=false):gt L n=if n.met<16/\L.length<60 then L.take i++jv n::L.drop i else L:=by
 unfold gt pi;rw[<-a];cases b:L[i]? with
 |none=>rfl
 |some r=>
  rw[b]at h;have c: ¬bL r=bL n:=by simpa using h
  simp only[c,if_false]
def a2c(base v L nw w)(hn:L.length<=100000)(O:jy L)(d:base<=w.heap.size)(m:w.ownsRow base 137 7 v L.length (aM L)):Calls Gh.prog.{u} 96 #[v,.agg #[.int .u32 nw.addr,.int .i64 nw.len,.int .i64 nw.tag,.int .i64 nw.met,.int .i64 nw.az]] w λe w'=> ∃v',e=.returned v'/\w'.ownsRow base 137 7 v' (gt L nw).length (aM (gt L nw))/\Below base w w':=by
 obtain⟨P,x,rfl⟩:=dA m;have D:=(aL.refl w).alloc (.cells #[.int .u32 nw.addr,.int .i64 nw.len,.int .i64 nw.tag,.int .i64 nw.met,.int .i64 nw.az] 52);have Y:=a0C.{u} P L.length x L (bL nw) (w.alloc (.cells #[.int .u32 nw.addr,.int .i64 nw.len,.int .i64 nw.tag,.int .i64 nw.met,.int .i64 nw.az] 52)) rfl (by omega) O (jx (nM m) D.below);simp only[bL]at Y;have bN:=aK.new w #[.int .u32 nw.addr,.int .i64 nw.len,.int .i64 nw.tag,.int .i64 nw.met,.int .i64 nw.az] 52;have B:=am m;have Q:=am bN;have F:=am D;clear m bN D O;go_enter Gh.func96,Tryz.ntmps96;go_wp2_with fail;refine Y.mono ?_;rintro e Z ⟨i,H,rfl,y⟩;have n:i=fF L (bL nw):=Yw H;have R:i<=L.length:=H.1;have f:=(ai Q).dY y;have a:Z.ownsRow base 137 7 (.slice P L.length x) L.length (aM L):=da (ai B) (((ai F).trans y).below) (aF _);have z:=am ((ai F).trans y);have n0:=(f.cell 0).trans (show _=some (.int .u32 nw.addr)from rfl);have n1:=(f.cell 1).trans (show _=some (.int .i64 nw.len)from rfl);have n2:=(f.cell 2).trans (show _=some (.int .i64 nw.tag)from rfl);have n3:=(f.cell 3).trans (show _=some (.int .i64 nw.met)from rfl);have n4:=(f.cell 4).trans (show _=some (.int .i64 nw.az)from rfl);have bb:w.heap.size<Z.heap.size:=f.lt;have aP:=am f;clear Y y H F B Q f;cases A:(L[i]?.map bL==some (⟨nw.addr,nw.len⟩:Pf))with
 |true=>
  have t:(L[i]?.map bL==some (bL nw))=true:=A;clear A;have o:i<L.length:=by refine Nat.lt_of_not_le λh=>?_;rw[a6x h]at t;simp at t
  have S:bL L[i]=bL nw:=by rw[lF o]at t;simpa using t
  have N:=am (I9 o n S);obtain⟨g,rfl⟩:∃g,P=some ⟨g,0,none⟩:=by
   obtain⟨_,h0⟩|⟨g,c,ab,hv,_⟩:=a.2
   .omega
   .simp at hv;exact⟨g,hv.1⟩
  have j:base<=g:=(sY a g rfl).1;obtain⟨_,T⟩:=sX a o;have C:=T i o;simp only[dG]at C;obtain⟨c0,c1,c2,c3,c4,c5,c6⟩:=C;have r:=am a;have ad:=am n;clear a T n S t;have hH:=λW=>Tg.{u} L[i] nw W;generalize eQ L[i] nw=r2 at hH N;generalize hE:L[i]=E at*;clear hE;have j0:(0:Int)<=(i:Int):=by omega
  have j1:(i:Int)<(L.length:Int):=by omega
  go_wp2_with fail;have ba:=jq.{u}
  go_region_with_o (go_at_call 148;refine(hH _).mono ?_;rintro e w4 ⟨rfl,U⟩;have s:=(aL.drew (aL.refl Z)).trans U;have k:=lj (ai r) (s.below.block _ (iH (ai r)));obtain⟨⟨ab,l,b⟩,_⟩:=sX k o;obtain⟨u0,s0⟩:=jc l b o 0 (by decide);obtain⟨u1,s1⟩:=jc l b o 1 (by decide);obtain⟨u2,s2⟩:=jc l b o 2 (by decide);obtain⟨u3,s3⟩:=jc l b o 3 (by decide);obtain⟨u4,s4⟩:=jc l b o 4 (by decide);obtain⟨u5,s5⟩:=jc l b o 5 (by decide);obtain⟨u6,s6⟩:=jc l b o 6 (by decide);rw[m6]at s0;have z0:=l.frozen (i*7);have z1:=l.frozen (i*7+1);have z2:=l.frozen (i*7+2);have z3:=l.frozen (i*7+3);have z4:=l.frozen (i*7+4);have z5:=l.frozen (i*7+5);have z6:=l.frozen (i*7+6);have ae:=am k;have ag:=am s;clear k U s b l)
  all_goals go_wp2
  all_goals go_ret
  all_goals
   refine⟨_,rfl,?_,?_⟩
   .rw[ai N,a6Y];exact He (ai ae) o r2
   .have h4:=((ai z).trans (ai ag)).below.mono d;exact((((((h4.setCell (p:=⟨g,_,none⟩) j _).setCell (p:=⟨g,_,none⟩) j _).setCell (p:=⟨g,_,none⟩) j _).setCell (p:=⟨g,_,none⟩) j _).setCell (p:=⟨g,_,none⟩) j _).setCell (p:=⟨g,_,none⟩) j _).setCell (p:=⟨g,_,none⟩) j _
 |false=>
  have t:(L[i]?.map bL==some (bL nw))=false:=A;clear A;have N:=am (Jb n t);have r:=am a;have ad:=am n;clear a n t;by_cases al:nw.met<16
  .by_cases V:L.length<60
   .have aq:(L.length:Int)<60:=by omega
    have hF:=λW=>zH.{u} nw.addr nw.len nw.tag nw.met nw.az W;go_wp2_with (first|(go_at_call 135;refine(hF _).mono ?_;rintro e X ⟨rfl,I⟩;have J:=am ((ai z).trans I);have K:=am (da (ai r) I.below (aF _));have ar:base<=X.heap.size:=dF d (ai J).below.size;have au:(Value.slice P L.length x).ownBlock≠some X.heap.size:=λe=>a7h _ (sY (ai K) _ e).2;clear I)|(go_at_call 149;refine(TB base (.slice P L.length x) i X.heap.size L (jv nw) _ (by omega) R (by rw[World.size_alloc];exact Nat.le_succ_of_le ar) au (da (ai K) (bH X _) (aF _)) (aK.new X _ _)).mono ?_;rintro e w3 ⟨v3,rfl,M,av⟩))
    .go_ret;refine⟨v3,rfl,?_,?_⟩
     .rw[ai N,if_pos ⟨al,V⟩];have e1:(L.take i++jv nw::L.drop i).length=L.length+1:=by simp;omega
      rw[e1];exact M
     .have h2:=((ai J).alloc (.cells (cQ (jv nw)).toArray 137)).below.mono d;exact h2.grown av (by have:=(ai J).below.size;simp;omega) (λq t=>(sY (ai K) q t).1)
   .have aq: ¬(L.length:Int)<60:=by omega
    go_wp2;go_ret;refine⟨_,rfl,?_,(ai z).below.mono d⟩;rw[ai N,if_neg (λh=>V h.2)];exact ai r
  .go_wp2;go_ret;refine⟨_,rfl,?_,(ai z).below.mono d⟩;rw[ai N,if_neg (λh=>by have:=h.1;omega)];exact ai r
end
section
universe u
open Go.RowKit Go.Shelf
attribute [local go_sem] Oper.semAt_some
attribute [-go_sem] Builtin.append_
def io(l:List aT)(k:Nat):af:=.string (eE (dC 2 (a5M l k)))
def qm{n}(l:List aT)(a:List (kM n)):List af:=a.map λx=>io l x.1
theorem Gh.Tz:(Gh.prog.{u}.info? 9).map (λi=>(i.zero,i.size,i.bytes))=some (some (.string ⟨#[]⟩),1,16):=by kernel_rfl
def Yv{n}(l a)(y:kM n):qm l (a++[y])=qm l a++[io l y.1]:=by simp[qm]
def HY(n k)(h:25*k<n+25):(ju n k).map (·.1)=List.range k:=by
 induction k with
 |zero=>rfl
 |succ k a=>rw[HU n k (by omega),nW,a (by omega),a6w];rfl
def ZV(n):(ju n (aV n)).length=aV n:=by have h:=congrArg List.length (HY n (aV n) (by unfold aV;omega));simpa using h
def Yu(n l):qm l (ju n (aV n))=(List.range (aV n)).map (io l):=by rw[<-HY n (aV n) (by unfold aV;omega),a7l];rfl
def Cr{c d q B k cs t e a n v v' r o}(h:aK c k cs t)(b:c.ownsRow q e a v n r)(f:t≠e)(s:(c.alloc o).grownBy d v.ownBlock)(g:B≠k):aK (d.setCell ⟨B,0,none⟩ v') k cs t:=by
 refine aK.other (W:=d) ?_ (p:=⟨B,0,none⟩) g v';refine(s.block k (h.alloc o).lt (λi=>?_)).trans (h.alloc o);obtain⟨rfl,_⟩|⟨u,l,m,rfl,_,j,_⟩:=b.2
 .simp[Value.ownBlock]at i
 .simp[Value.ownBlock]at i;subst i;unfold aK at h;rw[j]at h;simp at h;exact f h.2.symm
def Yh{l n}(a:l.length=n)(k):(a5M l k).length=kq n k:=by simp[a5M,kq,a]
def Hh{l k e}(h:e∈a5M l k):e∈l:=a6N (a6z h)
def Yi{l}(h:ig l)(k):ig (a5M l k):=λe a=>h e (Hh a)
def Q5{l}(h:∀e∈l,dw e=0):∀k,fj l k=none:=by
 induction l with
 |nil=>intro k;rfl
 |cons e r a=>intro k;unfold fj;rw[if_pos (h e (by simp))];exact a (λx b=>h x (by simp[b])) _
def Yg{l}(h:∀e∈l,dw e=0)(k):fj (a5M l k) 0=none:=Q5 (λe a=>h e (Hh a)) 0
def Yf{w W g l B}(h:kW w g 0 l)(a:Below B w W)(b:g<B)(k):kW W g (25*k*4) (a5M l k):=by
 intro j i;have c:25*k+j<l.length:=by
  have:j<min 25 (l.length - 25*k):=by simpa[a5M]using i
  omega
 obtain⟨d,c1,c2,f⟩:=h (25*k+j) c;have e:(a5M l k)[j]=l[25*k+j]:=by simp[a5M]
 rw[e];have m:0+(25*k+j)*4=25*k*4+j*4:=by omega
 rw[m]at d c1 c2 f;exact⟨(a.cell (p:=⟨g,_,none⟩) b).trans d,(a.cell (p:=⟨g,_,none⟩) b).trans c1,(a.cell (p:=⟨g,_,none⟩) b).trans c2,(a.cell (p:=⟨g,_,none⟩) b).trans f⟩
def Zm(g n l base w)(hn:l.length=n)(bb:n<=1000)(Z:ig l)(hz:∀e∈l,dw e=0)(o:w.ownsRow base 42 4 (.slice (some ⟨g,0,none⟩) n n) n (eY l)):Calls Gh.prog.{u} 92 #[.slice (some ⟨g,0,none⟩) n n] w λe w'=> ∃v,e=.returned v/\w'.ownsRow w.heap.size 9 1 v (aV n) ((List.range (aV n)).map (io l))/\Below w.heap.size w w':=by
 obtain⟨i0,hi,ab,ad,ae⟩:=info_parts Gh.Tz.{u};have C:=C3 (yy o);have E:g<w.heap.size:=NT (yy o);refine(callsIn_wide (n:=6)).1 ?_;refine callsIn_of_wp_marks Gh.func92 rfl trivial ?_ rfl;simp only[Tryz.ntmps92,fS,gu,gv,Nat.reduceAdd,Nat.reduceSub,j9,ka,kg,ke,gP,fy]
 gi_wp2_with (refine⟨trivial,?_⟩;gi_at_call 143;refine(callsIn_wide.2 (Nq _ _ _ _)).mono ?_;rintro e w' ⟨rfl,rfl⟩)
 have T:=(Boxed.new w 186 (.slice none 0 0));have F:Below w.heap.size w (((w.alloc (.cells #[.slice none 0 0] 186)).alloc (.cells #[.slice (some ⟨g,0,none⟩) n n] 43)).alloc (.cells #[.int .i64 25] 3)):=(((aL.refl w).alloc _).alloc _).alloc _|>.below
 have T:=(T.alloc (.cells #[.slice (some ⟨g,0,none⟩) n n] 43)).alloc (.cells #[.int .i64 25] 3);have U:=(aK.new (w.alloc (.cells #[.slice none 0 0] 186)) #[.slice (some ⟨g,0,none⟩) n n] 43).alloc (.cells #[.int .i64 25] 3);have V:=aK.new ((w.alloc (.cells #[.slice none 0 0] 186)).alloc (.cells #[.slice (some ⟨g,0,none⟩) n n] 43)) #[.int .i64 25] 3;simp only[World.size_alloc]at U V;have cS:=(U.cell 0).trans (show _=some (.slice (some ⟨g,0,none⟩) n n)from rfl);have cN:=(V.cell 0).trans (show _=some (.int .i64 25)from rfl);have ag:(((w.alloc (.cells #[.slice none 0 0] 186)).alloc (.cells #[.slice (some ⟨g,0,none⟩) n n] 43)).alloc (.cells #[.int .i64 25] 3)).heap.size=w.heap.size+3:=by simp
 obtain⟨W0,H⟩:∃W0,((w.alloc (.cells #[.slice none 0 0] 186)).alloc (.cells #[.slice (some ⟨g,0,none⟩) n n] 43)).alloc (.cells #[.int .i64 25] 3)=W0:=⟨_,rfl⟩;rw[H]at T F ag cS cN U V⊢;clear H;refine wpIn_rangeFunc_ownH rfl (by decide) (gf:=183) (lb:=#[.pointer (some ⟨w.heap.size+1,0,none⟩),.pointer (some ⟨w.heap.size+1+1,0,none⟩)]) rfl trivial (enters_of Gh.func183 (by kernel_rfl) rfl)
  (Nr (6 - 1) (by decide) (w.heap.size+1) (w.heap.size+1+1) g 0 n n (aF _) (by omega) W0 (by omega) (by omega) cS cN) KC.t (KC.b (by omega) (by omega)) (Below.refl _ _) (λ_=>rfl)
  (λa W=>(∃v,Boxed W w.heap.size 186 v/\W.ownsRow w.heap.size 9 1 v a.length (qm l a)/\True)/\(aK W (w.heap.size+1) #[.slice (some ⟨g,0,none⟩) n n] 43/\aK W (w.heap.size+1+1) #[.int .i64 25] 3)/\Below w.heap.size w W)
  (λ_ _ _=>False)
  (OwnFrom.and (Own.from (holdsRow_own w.heap.size w.heap.size 186 9 1 (λ(a:List (kM n))=>a.length) (λ(a:List (kM n))=>qm l a) (λ_ _=>True)) _) (OwnFrom.and (OwnFrom.and (Own.from (aK.own (β:=List (kM n)) _ (λ_=>_) _) _) (Own.from (aK.own (β:=List (kM n)) _ (λ_=>_) _) _)) (ownFrom_below (aF _) (by omega))))
  (λ_ _ _ _ _ hs _ _=>hs)
  ⟨⟨_,T,World.ownsRow_nil _ _ _ _,trivial⟩,⟨U,V⟩,F⟩
  (λy a' W=>a'={tmps:=#[.slice (some ⟨g,0,none⟩) n n,undef,.slice none 0 0,.pointer (some ⟨w.heap.size,0,none⟩),.slice (some ⟨g,25*y.1*4,none⟩) (kq n y.1) (kq n y.1),.slice (some ⟨g,0,none⟩) n n,.func (.func 183) #[] #[.pointer (some ⟨w.heap.size+1,0,none⟩),.pointer (some ⟨w.heap.size+1+1,0,none⟩)],.slice (some ⟨g,25*y.1*4,none⟩) (kq n y.1) (kq n y.1),undef,undef,undef,undef,undef,undef],defers:=[]})
  ?hAx ?assign ?body ?done ?stop
 case hAx=>intro y a' _ X Y row hs hg hr;exact hs
 case assign=>
  rintro l' a y W K ⟨⟨v,p,d,_⟩,al,m⟩ I;simp only[w8]
  gi_wp2
  exact I _ _ ((KeepsOthers.refl _).from _) ⟨rfl,rfl⟩ ⟨⟨v,p,d,trivial⟩,al,m⟩ rfl
 case body=>
  rintro l' a y a' W hl ⟨r,hr⟩ ⟨⟨v,p,d,_⟩,⟨J,L⟩,m⟩ rfl bd;obtain⟨av,cv,rfl⟩:=dA d;have au:=jq.{u};have k:Below w.heap.size w W.drew:=m.drew;have M:kW W.drew g (25*y.1*4) (a5M l y.1):=Yf C k E y.1;have ao:=JB.{u} g (25*y.1*4) (kq n y.1) (kq n y.1) (a5M l y.1) W.drew (Yi Z y.1) (Yh hn y.1) (by unfold kq;omega) (cG E k.size) (Yg hz y.1) M;have c0:=p.cell;have HV:=am p;have N:=am d;have O:=am m;have aq:=am (And.intro J L);have bl:a.length<1000:=by omega
  clear p d m M k J L
  gi_wp2
  gi_region_with_o (refine⟨trivial,?_⟩;gi_at_call 85;refine(CallsIn.inRound l' (callsIn_wide.2 ao)).mono ?_;rintro e w1 ⟨rfl,ar⟩;have i:Below W.heap.size W w1:=Below.trans (Below.refl _ W).drew ar;have q:Boxed w1 w.heap.size 186 (.slice av a.length cv):=(ai HV).kept (E8 (r:=none) i) (by simp);have f:=da (ai N) i (aF _);have Q:w.heap.size<=w1.heap.size:=dF (ai O).size i.size;obtain⟨g5,c5,w5,s,x,z,aP,ba⟩:=run_append_lies (P:=Gh.prog.{u}) (w1.alloc (.cells #[io l y.1] 9)) 186 186 w.heap.size 9 i0 (.string ⟨#[]⟩) 1 16 Gh.underlying186 hi ab ad ae rfl (by decide) _ _ _ (f.alloc _) ⟨w1.heap.size,0,none⟩ 1 1 [io l y.1] rfl (by exact World.news_of_block (heap_alloc_new w1 _)) (by intro u hu;simp at hu;subst hu;rfl) (by decide) (by unfold maxLen;omega) (by omega) (by simp;omega) _ rfl;obtain⟨q1,q2,q3,q4,q5⟩:=q.appended (by decide) f Q (aF _) x z;have c1:=q.cell;have c2:=(q.alloc (.cells #[.string (eE (dC 2 (a5M l y.1)))] 9)).cell;have bn:=q1.cell;have f5:=q1.frozen;simp only[io]at s)
  all_goals
   have A:=ai aq;have k:=ai O;have R:w.heap.size≠w.heap.size+1:=by omega
   have S:w.heap.size≠w.heap.size+1+1:=by omega
   have h1:=Cr (B:=w.heap.size) (v':=.slice (some ⟨g5,0,none⟩) (a.length+1) c5) (A.1.below i A.1.lt) f (by decide) z R;have h2:=Cr (B:=w.heap.size) (v':=.slice (some ⟨g5,0,none⟩) (a.length+1) c5) (A.2.below i A.2.lt) f (by decide) z S;exact⟨(KeepsFrom.of_grownBy (E8 (r:=none) i) (λj e=>by cases e)).trans (q4.from _),⟨h1.trans A.1.symm,h2.trans A.2.symm⟩,⟨_,q2,by rw[Yv,ia];exact q3,trivial⟩,⟨h1,h2⟩,k.trans ((i.mono k.size).trans q5)⟩
 case done=>
  rintro D ys W hD rfl ⟨⟨v,p,d,_⟩,_,hB⟩ I;have hc:=p.cell
  gi_wp2
  refine⟨by simp,.inl ⟨_,_,rfl,run_takeDeferred I,?_⟩⟩;refine⟨_,results_tmp rfl _ _ _,v,rfl,?_,hB.trans (belowK_b (w:=w) (aF _) W D _ _ (by omega) I rfl rfl)⟩;have h0:=ownsRow_putObj d (.deferred none) I rfl;rw[ZV,Yu]at h0;exact h0
 case stop=>rintro D c a W _ _ h _;exact h.elim
end
end Go.Proofs.q
end
