import Derived.Conc.AtomicLaws2
import Derived.Conc.Beside
import Derived.Conc.MarkLaws
import Derived.Conc.SmallLaws
import Derived.Laws.LoneSync
import Derived.Laws.Sem
import Derived.Test.YtdnpeefnobjfaaaGreatDoorK05
set_option maxRecDepth 100000
set_option maxHeartbeats 4000000
set_option linter.all false
noncomputable section
section
namespace Go.Mir
def re(w:aa)(τ:Nat->Question->Nat)(d:Nat):aa:={w with tape:=τ,drawn:=d}
structure a9y (T:Tables) (D:Nat->Prop) (w:aa) (fr:ah) (gs:List ah):Prop where
 heap:cU T.globals.size D id w w
 low:∀b,b<T.globals.size+1->D b
 all:cA T.globals.size w
 ok:bJ T.globals.size fr
 bQ:∀x∈gs,bJ T.globals.size x
 aX:∀f,aQ D id f->fr=aO f fr/\gs=gs.map (aO f)
section
variable{T:Tables}{F:Array Func}{E:bW->Prop}{D:Nat->Prop}{w w':aa}{fr fr' trap:ah}{gs gs':List ah}{es:Array aT}
def a9y.re(L:a9y T D w fr gs)(τ:Nat->Question->Nat)(d:Nat):a9y T D (re w τ d) fr gs:=⟨L.heap.same rfl rfl,L.low,L.all,L.ok,L.bQ,L.aX⟩
def a9y.rel(L:a9y T D w fr gs)(trap τ d):Rel T [trap] D id w (Mir.re w τ d) fr gs fr (gs++[trap]):=
 ⟨L.heap.same rfl rfl,rfl,λb c=>⟨L.low b c,rfl⟩,L.all,L.ok,L.bQ,λf a=>⟨(L.aX f a).1,by rw[<-(L.aX f a).2]⟩⟩
theorem fS{a b}{x:ah}(h:a++[x]=b++[x]):a=b:=a9T h
def Ce(I:trap.mode=.returning)(O:Twin T F F (λ_=>False))(L:a9y T D w fr gs)(P:stepG ⟨T,F⟩ true (am fr (gs++[trap])) w=.go (am fr' (gs'++[trap])) w' es)(τ d)(Q:∀i,w.drawn+i<w'.drawn->τ (d+i)=w.tape (w.drawn+i)):∃q j,stepG ⟨T,F⟩ true (am fr (gs++[trap])) (re w τ d)=.go (am fr' (gs'++[trap])) (re w' τ (d+j)) q/\w'.drawn=w.drawn+j/\∃o,a9y T o w' fr' gs':=by
 have R:=L.rel trap τ d;obtain⟨o,g,H,q,rg,M,k,U⟩|⟨_,t,V,_⟩:=wa (main:=true) (below:=[]) (xb I) O R P (λi S=>Q i S)
 .rcases U with⟨W,X,Y,N,Z,rfl,l⟩|⟨_,_,_,_,_,_,_,_,ab,_⟩
  .let ⟨rfl,r⟩:=dG Z;have r:=fS r;subst r;have s:∀b,o b->g b=b:=by
    intro b c;obtain p|p:=k.gr.vE b c
    .rw[(k.more b p).2];rfl
    .have:(re w τ d).heap.size=w.heap.size:=rfl;omega
   have u:∀f,aQ o id f->aQ o g f:=λf v=>⟨λb c=>by rw[s b c];exact v.on b c,v.inj⟩;have n:aQ o g id:=u id ⟨λ_ _=>rfl,λ_ _ h=>h⟩;have y:=l.aX id n;rw[pi]at y;have z:gs'.map (aO id)=gs':=by have:aO id=id:=funext pi;rw[this];simp
   rw[z]at y;have J:H.heap.size=w'.heap.size:=by have p:=k.gr.grow;have h2:(re w τ d).heap.size=w.heap.size:=rfl;omega
   have K:H.heap=w'.heap:=by
    apply mq;intro b;by_cases c:o b
    .have:=l.heap.obj id n b c;rw[s b c]at this;rw[this];cases w'.heap[b]? <;>simp[qG]
    .by_cases A:b<w.heap.size
     .have B: ¬D b:=λh=>c (k.more b h).1;rw[k.frame b A (λx hx e=>B (e▸hx)),k.gr.Ab b A B];rfl
     .by_cases C:b<w'.heap.size
      .exact absurd (k.gr.yF b a9h C) c
      .simp_all
   let ⟨j,hj1,hj2⟩:=k.drawn;have hv:H=re w' τ (d+j):=by have p:=k.tape;have h2:=k.os;have h3:=k.output;have h4:=k.oh;have h5:=k.rp;obtain⟨vh,vt,vd,vo,vu⟩:=H;simp_all[Mir.re]
   subst hv;rw[y.1,y.2]at M;refine⟨q,j,M,hj2,o,⟨cU.mk l.heap.lt (λb c=>l.heap.lt b c) (λa b _ _ h=>h) (λf v b c=>?_) l.heap.ok,λb c=>(l.low b c).1,l.all,l.ok,l.bQ,λf v=>?_⟩⟩
   .have:=l.heap.obj f (u f v) b c;rw[s b c]at this;exact this
   .have p:=l.aX f (u f v);rw[y.1,y.2]at p;exact⟨p.1,fS p.2⟩
  simp_all
 .have:=(dG V).2;simp at this
end
def ay(P:aA):ah:={fn:=P.funcs.size,tmps:=#[],todo:=[.call {target:=.nil,args:=#[]} false "fmt's door" #[]],defers:=[],mode:=.returning,kind:=.normal,roundOf:=none}
inductive Fin (P:aA) (trap:ah) (Stop:ah->List ah->aa->Prop):ah->List ah->aa->Prop
 |stop {fr:ah} {gs:List ah} {w:aa}:Stop fr gs w->Fin P trap Stop fr gs w
 |step {fr:ah} {gs:List ah} {w:aa} (nf:(Nat->Question->Nat)->Nat->ah) (ng:(Nat->Question->Nat)->Nat->List ah) (nw:(Nat->Question->Nat)->Nat->aa) (ne:(Nat->Question->Nat)->Nat->Array aT)
  (h:∀τ d,stepG P true (am fr (gs++[trap])) (re w τ d)=.go (am (nf τ d) (ng τ d++[trap])) (nw τ d) (ne τ d)) (ih:∀τ d,Fin P trap Stop (nf τ d) (ng τ d) (nw τ d)):Fin P trap Stop fr gs w
section
variable{P:aA}{fr fr':ah}{cs aq:List ah}{w w':aa}{es:Array aT}
def vp(h:stepG P true (am fr cs) w=.go (am fr' aq) w' es):step P (lone fr cs w)=.next (lone fr' aq w'):=by apply step_lone_go;have:stepG P true {frame:=fr,callers:=cs,status:=.running,dying:=none} w=.go (am fr' aq) w' es:=h;rw[this];rfl
def qp{o}(h:stepG P true (am fr cs) w=.ended o w' es):step P (lone fr cs w)=.ended o w':=by apply step_lone_ended;have:stepG P true {frame:=fr,callers:=cs,status:=.running,dying:=none} w=.ended o w' es:=h;rw[this];rfl
def nV(h:lone fr cs w=lone fr' aq w'):fr=fr'/\cs=aq/\w=w':=by simp_all[lone]
def C5(b:P.inits.idxOf? P.funcs.size=none){t}(h:ny (ay P) t):∃o c es,stepG P true (am t []) w=.ended o c es:=by
 have a:P.funcs[P.funcs.size]?=none:=b1v (az _);have ret:∀t:ah,t.mode=.returning->t.defers=[]->t.fn=P.funcs.size->t.kind=.normal->∃o c es,stepG P true (am t []) w=.ended o c es:=by intro t d g e i;rw[kw (by rw[d];simp)];unfold unwind;rw[g];dsimp;rw[d];dsimp;rw[e,a];dsimp;simp only[doReturn,i,e,b];simp_all
 obtain rfl|⟨x,rfl⟩|⟨ch,rfl⟩:=h
 .exact ret _ rfl rfl rfl rfl
 .simp_all[G8,ay]
 .have f:((ay P).raise ch).mode=.panicking ch:=rfl;rw[kw (by rw[f];simp)];unfold unwind;have j:((ay P).raise ch).defers=[]:=rfl;rw[j];dsimp;rw[f];dsimp;have k:((ay P).raise ch).catches P=true:=by unfold Frame.catches;have l:((ay P).raise ch).fn=P.funcs.size:=rfl;have n:((ay P).raise ch).todo=[.call {target:=.nil,args:=#[]} false "fmt's door" #[]]:=rfl;rw[l,a,n];simp_all
  rw[k];simp_all
end
section
variable{T:Tables}{F:Array Func}{D:Nat->Prop}{w:aa}{fr:ah}{gs:List ah}
def Ul{trap}(a:trap.mode=.returning)(c:Twin T F F (λ_=>False))(L:a9y T D w fr gs){g' w' es}(d:stepG ⟨T,F⟩ true (am fr (gs++[trap])) w=.go g' w' es):(∃fr' b,g'=am fr' (b++[trap]))\/∃t,g'=am t []/\ny trap t:=by
 obtain⟨_,_,_,_,_,_,_,e⟩|⟨_,t,f,g⟩:=wa (main:=true) (below:=[]) (xb a) c (L.rel trap w.tape w.drawn) d (λi _=>rfl)
 all_goals grind
theorem zA{P}:∀n k m a,runN P n m=.next a->runN P (n+k) m=runN P k a
 |0,k,m,a,h=>by simp_all[runN]
 |n+1,k,m,a,h=>by
  rw[b0k];simp[runN]at h⊢;cases b:step P m with
  |next c=>rw[b]at h;exact zA n k c a h
  |ended o w=>rw[b]at h;cases h
def At(T:Tables)(F:Array Func)(trap:ah)(Stop:ah->List ah->aa->Prop)(fr0:ah)(a:List ah)(c:aa)(k:Nat)(fr:ah)(gs:List ah)(w:aa)(σ:Nat->Question->Nat)(e:Nat):Prop:=
 ∀τ:Nat->Question->Nat,(∀i,i<e->τ i=σ i)->runN ⟨T,F⟩ k (lone fr0 (a++[trap]) (re c τ 0))=.next (lone fr (gs++[trap]) (re w τ e))/\
  ∀n,n<k->∀fr' b w',runN ⟨T,F⟩ n (lone fr0 (a++[trap]) (re c τ 0))=.next (lone fr' (b++[trap]) w')->¬Stop fr' b w'
def O2(z:Twin T F F (λ_=>False))(C:T.inits.idxOf? F.size=none){Stop}(E:∀fr gs w τ d,Stop fr gs (re w τ d)->Stop fr gs w){fr0 u H}(ht:∀τ,∃n fr' b w',runN ⟨T,F⟩ n (lone fr0 (u++[ay ⟨T,F⟩]) (re H τ 0))=.next (lone fr' (b++[ay ⟨T,F⟩]) w')/\Stop fr' b w'){k σ e}(Z:At T F (ay ⟨T,F⟩) Stop fr0 u H k fr gs w σ e)(L:a9y T D w fr gs)(hn: ¬Fin ⟨T,F⟩ (ay ⟨T,F⟩) Stop fr gs w):∃fr' b w' σ' e',(¬Fin ⟨T,F⟩ (ay ⟨T,F⟩) Stop fr' b w'/\(∃I,a9y T I w' fr' b)/\At T F (ay ⟨T,F⟩) Stop fr0 u H (k+1) fr' b w' σ' e')/\e<=e'/\∀i,i<e->σ' i=σ i:=by
 have s:(ay ⟨T,F⟩).mode=.returning:=rfl;have J: ¬Stop fr gs w:=λh=>hn (.stop h);have f:∀τ d,∃fr' b w' es,stepG ⟨T,F⟩ true (am fr (gs++[ay ⟨T,F⟩])) (re w τ d)=.go (am fr' (b++[ay ⟨T,F⟩])) w' es:=by
  intro τ d;obtain⟨g,c⟩:=Z (λi=>if i<e then σ i else τ (d+(i - e))) (λi v=>by simp[v]);obtain⟨n,K,M,N,p,O⟩:=ht (λi=>if i<e then σ i else τ (d+(i - e)));have ab:k<n:=by
   obtain h|h|h:=b1j n k
   .exact absurd O (c n h K M N p)
   .subst h;rw[g]at p;simp at p;obtain⟨rfl,r,rfl⟩:=nV p;have r:=fS r;subst r;exact absurd (E _ _ _ _ _ O) J
   .exact h
  have a:=zA k (n - k) _ _ g;rw[show k+(n - k)=(n - k - 1+1)+k by omega,b1M _ k,show k+(n - k - 1+1)=n by omega,p]at a;rw[show n - k=(n - k - 1)+1 by omega]at a;simp[runN]at a;have x:=L.re (λi=>if i<e then σ i else τ (d+(i - e))) e;obtain⟨f1,c1,w2,es2,l⟩|⟨o,w2,es2,A⟩:=Li (cs:=gs++[ay ⟨T,F⟩]) z x.ok x.all a9i
  .rcases Ul s z x l with⟨f2,g2,r⟩|⟨t,r,B⟩
   .rw[r]at l;let ⟨Q,j,R,_,_⟩:=Ce s z x l τ d (λi _=>by
     simp only[Mir.re];rw[if_neg a9h];congr 1;omega)
    exact⟨f2,g2,_,_,R⟩
   .exfalso;obtain⟨rfl,rfl⟩:=dG r;rw[vp l]at a;obtain⟨o,w3,Q,S⟩:=C5 (P:=⟨T,F⟩) (w:=w2) C B;dsimp at a;rcases hk:n - k - 1 with _|q
    .rw[hk]at a;simp[runN]at a;have:=(nV a).2.1;simp at this
    .rw[hk]at a;simp only[runN,qp S]at a;cases a
  .exfalso;rw[qp A]at a;cases a
 have:∃τ d fr' b w' es,stepG ⟨T,F⟩ true (am fr (gs++[ay ⟨T,F⟩])) (re w τ d)=.go (am fr' (b++[ay ⟨T,F⟩])) w' es/\¬Fin ⟨T,F⟩ (ay ⟨T,F⟩) Stop fr' b w':=by
  refine eQ λad=>hn ?_;refine .step (λτ d=>(f τ d).choose) (λτ d=>(f τ d).choose_spec.choose) (λτ d=>(f τ d).choose_spec.choose_spec.choose) (λτ d=>(f τ d).choose_spec.choose_spec.choose_spec.choose) (λτ d=>(f τ d).choose_spec.choose_spec.choose_spec.choose_spec) λτ d=>?_
  grind
 obtain⟨U,y,fr',b,w',ae,l,V⟩:=this;have x:=L.re U y;let ⟨_,j,_,hj,I,L'⟩:=Ce s z x l U y (λi _=>rfl);refine⟨fr',b,w',λi=>if i<e then σ i else U (y+(i - e)),e+j,⟨V,⟨I,L'⟩,λτ hτ=>?_⟩,a9h,λi v=>by simp[v]⟩;obtain⟨g,c⟩:=Z τ (λi v=>by rw[hτ i a9h];simp[v]);obtain⟨es2,j2,R,W,_⟩:=Ce s z x l τ e (λi v=>by
  have ao:y+i<w'.drawn:=v;simp[Mir.re]at hj⊢;rw[hτ (e+i) a9h];dsimp;rw[if_neg a9h];congr 1;omega)
 have X:j2=j:=by have p:w'.drawn=y+j:=hj;have O:w'.drawn=y+j2:=W;omega
 subst X;have Y:stepG ⟨T,F⟩ true (am fr (gs++[ay ⟨T,F⟩])) (re w τ e)=.go (am fr' (b++[ay ⟨T,F⟩])) (re w' τ (e+j2)) es2:=R;refine⟨?_,λn ap f1 g1 N p=>?_⟩
 .rw[zA k 1 _ _ g];simp[runN,vp Y]
 .rcases b1m n k with h|h
  .exact c n h f1 g1 N p
  .have:n=k:=a9h
   subst this;rw[g]at p;simp at p;let ⟨rfl,r,rfl⟩:=nV p;have r:=fS r
   grind
def EH(A:Twin T F F (λ_=>False))(l:T.inits.idxOf? F.size=none){Stop}(o:∀fr gs w τ d,Stop fr gs (re w τ d)->Stop fr gs w)(L:a9y T D w fr gs)(t:∀τ,∃n fr' g w',runN ⟨T,F⟩ n (lone fr (gs++[ay ⟨T,F⟩]) (re w τ 0))=.next (lone fr' (g++[ay ⟨T,F⟩]) w')/\Stop fr' g w'):Fin ⟨T,F⟩ (ay ⟨T,F⟩) Stop fr gs w:=by
 refine eQ λB=>?_;let f:=ah×List ah×aa×(Nat->Question->Nat)×Nat;let Ok:Nat->f->Prop:=λk s=> ¬Fin ⟨T,F⟩ (ay ⟨T,F⟩) Stop s.1 s.2.1 s.2.2.1/\(∃C,a9y T C s.2.2.1 s.1 s.2.1)/\At T F (ay ⟨T,F⟩) Stop fr gs w k s.1 s.2.1 s.2.2.1 s.2.2.2.1 s.2.2.2.2;have h0:Ok 0 (fr,gs,w,λ_ _=>0,0):=⟨B,⟨D,L⟩,λτ _=>⟨rfl,λn h=>absurd h (lL n)⟩⟩;have b:∀k (s:{s:f // Ok k s}),∃u:{s:f // Ok (k+1) s},s.1.2.2.2.2<=u.1.2.2.2.2/\∀i,i<s.1.2.2.2.2->u.1.2.2.2.1 i=s.1.2.2.2.1 i:=by rintro k ⟨⟨v,x,y,σ,e⟩,p,⟨R,E⟩,q⟩;obtain⟨H,I,J,K,M,r,N,O⟩:=O2 A l o t q E p;exact⟨⟨⟨H,I,J,K,M⟩,r⟩,N,O⟩
 let ⟨a,hseq⟩:∃a:∀k,{s:f // Ok k s},∀k,(a k).1.2.2.2.2<=(a (k+1)).1.2.2.2.2/\∀i,i<(a k).1.2.2.2.2->(a (k+1)).1.2.2.2.1 i=(a k).1.2.2.2.1 i:=
  ⟨λk=>Nat.rec ⟨_,h0⟩ (λk s=>(b k s).choose) k,λk=>(b k _).choose_spec⟩
 have c:∀k j,(a k).1.2.2.2.2<=(a (k+j)).1.2.2.2.2/\∀i,i<(a k).1.2.2.2.2->(a (k+j)).1.2.2.2.1 i=(a k).1.2.2.2.1 i:=by
  intro k j;induction j with
  |zero=>simp_all
  |succ j S=>
   have:=hseq (k+j)
   grind
 let ⟨τ,hτ⟩:∃τ:Nat->Question->Nat,∀k i,i<(a k).1.2.2.2.2->τ i=(a k).1.2.2.2.1 i:=by
  refine⟨λi=> @dite _ (∃k,i<(a k).1.2.2.2.2) (Classical.propDecidable _) (λh=>(a h.choose).1.2.2.2.1 i) (λ_ _=>0),λk i z=>?_⟩;have hex:∃k,i<(a k).1.2.2.2.2:=⟨k,z⟩;dsimp only;rw[dif_pos hex];have Q:=hex.choose_spec;obtain h|h:=Nat.le_total k hex.choose
  .have:=(c k (hex.choose - k)).2 i z;rw[show k+(hex.choose - k)=hex.choose by omega]at this;exact this
  .have:=(c hex.choose (k - hex.choose)).2 i Q;rw[show hex.choose+(k - hex.choose)=k by omega]at this
   grind
 let ⟨n,v,x,y,p,h2⟩:=t τ;have q:=(a (n+1)).2.2.2;exact(q τ (hτ (n+1))).2 n (lK n) v x y p h2
end
end Go.Mir
end
section
namespace Go.Mir
open Go
section
variable{T:Tables}{F F':Array Func}{E:bW->Prop}{Z:Nat->Prop}{K:Nat->Obj}{cs:List ah}{D:Nat->Prop}{ai:Nat->Nat}{w u v:aa}{fr m:ah}{gs rcs:List ah}{main:Bool}
def pT{G}(h:bj Z K w u)(f:cA G w):cA G u:=by
 intro b o a;by_cases g:Z b
 .rcases h.old b g with⟨c,e,i,_,d⟩|⟨i,_,d⟩|⟨i,j,d⟩
  .rw[d]at a;cases a;trivial
  .rw[d]at a;cases a;trivial
  .rw[d]at a;exact f b o (j.trans a)
 .rw[h.other b g]at a;exact f b o a
def bj.re(h:bj Z K w u)(τ:Nat->Question->Nat)(d:Nat):bj Z K (re w τ d) (re u τ d):=⟨rfl,rfl,h.os,h.output,h.size,h.other,h.old,h.thin⟩
def Rel.lA(R:Rel T cs D ai w v fr gs m rcs)(τ d):Rel T cs D ai (re w τ d) v fr gs m rcs:=
 ⟨R.heap.same rfl rfl,R.os,R.low,R.all,R.ok,R.bQ,R.aX⟩
def de(T:Tables)(Z:Nat->Prop)(K:Nat->Obj)(cs:List ah)(D:Nat->Prop)(ai:Nat->Nat)(w v:aa)(fr:ah)(gs:List ah)(m:ah)(rcs:List ah):Prop:=
 ∃x,bj Z K x w/\Rel T cs D ai x v fr gs m rcs
def uM(N:Twin T F F' E)(z:Twin T F F (λ_=>False))(cL:iv T F){fr1 gs1 u1 es}(h:stepG ⟨T,F⟩ true (am fr (gs++[ay ⟨T,F⟩])) (re u v.tape v.drawn)=.go (am fr1 (gs1++[ay ⟨T,F⟩])) u1 es)(R:de T Z K cs D ai u v fr gs m rcs):∃(o:Nat->Prop) (a:Nat->Nat) (p:aa) (j:Array aT) (rg:aw) (x A:aa),stepG ⟨T,F'⟩ main (am m rcs) v=.go rg p j/\bj Z K A u1/\a9o D o ai a x A v p es j/\(∀e∈es,j4 Z e)/\cU T.globals.size o a A p/\((∃B l,rg=am B l/\Rel T cs o a A p fr1 gs1 B l)\/∃q d k c C H I n,(E q/\(k=.normal\/k=.deferred))/\fr1=Frame.enter ⟨T,F⟩ q d k/\gs1=C::H/\rg=am (Frame.enter ⟨T,F'⟩ q c k) (I::n)/\(∀f,aQ o a f->c=d.map (al f))/\Rel T cs o a A p C H I n):=by
 obtain⟨w,hF,R⟩:=R;have O:=Ho (cs:=gs++[ay ⟨T,F⟩]) z cL (u:=re u v.tape v.drawn) (w:=re w v.tape v.drawn) R.ok (pT (hF.re v.tape v.drawn) (R.lA v.tape v.drawn).all) a9i (hF.re _ _);let ⟨w',h1,h2,h3⟩:=O _ _ _ _ h;have P:=wa (main:=main) (below:=[]) (xb (trap:=ay ⟨T,F⟩) rfl) N (R.lA v.tape v.drawn) h1 (λi X=>rfl);obtain⟨o,a,p,j,rg,Q,J,S⟩|⟨_,t,U,_⟩:=P
 .refine⟨o,a,p,j,rg,_,w',Q,h2,J,h3,?_⟩;obtain⟨fr1,gs1,r,g,L,rfl,y⟩|⟨q,d,k,c,fr1,gs1,r,g,V,L,rfl,W,y⟩:=S
  .obtain⟨M,s⟩:=dG L;have s:=fS s;rw[<-M,<-s]at y;exact⟨y.heap,.inl ⟨r,g,rfl,y⟩⟩
  .obtain⟨M,s⟩:=dG L;have s:=fS (b:=fr1::gs1) s;exact⟨y.heap,.inr ⟨q,d,k,c,fr1,gs1,r,g,V,M,s,rfl,W,y⟩⟩
 .exfalso;have:=(dG U).2;simp at this
theorem a9F{Stop}(b:∀fr gs w,Stop fr gs w->fr.mode=.returning){q fn s}(e:F[q]?=some fn)(n:fn.body=some (.refuse s)){args k}: ¬Fin ⟨T,F⟩ (ay ⟨T,F⟩) Stop (Frame.enter ⟨T,F⟩ q args k) gs u:=by
 intro f;have a:(Frame.enter ⟨T,F⟩ q args k).mode=.run:=rfl;have c:(Frame.enter ⟨T,F⟩ q args k).todo=[.code (.refuse s)]:=by grind[Frame.enter]
 cases f with
 |stop g=>have:=b _ _ _ g;rw[a]at this;cases this
 |step h i j l d _=>
  have d:=d u.tape u.drawn;rw[ij a]at d
  grind[stepG.exec]
end
end Go.Mir
end
section
namespace Go.Mir
open Go.Conc
def de.lA{T Z K cs D ai w v fr a gs rcs}(R:de T Z K cs D ai w v fr gs a rcs)(τ d e):de T Z K cs D ai (re w τ d) (v.at e) fr gs a rcs:=by obtain⟨x,b,R⟩:=R;exact⟨re x τ d,b.re τ d,R.heap.same rfl rfl,R.os,R.low,R.all,R.ok,R.bQ,R.aX⟩
inductive Reach (P:aA) (trap:ah) (Stop:ah->List ah->aa->Prop):ah->List ah->aa->ah->List ah->aa->Prop
 |refl {fr:ah} {gs:List ah} {w:aa}:Reach P trap Stop fr gs w fr gs w
 |step {fr fr1 fr2:ah} {gs gs1 gs2:List ah} {w w1 w2:aa} {es:Array aT} (τ:Nat->Question->Nat) (d:Nat) (hn: ¬Stop fr gs w) (hs:stepG P true (am fr (gs++[trap])) (re w τ d)=.go (am fr1 (gs1++[trap])) w1 es) (hr:Reach P trap Stop fr1 gs1 w1 fr2 gs2 w2):Reach P trap Stop fr gs w fr2 gs2 w2
def cn(SB:Nat->Prop):Loc->Prop
 | .cell a=>SB a.block
 |_=>False
def oo(w:aa):=(w.os,w.output)
structure Old where
 p:Nat->Nat
 D:Nat->Prop
 J:Nat->Prop
 H:Nat->Option Obj
 w:aa
def Old.Kept(Od:Old)(D:Nat->Prop)(ai:Nat->Nat)(SB:Nat->Prop)(v:aa):Prop:=(∀b,Od.D b->D b/\ai b=Od.p b)/\(∀c,Od.J c->(¬SB c/\c<v.heap.size/\∀b,D b->ai b≠c)/\v.heap[c]?=Od.H c)/\oo v=oo Od.w
structure nA (T:Tables) (P:aA) (Z:Nat->Prop) (K:Nat->Obj) (cs:List ah) (Od:Old) (D:Nat->Prop) (ai:Nat->Nat) (w:aa) (fr:ah) (fs:List ah) (gs:Array aw) (v:aa) (t:bm) (q:Nat->Nat) (SB:Nat->Prop):Prop where
 rel:∃rf rcs,gs[0]?=some (am rf rcs)/\de T Z K cs D ai w v fr fs rf rcs
 iZ:Leavers P t gs q
 trace:Past (cn SB) v.heap.size t
 apart:∀b,D b->¬SB (ai b)
 low:∀c,SB c->c<v.heap.size
 keep:Od.Kept D ai SB v
def Ends(P:aA)(Post:aj->aa->Prop)(m:Machine)(t:bm):Prop:=
 ∃N a o w' b,runNT P (N+1) m t=(.ended o w',b)/\runN P N m=.next a/\step P a=.ended o w'/\Good P Post a o w' b
def Ends.one{P Post m a t ops}(b:stepT P m=(.next a,ops))(h:Ends P Post a (t++ops)):Ends P Post m t:=by obtain⟨n,last,o,w,t',h1,h2,h3,h4⟩:=h;exact⟨n+1,last,o,w,t',by rw[runNT_succ_next b];exact h1,by rw[runN_succ_next b];exact h2,h3,h4⟩
theorem Ends.many{P Post}:∀{N} {m c} {t d},runNT P N m t=(.next c,d)->Ends P Post c d->Ends P Post m t
 |0,m,c,t,d,a,h=>by
  grind[runNT]
 |N+1,m,c,t,d,a,h=>by
  simp[runNT]at a;rcases b:stepT P m with⟨s,e⟩;rw[b]at a;cases s with
  |next f=>exact Ends.one b (Ends.many a h)
  |ended o w=>simp at a
section
variable{T:Tables}{F F':Array Func}{E:bW->Prop}{D B:Nat->Prop}{ai A:Nat->Nat}{w w' v v':aa}{u u':Array aT}
theorem Bq{G}(d:cU G B A w' v')(b:a9o D B ai A w w' v v' u u'):∀e∈u',∃g∈u,(∀f,aQ B A f->e=bK f g):=by intro e c;have h0:=b.ev _ (aL d 0);rw[h0]at c;obtain⟨i,l,rfl⟩:=fT.1 c;refine⟨u[i]'(by grind),b1k _,λf h=>?_⟩;have j:=b.ev f h;have k:=h0.symm.trans j;have n:=congrArg (λa:Array aT=>a[i]?) k;simp_all
def yD{G}(a:cU G B A w' v'){b c}(h:∀f,aQ B A f->c=f b):∃b,B b/\A b=c:=by
 by_cases d:B b
 .exact⟨b,d,(h _ (aL a 0)).trans (by simp[ag,d])|>.symm⟩
 .have e:=h _ (aL a 0);have g:=h _ (aL a 1);simp_all[ag]
def oG{SB:Nat->Prop}(a:a9o D B ai A w w' v v' u u')(d:∀b,D b->¬SB (ai b))(g:∀c,SB c->c<v.heap.size):∀b,B b->¬SB (A b):=by
 intro b e f;obtain h|h:=a.new b e
 .exact d b h (by rw[<-(a.more b h).2];exact f)
 grind
def Old.Kept.gone{Od:Old}{SB}(h:Od.Kept D ai SB v)(a:a9o D B ai A w w' v v' u u'):Od.Kept B A SB v':=by
 refine⟨λb d=>⟨(a.more b (h.1 b d).1).1,by rw[(a.more b (h.1 b d).1).2,(h.1 b d).2]⟩,λc i=>?_,(jY a.os a.output:oo v'=oo v).trans h.2.2⟩;obtain⟨⟨j,f,g⟩,k⟩:=h.2.1 c i;refine⟨⟨j,bL f a.size,λb d e=>?_⟩,(a.frame c f g).trans k⟩;obtain q|⟨_,q⟩:=a.new b d
 .exact g b q ((a.more b q).2.symm.trans e)
 .omega
def oT{G SB}(j:cU G B A w' v')(p:a9o D B ai A w w' v v' u u')(s:∀b,B b->¬SB (A b)):∀e∈u',EvL (cn SB) v'.heap.size e:=by
 intro e t;obtain⟨⟨n,wr,q⟩,h0,d⟩:=Bq j p e t;have y:=p.qu _ h0;have hex:=d _ (aL j 0);cases n with
 |cell a=>
  have k:∃b,B b/\A b=(match e.loc with| .cell a=>a.block|_=>0):=yD j (b:=a.block) λf o=>by rw[d f o];rfl
  rw[hex]at k⊢;obtain⟨b,h,g⟩:=k;refine⟨λx c i=>?_,by simp[bK,cH],by simp[bK,cH],?_⟩
  .simp only[bK,cH,MemAct.ofEvent,MemAct.touch?,cK]at c;subst c;simp only[bK,cH]at g;exact absurd (g▸i) (s b h)
  .have:=j.fQ b h;rw[g]at this;exact this
 |obj r=>
  have k:∃b,B b/\A b=(match e.loc with| .obj a=>a|_=>0):=yD j (b:=r) λf o=>by rw[d f o];rfl
  rw[hex]at k⊢;obtain⟨b,h,g⟩:=k;have l:=j.fQ b h;rw[g]at l;refine⟨λx c i=>?_,by simp[bK,cH],by simp[bK,cH],?_⟩
  .cases wr<;>cases q<;>simp only[bK,cH,MemAct.ofEvent,MemAct.touch?,cK,reduceCtorEq]at c
   all_goals subst c;exact i.elim
  .cases wr<;>cases q<;>exact l
 |mark m=>
  have z:=y m rfl;rw[hex];cases m with
  |noRoom=>exact⟨λx c=>by grind[bK,cH,ko,MemAct.ofEvent,MemAct.touch?],by simp[bK,cH,ko],by simp[bK,cH,ko],trivial⟩
  |extern f=>exact⟨λx c=>by grind[bK,cH,ko,MemAct.ofEvent,MemAct.touch?],by simp[bK,cH,ko],by simp[bK,cH,ko],trivial⟩
  |_=>cases z
 |output=>rw[hex];refine⟨λx c i=>?_,by simp[bK,cH],by simp[bK,cH],trivial⟩;simp[bK,cH,MemAct.ofEvent,MemAct.touch?]at c;subst c;exact i.elim
 |goroutines=>rw[hex];refine⟨λx c i=>?_,by simp[bK,cH],by simp[bK,cH],trivial⟩;simp[bK,cH,MemAct.ofEvent,MemAct.touch?]at c;subst c;exact i.elim
end
end Go.Mir
end
section
namespace Go.Mir
open Go.Conc
open Go.ConcN (sumTo upd sumTo_upd upd_ne upd_same)
section
variable{T:Tables}{F F':Array Func}{E:bW->Prop}{P:aA}{D:Nat->Prop}{ai:Nat->Nat}{w v:aa}{fr rf:ah}{m rcs cs:List ah}{gs:Array aw}{t:bm}{q:Nat->Nat}{SB:Nat->Prop}
def k9(c:Leavers P t gs q)(i:0<gs.size){g g' w' fn pos es}:Leavers P (t++MemOp.ofEvents 0 fn pos es) ((gs.map (woken P g g' w')).setIfInBounds 0 g') q:=
 ⟨λj x d f=>by
  have b:0≠j:=a9h
  rw[dw b,ip]at f;obtain⟨y,k,rfl⟩:=gn.1 f;have h:=c.old j y d k;rw[woken_quitsD h,Deaf_other t a9h _ (λl a=>by obtain⟨e,_,rfl⟩:=Go.Conc.mem_ofEvents a;rfl)];exact h,λj d=>by
  rw[Deaf_other t (g':=0) (by grind) _ (λl a=>by obtain⟨e,_,rfl⟩:=Go.Conc.mem_ofEvents a;rfl)];exact c.above j (by simp_all)⟩
def WU(l:Leavers P t gs q){i k g g' w' fn pos es}(n:gs[i]?=some g)(f:QuitsD P k (deafBehind (Deaf t i) es) g'):Leavers P (t++MemOp.ofEvents i fn pos es) ((gs.map (woken P g g' w')).setIfInBounds i g') (upd q i k):=
 ⟨λj x o d=>by
  have h:i<gs.size:=(bz.1 n).1;by_cases a:i=j
  .subst a;rw[lG (by simp_all)]at d;obtain rfl:=db d;rw[upd_same,Deaf_own];exact f
  .rw[dw a,ip]at d;obtain⟨y,p,rfl⟩:=gn.1 d;have c:=l.old j y o p;rw[woken_quitsD c,upd_ne q k (b1F a),Deaf_other t a _ (λr b=>by obtain⟨e,_,rfl⟩:=Go.Conc.mem_ofEvents b;rfl)];exact c,λj o=>by
  have h:i<gs.size:=(bz.1 n).1;rw[Deaf_other t (g':=i) (by grind) _ (λr b=>by obtain⟨e,_,rfl⟩:=Go.Conc.mem_ofEvents b;rfl)];exact l.above j (by simp_all)⟩
def OM(d:Leavers P t gs q){a}(h0:gs[0]?=some a)(c:a.status=.running):∀g∈gs,awake g:=by
 intro g e;obtain⟨i,f,rfl⟩:=fT.1 e;obtain rfl|b:=kN i
 .grind[awake_of]
 .exact awake_of ((d.old i _ b (eY f)).status.elim .inl λx=>.inr (.inr x))
def mN{a sl}(y:Leavers P t gs q)(h0:gs[0]?=some a)(f:a.status=.running):(∃d b,stepT P (crowd gs v sl)=runT P (crowd gs (v.at d) b) 0)\/∃d b c L ops,stepT P (crowd gs v sl)=(.next (crowd c (v.at d) b),ops)/\c.size=gs.size/\c[0]?=some a/\Leavers P (t++ops) c L/\sumTo c.size L<sumTo gs.size q/\(∃i,0<i/\∀r∈ops,r.g=i/\r.act.touch?=none/\∀B,r.act.low B)/\∀{h} {B},Past h B t->Past h B (t++ops):=by
 obtain⟨i,g,d,b,s,u,z⟩:=crowd_pick (P:=P) (w:=v) (sl:=sl) (OM y h0 f) ⟨0,a,h0,f⟩;obtain rfl|j:=kN i
 .grind
 .refine .inr ?_;have x:=y.old i g j s;have A:(i==0)=false:=by grind
  have C:i<gs.size:=(bz.1 s).1;cases n:q i with
  |zero=>rw[n]at x;rw[x.1]at u;cases u
  |succ k=>
   rw[n]at x;obtain⟨O,_⟩|⟨_,M,R,H,o,I⟩:=x
   .rw[O]at u;cases u
   have l:=runT_crowd_go (P:=P) (sl:=b) (i:=i) s (by rw[A];exact o (v.at d));have p:((gs.map (woken P g M (v.at d))).setIfInBounds i M).size=gs.size:=a9i
   refine⟨d,b,_,upd q i k,_,z.trans l,p,?_,WU y s I,?_,⟨i,j,λr J=>?_⟩,λQ=>Q.mute a9h H⟩
   .grind[woken_run]
   .rw[p];have S:sumTo gs.size (upd q i k)+(k+1)=sumTo gs.size q+k:=by have:=sumTo_upd q k id C;simp_all
    omega
   .obtain⟨e,N,rfl⟩:=Go.Conc.mem_ofEvents J;exact⟨rfl,touch_mute (H e N),λB=>low_mute (H e N) B⟩
end
def wB(T:Tables)(F F':Array Func)(E:bW->Prop)(Z:Nat->Prop)(K:Nat->Obj)(cs:List ah)(Od:Old)(Stop:ah->List ah->aa->Prop):Prop:=
 ∀(f:bW) (a:Array aj) (k:CallKind) (d:Array aj) (fr:ah) (m:List ah) (rf:ah) (rcs:List ah) (D:Nat->Prop) (ai:Nat->Nat) (w v:aa) (gs:Array aw) (t:bm) (q:Nat->Nat) (SB:Nat->Prop) (s:Option (Nat×Nat)),
  E f->(k=.normal\/k=.deferred)->Fin ⟨T,F⟩ (ay ⟨T,F⟩) Stop (Frame.enter ⟨T,F⟩ f a k) (fr::m) w->(∀g,aQ D ai g->d=a.map (al g))->de T Z K cs D ai w v fr m rf rcs->
  gs[0]?=some (am (Frame.enter ⟨T,F'⟩ f d k) (rf::rcs))->Leavers ⟨T,F'⟩ t gs q->Past (cn SB) v.heap.size t->(∀b,D b->¬SB (ai b))->(∀c,SB c->c<v.heap.size)->Od.Kept D ai SB v->
  ∃M h o l p u n x e i j r,runNT ⟨T,F'⟩ M (crowd gs v s) t=(.next (crowd h o l),p)/\
   Reach ⟨T,F⟩ (ay ⟨T,F⟩) Stop (Frame.enter ⟨T,F⟩ f a k) (fr::m) w i j r/\nA T ⟨T,F'⟩ Z K cs Od x e r i j h o p u n
section
variable{T:Tables}{F F':Array Func}{E:bW->Prop}{Z:Nat->Prop}{K:Nat->Obj}{cs:List ah}{Od:Old}{Stop:ah->List ah->aa->Prop}{Post:aj->aa->Prop}
def a3W(tw:Twin T F F' E)(L:Twin T F F (λ_=>False))(cL:iv T F){fr m w}{Y:(Nat->Question->Nat)->Nat->ah}{ng:(Nat->Question->Nat)->Nat->List ah}{nw:(Nat->Question->Nat)->Nat->aa}{ne:(Nat->Question->Nat)->Nat->Array aT}(h:∀τ d,stepG ⟨T,F⟩ true (am fr (m++[ay ⟨T,F⟩])) (re w τ d)=.go (am (Y τ d) (ng τ d++[ay ⟨T,F⟩])) (nw τ d) (ne τ d))(next:∀τ d D ai gs v t q SB sl,nA T ⟨T,F'⟩ Z K cs Od D ai (nw τ d) (Y τ d) (ng τ d) gs v t q SB->Ends ⟨T,F'⟩ Post (crowd gs v sl) t)(ln:∀τ d f n k j N O Q A D ai v gs t q SB sl,E f->(k=.normal\/k=.deferred)->Y τ d=Frame.enter ⟨T,F⟩ f n k->ng τ d=N::O->(∀g,aQ D ai g->j=n.map (al g))->de T Z K cs D ai (nw τ d) v N O Q A->gs[0]?=some (am (Frame.enter ⟨T,F'⟩ f j k) (Q::A))->Leavers ⟨T,F'⟩ t gs q->Past (cn SB) v.heap.size t->(∀b,D b->¬SB (ai b))->(∀c,SB c->c<v.heap.size)->Od.Kept D ai SB v->Ends ⟨T,F'⟩ Post (crowd gs v sl) t):∀M D ai gs v t q SB sl,sumTo gs.size q<=M->nA T ⟨T,F'⟩ Z K cs Od D ai w fr m gs v t q SB->Ends ⟨T,F'⟩ Post (crowd gs v sl) t:=by
 have S:∀(D:Nat->Prop) (ai:Nat->Nat) (gs:Array aw) (v:aa) (t:bm) (q:Nat->Nat) (SB:Nat->Prop) (sl a:Option (Nat×Nat)) (d:Nat),nA T ⟨T,F'⟩ Z K cs Od D ai w fr m gs v t q SB->stepT ⟨T,F'⟩ (crowd gs v sl)=runT ⟨T,F'⟩ (crowd gs (v.at d) a) 0->Ends ⟨T,F'⟩ Post (crowd gs v sl) t:=by
  intro D ai gs v t q SB sl a d e l;obtain⟨rf,rcs,h0,R⟩:=e.rel;have R1:de T Z K cs D ai w (v.at d) fr m rf rcs:=R.lA w.tape w.drawn d;have o:0<gs.size:=(bz.1 h0).1;let ⟨D',p,U,es',rg,x,x',hq,V,hG,_,hh,hc⟩:=uM (main:=true) (v:=v.at d) tw L cL (h v.tape d) R1;have C:=runT_crowd_go (P:=⟨T,F'⟩) (sl:=a) (i:=0) h0 (show stepG ⟨T,F'⟩ (0==0) (am rf rcs) (v.at d)=_ from hq);have H:=oG hG e.apart e.low;have y:v.heap.size<=U.heap.size:=hG.size;have hP:=(e.trace.mono y).own (fn:=(am rf rcs).frame.fn) (pos:=(am rf rcs).frame.place) (oT hh hG H);have B:∀c,SB c->c<U.heap.size:=λc hc=>bL (e.low c hc) y;have r:=Old.Kept.gone (v:=v.at d) e.keep hG;have s:((gs.map (woken ⟨T,F'⟩ (am rf rcs) rg U)).setIfInBounds 0 rg)[0]?=some rg:=by simp[o]
  apply Ends.one (l.trans C);obtain⟨I,u,rfl,R2⟩|⟨f,n,k,j,ab,z,I,u,hE,e1,e2,rfl,J,R2⟩:=hc
  .exact next v.tape d D' p _ U _ q SB a ⟨⟨I,u,s,x',V,R2⟩,k9 e.iZ o,hP,H,B,r⟩
  .exact ln v.tape d f n k j ab z I u D' p U _ _ q SB a hE.1 hE.2 e1 e2 J ⟨x',V,R2⟩ s (k9 e.iZ o) hP H B r
 intro M;induction M with
 |zero=>
  intro D ai gs v t q SB sl hM e;obtain⟨rf,rcs,h0,R⟩:=e.rel;obtain⟨d,a,l⟩|⟨d,a,z,q',W,l,y,s,X,ad,_,_⟩:=mN (P:=⟨T,F'⟩) (v:=v) (sl:=sl) e.iZ h0 rfl
  .exact S D ai gs v t q SB sl a d e l
  .omega
 |succ M ih=>
  intro D ai gs v t q SB sl hM e;obtain⟨rf,rcs,h0,R⟩:=e.rel;obtain⟨d,a,l⟩|⟨d,a,z,q',W,l,y,s,X,ad,_,ae⟩:=mN (P:=⟨T,F'⟩) (v:=v) (sl:=sl) e.iZ h0 rfl
  .exact S D ai gs v t q SB sl a d e l
  .refine Ends.one l (ih D ai z (v.at d) (t++W) q' SB a a9h ⟨⟨rf,rcs,s,?_⟩,X,ae e.trace,e.apart,e.low,e.keep⟩);exact R.lA w.tape w.drawn d
def a2Q(I:Twin T F F' E)(e:Twin T F F (λ_=>False))(cL:iv T F)(p:wB T F F' E Z K cs Od Stop)(C:∀fr m w D ai gs v t q SB sl,Stop fr m w->nA T ⟨T,F'⟩ Z K cs Od D ai w fr m gs v t q SB->Ends ⟨T,F'⟩ Post (crowd gs v sl) t){fr m w}(hF:Fin ⟨T,F⟩ (ay ⟨T,F⟩) Stop fr m w):∀fr2 a g,Reach ⟨T,F⟩ (ay ⟨T,F⟩) Stop fr m w fr2 a g->∀D ai gs v t q SB sl,nA T ⟨T,F'⟩ Z K cs Od D ai g fr2 a gs v t q SB->Ends ⟨T,F'⟩ Post (crowd gs v sl) t:=by
 induction hF with
 |stop n=>
  intro fr2 a g o;cases o with
  |refl=>grind
  |step τ d J=>simp_all
 | @step fr m w V W L X h r H=>
  intro fr2 a g o;cases o with
  |refl=>
   intro D ai gs v t q SB sl s;refine a3W (Post:=Post) I e cL h (λτ d D ai gs v t q SB sl s=>H τ d _ _ _ .refl D ai gs v t q SB sl s) ?_ _ D ai gs v t q SB sl (az _) s;intro τ d f i k b u x y j D ai v gs t q SB sl N O Y e2 c R h0 Q S z l A;have B:=r τ d;have U:=H τ d;simp_all;let ⟨M,gs',v',sl',t',q',SB',D',past',fr2,a,g,hrun,hreach,hS'⟩:=p f i k b u x y j D ai (L τ d) v gs t q SB sl N O B c R h0 Q S z l A
   grind[Ends.many]
  |step τ d J n o=>
   rw[h τ d]at n;simp at n;obtain⟨hg,rfl,rfl⟩:=n
   grind[dG,fS]
end
def aD(P:aA)(main:Bool):Nat->aw->aw
 |0,g=>g
 |n+1,g=>match stepG P main g default with
  | .go a _ _=>aD P main n a
  |_=>g
def fin(g:aw)(v:aj):aw:=am (g.frame.finish v) g.callers
def o8:List Item->Array Oper
 | .inRegion a _::_=>a
 |_=> #[]
def sF:List Item->Nat
 | .inRegion _ (i::_)::_=>i
 |_=>0
def vX:List Item->List Nat
 | .inRegion _ (_::r)::_=>r
 |_=> []
def ct(g:aw):Oper:=((o8 g.frame.todo)[sF g.frame.todo]?).getD {dst:=none,op:=.move (.tmp 0),type:=0,pos:= "",after:=#[],guard:=none}
structure dR (g:aw) (o:Oper):Prop where
 form:g=am g.frame g.callers:=by kernel_rfl
 mode:g.frame.mode=.run:=by kernel_rfl
 round:g.frame.roundOf=none:=by kernel_rfl
 todo:g.frame.todo=.inRegion (o8 g.frame.todo) (sF g.frame.todo::vX g.frame.todo)::g.frame.todo.tail:=by kernel_rfl
 op:(o8 g.frame.todo)[sF g.frame.todo]?=some o:=by kernel_rfl
 wanted:Region.wanted o (yielded (o8 g.frame.todo) g.frame.tmps)=true:=by kernel_rfl
 kind:g.frame.kind=.normal\/g.frame.kind=.deferred:=by exact .inl (by kernel_rfl)
section
variable{P:aA}{main:Bool}{g:aw}{o:Oper}{w w':aa}{v:aj}{es:Array aT}
def dR.eq(h:dR g o):g=G (g.frame.at ⟨g.frame.tmps,g.frame.defers⟩ (.inRegion (o8 g.frame.todo) (sF g.frame.todo::vX g.frame.todo)::g.frame.todo.tail)) g.callers:=by
 conv=>lhs;rw[h.form]
 have:g.frame=g.frame.at ⟨g.frame.tmps,g.frame.defers⟩ (.inRegion (o8 g.frame.todo) (sF g.frame.todo::vX g.frame.todo)::g.frame.todo.tail):=by rw[<-h.todo];have d:=h.mode;have e:=h.round;generalize g.frame=c at*;obtain⟨l,f,i,b,j,k,a⟩:=c;simp at d e;subst d e;rfl
 exact congrArg (λc=>am c g.callers) this
def dR.fin(h:dR g o):fin g v=G (g.frame.at ((⟨g.frame.tmps,g.frame.defers⟩:Act).put o.dst v) (.inRegion (o8 g.frame.todo) (vX g.frame.todo)::g.frame.todo.tail)) g.callers:=by have e:=congrArg Goroutine.frame h.eq;unfold Mir.fin;rw[e];simp[G];rw[Frame.finish_at,h.op];rfl
def dR.step(h:dR g o)(a:(execOp (⟨g.frame.tmps,g.frame.defers⟩:Act).eval o).run P w=.ok (.value v) w'):stepG P main g w=.go (Mir.fin g v) w' (listed P g.frame.fn ⟨g.frame.tmps,g.frame.defers⟩ o w):=by
 rw[h.fin]
 conv=>lhs;rw[h.eq]
 exact stepG_value h.op h.wanted (by obtain k|k:=h.kind<;>rw[k]<;>simp) a
end
structure dE (Shun:Loc->Prop) (B:Nat) (t:bm):Prop where
 clean:∀said,¬Race said t
 known:∀i a,touchAt t i=some a->a.loc.isMemory=true->Knows t 0 i\/(Shun a.loc/\a.kind=.atomic)
 over:t.HandedOver
 seen:∀op∈t,op.act.low B
def dE.of{a B t}(h:Past a B t):dE a B t:=⟨h.clean,h.known,h.over,h.seen⟩
def dE.ai{a B t}(h:dE a B t)(b:Deaf t 0=0):Past a B t:=⟨h.clean,h.known,h.over,b,h.seen⟩
def dE.mono{a B c t}(h:dE a B t)(d:B<=c):dE a c t:=⟨h.clean,h.known,h.over,λe b=>MemAct.low_mono d (h.seen e b)⟩
def EvM(a:Loc->Prop)(B:Nat)(e:aT):Prop:=(∀x,(MemAct.ofEvent e).touch?=some x->a x.loc->x.kind≠.plain)/\(MemAct.ofEvent e).low B
theorem dE.own{d B t}(h:dE d B t){fn pos es}(k:∀e∈es,EvM d B e):dE d B (t++MemOp.ofEvents 0 fn pos es):=by
 have z:∀j∈MemOp.ofEvents 0 fn pos es,j.g=0:=λj c=>by obtain⟨e,_,rfl⟩:=Go.Conc.mem_ofEvents c;rfl
 refine⟨λl=>noRace_append (h.clean l) z λi a n j c b A p=>?_,λi a n C=>?_,handedOver_app h.over λj c=>.inl (z j c),seen_app h.seen λj c=>?_⟩
 .obtain⟨e,q,rfl⟩:=Go.Conc.mem_ofEvents c;obtain D|⟨r,s⟩:=h.known i a n p.2.1
  .exact D
  .have E:=(k e q).1 b A (p.1▸r);obtain⟨_,_,_,f⟩:=p;rw[s]at f;simp_all
 .obtain⟨x,F,u⟩:=touch_of n;obtain⟨_,y⟩|⟨_,H⟩:=getElem?_append_cases F
  .exact(h.known i a (by rw[touchAt_of y];exact u) C).imp (·.app _) id
  grind[knows_own]
 .obtain⟨e,q,rfl⟩:=Go.Conc.mem_ofEvents c;exact(k e q).2
def dE.mute{d B t u g}(h:dE d B t)(p:∀c∈u,c.g=g)(l:∀c∈u,c.act.touch?=none)(q:∀c∈u,c.act.low B):dE d B (t++u):=by
 refine⟨λf=>noRace_append (h.clean f) p λi a _ c e b n _=>(by rw[l c e]at n;cases n),λi a r s=>?_,handedOver_app h.over λc e=>.inr (l c e),seen_app h.seen q⟩;obtain⟨x,y,j⟩:=touch_of r;obtain⟨_,k⟩|⟨_,z⟩:=getElem?_append_cases y
 .exact(h.known i a (by rw[touchAt_of k];exact j) s).imp (·.app u) id
 simp_all
inductive Row (P:aA) (Shun:Loc->Prop):aw->aa->Nat->aw->aa->Nat->Prop
 |nil {g:aw} {v:aa} {d:Nat}:Row P Shun g v d g v d
 |cons {g g1 g2:aw} {v v1 v2:aa} {d d2:Nat} (es:Array aT) (hs:g.status=.running) (hg:∀c,stepG P true g (v.at c)=.go g1 (v1.at c) es) (hz:v.heap.size<=v1.heap.size) (he:∀e∈es,EvM Shun v1.heap.size e) (h:Row P Shun g1 v1 (deafBehind d es) g2 v2 d2):Row P Shun g v d g2 v2 d2
def Row.trans{P a g b c v e f d i d2}(h:Row P a g v d b e i)(k:Row P a b e i c f d2):Row P a g v d c f d2:=by
 induction h with
 |nil=>exact k
 |cons es j l n p _ q=>exact .cons es j l n p (q k)
section
variable{P:aA}{SB:Nat->Prop}
def qP{g g' v v' d d'}(h:Row P (cn SB) g v d g' v' d'):∀gs t q sl c,gs[0]?=some g->Leavers P t gs q->dE (cn SB) v.heap.size t->Deaf t 0=d->∃N a b j s u,runNT P N (crowd gs (v.at c) sl) t=(.next (crowd a (v'.at u) b),j)/\a.size=gs.size/\a[0]?=some g'/\Leavers P j a s/\dE (cn SB) v'.heap.size j/\Deaf j 0=d':=by
 induction h with
 |nil=>intro gs t q sl c h0 x A B;exact⟨0,gs,sl,t,q,c,rfl,rfl,h0,x,A,B⟩
 | @cons g O g2 v T U d d2 es V W X Y _ Z=>
  have main:∀(M:Nat) (gs:Array aw) (t:bm) (q:Nat->Nat) (sl:Option (Nat×Nat)) (c:Nat),sumTo gs.size q<=M->gs[0]?=some g->Leavers P t gs q->dE (cn SB) v.heap.size t->Deaf t 0=d->
    ∃N a b j s u,runNT P N (crowd gs (v.at c) sl) t=(.next (crowd a (U.at u) b),j)/\a.size=gs.size/\a[0]?=some g2/\Leavers P j a s/\dE (cn SB) U.heap.size j/\Deaf j 0=d2:=by
   intro M;induction M with
   |zero=>
    intro gs t q sl c hM h0 x A B;obtain⟨e,b,p⟩|⟨e,b,a,s,y,p,C,D,E,Q,_,_⟩:=mN (P:=P) (v:=v.at c) (sl:=sl) x h0 V
    .have f:0<gs.size:=(bz.1 h0).1;have k:=runT_crowd_go (P:=P) (sl:=b) (i:=0) h0 (show stepG P (0==0) g (v.at e)=_ from W e);let ⟨N,a,r,j,s,u,F,H,I,J,K,L⟩:=Z ((gs.map (woken P g O (T.at e))).setIfInBounds 0 O) (t++MemOp.ofEvents 0 g.frame.fn g.frame.place es) q b e (by simp[f]) (k9 x f) ((A.mono X).own Y) (by rw[Deaf_own,B]);exact⟨N+1,a,r,j,s,u,by simp[runNT,p];rw[show((v.at c).at e)=v.at e from rfl,k];exact F,by rw[H];simp,I,J,K,L⟩
    .omega
   |succ M R=>
    intro gs t q sl c hM h0 x A B;obtain⟨e,b,p⟩|⟨e,b,a,s,y,p,C,D,E,Q,⟨i,hi,n⟩,_⟩:=mN (P:=P) (v:=v.at c) (sl:=sl) x h0 V
    .have f:0<gs.size:=(bz.1 h0).1;have k:=runT_crowd_go (P:=P) (sl:=b) (i:=0) h0 (show stepG P (0==0) g (v.at e)=_ from W e);let ⟨N,a,r,j,s,u,F,H,I,J,K,L⟩:=Z ((gs.map (woken P g O (T.at e))).setIfInBounds 0 O) (t++MemOp.ofEvents 0 g.frame.fn g.frame.place es) q b e (by simp[f]) (k9 x f) ((A.mono X).own Y) (by rw[Deaf_own,B]);exact⟨N+1,a,r,j,s,u,by simp[runNT,p];rw[show((v.at c).at e)=v.at e from rfl,k];exact F,by rw[H];simp,I,J,K,L⟩
    .obtain⟨N,S,r,j,q2,u,F,H,I,J,K,L⟩:=R a (t++y) s b e a9h D E (A.mute (λz l=>(n z l).1) (λz l=>(n z l).2.1) (λz l=>(n z l).2.2 _)) (by rw[Deaf_other t (g':=i) a9h y (λz l=>(n z l).1)];exact B);exact⟨N+1,S,r,j,q2,u,by simp[runNT,p];exact F,H.trans C,I,J,K,L⟩
  exact λgs t q sl c=>main _ gs t q sl c (az _)
end
end Go.Mir
end
section
namespace Go.Mir
open Go.Conc
def pq(P:aA)(main:Bool):Nat->aw->aa->List GStep
 |0,_,_=> []
 |n+1,g,w=>stepG P main g w::pq P main n (aD P main 1 g) w
def o6(P:aA)(main:Bool):Nat->aw->aa->List GStep
 |0,_,_=> []
 |n+1,g,w=>.go (aD P main 1 g) w #[]::o6 P main n (aD P main 1 g) w
def qS(P:aA)(main:Bool):Nat->aw->List GoStatus
 |0,_=> []
 |n+1,g=>g.status::qS P main n (aD P main 1 g)
inductive aR (P:aA) (main:Bool):Nat->aw->aw->Prop
 |nil {g:aw}:aR P main 0 g g
 |cons {n:Nat} {g g1 g2:aw} (hs:g.status=.running) (hg:∀w,stepG P main g w=.go g1 w #[]) (h:aR P main n g1 g2):aR P main (n+1) g g2
theorem zH{P main}:∀{n} {g},(∀w,pq P main n g w=o6 P main n g w)->qS P main n g=List.replicate n .running->aR P main n g (aD P main n g)
 |0,g,_,_=>.nil
 |n+1,g,h,b=>by
  have c:∀w,stepG P main g w=.go (aD P main 1 g) w #[]:=λw=>(b1L (h w)).1;have d:∀w,pq P main n (aD P main 1 g) w=o6 P main n (aD P main 1 g) w:=λw=>(b1L (h w)).2;have a:=b1L (b.trans (List.replicate_succ ..));have e:aD P main (n+1) g=aD P main n (aD P main 1 g):=by
   conv=>lhs;unfold aD
   simp_all
  rw[e];exact .cons a.1 c (zH d a.2)
def sgo{P:aA}{main:Bool}{n:Nat}{g:aw}(h:∀w,pq P main n g w=o6 P main n g w:=by intro w;kernel_rfl)(a:qS P main n g=List.replicate n .running:=by kernel_rfl):aR P main n g (aD P main n g):=zH h a
def eN{P:aA}{main:Bool}{n:Nat}{g g':aw}(h:∀w,pq P main n g w=o6 P main n g w:=by intro w;kernel_rfl)(a:qS P main n g=List.replicate n .running:=by kernel_rfl)(b:aD P main n g=g':=by kernel_rfl):aR P main n g g':=b▸zH h a
section
variable{P:aA}{main:Bool}{g:aw}{w:aa}
def um(h:dR g (ct g)){src dst t x}(b:(ct g).op=.convert src dst x){a v}(e:(⟨g.frame.tmps,g.frame.defers⟩:Act).eval x=.pointer (some a))(f:P.underlying src=some (.pointer t))(j:P.underlying dst=some .unsafePointer)(c:(P.info? t).map (λi=>decide (i.size=0))=some false)(k:w.cell? a=some v):stepG P main g w=.go (fin g (.pointer (some a))) w #[]:=by
 have d:(execOp (⟨g.frame.tmps,g.frame.defers⟩:Act).eval (ct g)).run P w=.ok (.value (.pointer (some a))) w:=by simp_all[execOp,run_convert_to_unsafe]
 rw[h.step d];simp_all[execOp,events_convert_to_unsafe,listed,seen_none]
def Av(h:dR g (ct g)){f fn x y c}(e:(ct g).op=.call {callee:=.value (.func f),args:=#[x,y],argTypes:=c})(i:P.funcs[f]?=some fn)(a:(fn.name== "runtime.NumGoroutine")=false)(j:fn.body.isNone=true)(l:Extern.findNext fn=none)(k)(n:Extern.find fn=some (Extern.Atomic.update (Op.intArith .add) k true)){b v d}(o:(⟨g.frame.tmps,g.frame.defers⟩:Act).eval x=.pointer (some b))(p:(⟨g.frame.tmps,g.frame.defers⟩:Act).eval y=.int k d)(q:w.cell? b=some (.int k v))(r:w.frozen? b=false):stepG P main g w=.go (fin g (.int k (k.wrap (v+d)))) (w.setCell b (.int k (k.wrap (v+d)))) #[⟨.cell b,false,true⟩,⟨.cell b,true,true⟩]:=by
 rw[h.fin]
 conv=>lhs;rw[h.eq]
 exact stepG_add_atomic h.op h.wanted (by obtain k|k:=h.kind<;>rw[k]<;>simp) e i a j l k n o p q r
def Cd(h:dR g (ct g)){f fn x b}(c:(ct g).op=.call {callee:=.value (.func f),args:=#[x],argTypes:=b})(e:P.funcs[f]?=some fn)(a:(fn.name== "runtime.NumGoroutine")=false)(i:fn.body.isNone=true)(j:Extern.findNext fn=none)(k)(l:Extern.find fn=some (Extern.Atomic.loadT (.int k))){d v}(n:(⟨g.frame.tmps,g.frame.defers⟩:Act).eval x=.pointer (some d))(o:w.cell? d=some (.int k v)):stepG P main g w=.go (fin g (.int k v)) w #[⟨.cell d,false,true⟩]:=by
 rw[h.fin]
 conv=>lhs;rw[h.eq]
 exact stepG_load_atomic h.op h.wanted (by obtain k|k:=h.kind<;>rw[k]<;>simp) c e a i j k l n o
def a4j(h:dR g (ct g)){f fn x y c}(d:(ct g).op=.call {callee:=.value (.func f),args:=#[x,y],argTypes:=c})(e:P.funcs[f]?=some fn)(a:(fn.name== "runtime.NumGoroutine")=false)(i:fn.body.isNone=true)(j:Extern.findNext fn=none)(l:Extern.find fn=some Extern.Atomic.storeT){b k v u}(n:(⟨g.frame.tmps,g.frame.defers⟩:Act).eval x=.pointer (some b))(o:(⟨g.frame.tmps,g.frame.defers⟩:Act).eval y=.int k v)(p:w.cell? b=some u)(q:w.frozen? b=false):stepG P main g w=.go (fin g (.tuple #[])) (w.setCell b (.int k v)) #[⟨.cell b,true,true⟩]:=by
 rw[h.fin]
 conv=>lhs;rw[h.eq]
 exact stepG_store_atomic h.op h.wanted (by obtain k|k:=h.kind<;>rw[k]<;>simp) d e a i j l n o p q
def VP(h:dR g (ct g)){f fn x y z c}(d:(ct g).op=.call {callee:=.value (.func f),args:=#[x,y,z],argTypes:=c})(i:P.funcs[f]?=some fn)(a:(fn.name== "runtime.NumGoroutine")=false)(j:fn.body.isNone=true)(l:Extern.findNext fn=none)(k)(o:Extern.find fn=some (Extern.Atomic.casT (.int k))){b v n}(p:(⟨g.frame.tmps,g.frame.defers⟩:Act).eval x=.pointer (some b))(q:(⟨g.frame.tmps,g.frame.defers⟩:Act).eval y=.int k v)(e:(⟨g.frame.tmps,g.frame.defers⟩:Act).eval z=.int k n)(r:w.cell? b=some (.int k v))(s:w.frozen? b=false):stepG P main g w=.go (fin g (.bool true)) (w.setCell b (.int k n)) #[⟨.cell b,false,true⟩,⟨.cell b,true,true⟩]:=by
 rw[h.fin]
 conv=>lhs;rw[h.eq]
 exact stepG_cas_hit h.op h.wanted (by obtain k|k:=h.kind<;>rw[k]<;>simp) d i a j l k o p q e r s
def X0(h:dR g (ct g)){f fn x y z d}(e:(ct g).op=.call {callee:=.value (.func f),args:=#[x,y,z],argTypes:=d})(l:P.funcs[f]?=some fn)(a:(fn.name== "runtime.NumGoroutine")=false)(o:fn.body.isNone=true)(p:Extern.findNext fn=none)(k)(q:Extern.find fn=some (Extern.Atomic.casT (.int k))){c v b n}(r:(⟨g.frame.tmps,g.frame.defers⟩:Act).eval x=.pointer (some c))(s:(⟨g.frame.tmps,g.frame.defers⟩:Act).eval y=.int k b)(i:(⟨g.frame.tmps,g.frame.defers⟩:Act).eval z=.int k n)(t:w.cell? c=some (.int k v))(u:w.frozen? c=false)(j: ¬v=b):stepG P main g w=.go (fin g (.bool false)) w #[⟨.cell c,false,true⟩]:=by
 rw[h.fin]
 conv=>lhs;rw[h.eq]
 exact stepG_cas_miss h.op h.wanted (by obtain k|k:=h.kind<;>rw[k]<;>simp) e l a o p k q r s i t u j
end
def sq(u:Nat->aj):Nat->Nat->List aj->List aj
 |_,0,L=>L
 |i,n+1,L=>u i::sq u (i+1) n L
def ru(f:Nat->Nat)(u:Nat->aj)(j:Nat):aj:=al f (u j)
theorem zR(f u L):∀n i,(sq u i n L).map (al f)=sq (ru f u) i n (L.map (al f))
 |0,_=>rfl
 |n+1,i=>congrArg (_::·) (zR f u L n (i+1))
theorem Le{u v}:∀n i L,(∀j,i<=j->u j=v j)->sq u i n L=sq v i n L
 |0,_,_,_=>rfl
 |n+1,i,L,h=>by simp only[sq];rw[h i (az _),Le n (i+1) L λj a=>h j a9h]
theorem DK:∀n i l,n<=l.length->∃u L,l=sq u i n L
 |0,_,l,_=>⟨λ_=>undef,l,rfl⟩
 |n+1,i,x::l,h=>by obtain⟨u,L,rfl⟩:=DK n (i+1) l (by simp_all);refine⟨λj=>if j=i then x else u j,L,?_⟩;simp only[sq,if_pos];rw[Le n (i+1) L λj a=>(if_neg a9h:(if j=i then x else u j)=u j)]
def Lf(n){l}(h:n+1<=l.length):∃x u L,l=x::sq u 1 n L:=by
 cases l with
 |nil=>grind
 |cons x l=>
  obtain⟨u,L,rfl⟩:=DK n 1 l (by simp_all)
  grind
section
variable{P:aA}{main:Bool}{g:aw}{w:aa}{f:bW}{fn:Func}{as:Array Operand}{q:Array bD}{m:aF}
def a3v(h:dR g (ct g))(b:(ct g).op=.call {callee:=.value (.func f),args:=as,argTypes:=q})(c:P.funcs[f]?=some fn)(a:(fn.name== "runtime.NumGoroutine")=false)(d:fn.body.isNone=true)(e:Extern.findNext fn=none)(i:Extern.find fn=some Extern.Sync.semrelease)(j:(as.map (⟨g.frame.tmps,g.frame.defers⟩:Act).eval)[0]?=some (.pointer (some m))){n}(l:w.cell? m=some (.int .u32 n))(o:w.frozen? m=false):stepG P main g w=.go (fin g (.tuple #[])) (w.setCell m (.int .u32 (IntKind.u32.wrap (n+1)))) (semEvents m):=by
 rw[h.fin]
 conv=>lhs;rw[h.eq]
 exact stepG_semrelease h.op h.wanted (by obtain k|k:=h.kind<;>rw[k]<;>simp) b c a d e i j l o
def a3u(h:dR g (ct g))(b:(ct g).op=.call {callee:=.value (.func f),args:=as,argTypes:=q})(d:P.funcs[f]?=some fn)(a:(fn.name== "runtime.NumGoroutine")=false)(e:fn.body.isNone=true)(i:Extern.findNext fn=none)(j:Extern.find fn=some Extern.Sync.semacquire)(l:(as.map (⟨g.frame.tmps,g.frame.defers⟩:Act).eval)[0]?=some (.pointer (some m))){n}(o:w.cell? m=some (.int .u32 n))(c:n≠0)(p:w.frozen? m=false):stepG P main g w=.go (fin g (.tuple #[])) (w.setCell m (.int .u32 (n - 1))) (semEvents m):=by
 rw[h.fin]
 conv=>lhs;rw[h.eq]
 exact stepG_semacquire h.op h.wanted (by obtain k|k:=h.kind<;>rw[k]<;>simp) b d a e i j l o c p
def a3w(h:dR g (ct g))(b:(ct g).op=.call {callee:=.value (.func f),args:=as,argTypes:=q})(c:P.funcs[f]?=some fn)(a:(fn.name== "runtime.NumGoroutine")=false)(d:fn.body.isNone=true)(i:Extern.findNext fn=none)(j:Extern.find fn=some Extern.Sync.semacquire)(k:(as.map (⟨g.frame.tmps,g.frame.defers⟩:Act).eval)[0]?=some (.pointer (some m)))(l:w.cell? m=some (.int .u32 0)):stepG P main g w=.go {g with status:=.blocked} w #[]:=by
 have e:({g with status:=.blocked}:aw)={G (g.frame.at ⟨g.frame.tmps,g.frame.defers⟩ (.inRegion (o8 g.frame.todo) (sF g.frame.todo::vX g.frame.todo)::g.frame.todo.tail)) g.callers with status:=.blocked}:=by
  conv=>lhs;rw[h.eq]
 rw[e]
 conv=>lhs;rw[h.eq]
 exact stepG_semacquire_wait h.op h.wanted b c a d i j k l
def jv{s v w' es}(h:stepG P main g w=stepG.apply P true g.frame g.callers none s w)(a:s.runT P w #[]=(.ok (.value v) w',es))(b:(g.frame.kind==.early)=false):stepG P main g w=.go (fin g v) w' (seen P g.frame.fn es):=by rw[h];unfold stepG.apply;simp_all[GStep.after,fin,am]
def Ay{s w' es}(h:stepG P main g w=stepG.apply P true g.frame g.callers none s w)(a:s.runT P w #[]=(.ok .skip w',es))(b:(g.frame.kind==.early)=false):stepG P main g w=.go (fin g undef) w' (seen P g.frame.fn es):=by rw[h];unfold stepG.apply;simp_all[GStep.after,fin,am]
def qm{a v}{K:aj->Sem Next}{es}(b:w.cell? a=some v):(Sem.load .plain a K).runT P w es=(K v).runT P w (es.push ⟨.cell a,false,false⟩):=by
 grind[Sem.runT]
def DL{a v u}{K:Sem Next}{es}(i:∀c,u≠.agg c)(j:∀c,u≠.tuple c)(d:w.cell? a=some v)(k:w.frozen? a=false):(Sem.store .plain a u K).runT P w es=K.runT P (w.setCell a u) (es.push ⟨.cell a,true,false⟩):=by
 have e:(Sem.store .plain a u K).runT P w es=match w.cell? a with
   |some _=>if w.frozen? a then (.halt (.unsupported (.unsafePointer "a write to bytes that a string shares")) w,es)else K.runT P (w.setCell a u) (es.push ⟨.cell a,true,Mode.plain==.atomic⟩)
   |none=>match w.farStore P a u (Mode.plain==.atomic)with
    | .ok (w,b)=>K.runT P w (es++b.toArray.map (⟨.cell ·,true,Mode.plain==.atomic⟩))
    | .error h=>(.halt h w,es):=by
  cases u<;>first|rfl|simp_all|simp_all
 rw[e,d]
 grind
end
end Go.Mir
end
section
namespace Go.Mir
def rI{f}(h:aQ (λ_=>True) id f):f=id:=funext λb=>h.on b trivial
def rJ:aQ (λ_=>True) id id:=⟨λ_ _=>rfl,λ_ _ h=>h⟩
def a1y(e):bK id e=e:=by
 obtain⟨a,wr,b⟩:=e;cases a with
 |mark m=>cases m<;>rfl
 |_=>rfl
def a3d{G w}(h:cA G w):cw True vJ G (λ_=>True) id w w:=by
 refine⟨λ_ _=>.inl trivial,λ_ _=>.inl trivial,λ_ _ _ _ h=>h,λf a b _=>.inl ⟨?_,λ_ h=>h.elim⟩,λb o _ c=>h b o c,λ_=>⟨λb=>⟨trivial,rfl⟩,rfl⟩⟩;rw[rI a]
 grind[qG]
section
variable{T:Tables}{F:Array Func}{fr law:ah}{gs below:List ah}{w w':aa}{g':aw}{es:Array aT}
def Pe(g:Twin T F F (λ_=>False))(p:∀u,law.mode=.panicking u->∀e∈u,e.recovered=false)(z:bJ T.globals.size fr)(q:∀x∈gs,bJ T.globals.size x)(k:cA T.globals.size w)(h:stepG ⟨T,F⟩ true (am fr (gs++law::below)) w=.go g' w' es)(cs main):(∃a gs1,g'=am a (gs1++law::below)/\bJ T.globals.size a/\(∀x∈gs1,bJ T.globals.size x)/\cA T.globals.size w'/\stepG ⟨T,F⟩ main (am fr (gs++cs)) w=.go (am a (gs1++cs)) w' es)\/(gs=[]/\∃t,g'=am t below/\ny law t):=by
 have l:aO id=id:=funext pi;have R:e9 True vJ T cs (λ_=>True) id w w fr gs fr (gs++cs):=⟨a3d k,rfl,λ_ _=>⟨trivial,rfl⟩,k,z,q,λf A=>by rw[rI A,l];simp⟩;obtain⟨B,d,r,s,rg,v,c,C⟩|L:=wa (main:=main) p g R h (λi _=>rfl)
 .have D:B=λ_=>True:=funext λb=>propext ⟨λ_=>trivial,λ_=>(c.more b trivial).1⟩;have E:d=id:=funext λb=>(c.more b trivial).2;subst D E;obtain⟨a,gs1,H,y,I,rfl,n⟩|⟨_,_,_,_,_,_,_,_,M,_⟩:=C
  .let ⟨j,hj1,hj2⟩:=c.drawn;have J:r=w':=by
    have N:r.heap=w'.heap:=mq λb=>by
     have:=((n.heap.jG id rJ b trivial).resolve_right λ⟨_,_,_,_,h⟩=>h).1
     grind[qG]
    have O:=c.tape;have P:=c.pB;have Q:=c.os;have S:=c.oh;have U:=c.output;have V:=c.rp;obtain⟨W,X,Y,Z,vu⟩:=r;obtain⟨wh,wt,wd,wo,wu⟩:=w';simp_all
   subst J;have K:s=es:=by rw[c.ev id rJ];have:bK id=id:=funext a1y;simp[this]
   subst K;have o:=n.aX id rJ;rw[l]at o;simp at o;rw[o.1,o.2]at v;exact .inl ⟨a,gs1,I,n.ok,n.bQ,n.all,v⟩
  simp_all
 simp_all
end
end Go.Mir
end
section
namespace Go.Mir
open Go.Conc
section
variable{G:Nat}{w:aa}
def jn(G:Nat)(w:aa):aa:={w with heap:=w.heap.map λo=> @ite _ (ee G o) (Classical.propDecidable _) o dead}
theorem Ht{o}(h: ¬ee G o):nN o:=by cases o<;>first|exact absurd trivial h|trivial
def vg(b:Nat):(jn G w).heap[b]?=(w.heap[b]?).map λo=> @ite _ (ee G o) (Classical.propDecidable _) o dead:=by simp[jn]
def Hs:cA G (jn G w):=by
 intro b o a;rw[vg]at a;obtain⟨c,_,rfl⟩:=gn.1 a;split
 .omega
 .trivial
def sI(G:Nat)(W:aa)(b:Nat)(o:Obj):Prop:=W.heap[b]?=some o/\¬ee G o
def Xb:cw True (sI G w) G (λ_=>True) id (jn G w) w:=by
 refine⟨λ_ _=>.inl trivial,λ_ _=>.inl trivial,λ_ _ _ _ h=>h,λf a b _=>?_,λb o _ c=>Hs b o c,λ_=>⟨λb=>⟨trivial,rfl⟩,by simp[jn]⟩⟩;rw[rI a,vg]
 grind[qG,sI,Ht]
def Xc{u v}(h:cw True (sI G w) G (λ_=>True) id u v)(i:∀b,b<w.heap.size->u.heap[b]?=(jn G w).heap[b]?):∀b,b<w.heap.size->v.heap[b]?=w.heap[b]? :=by
 intro b e;have a:=i b e;rw[vg]at a;have c:w.heap[b]?=some w.heap[b]:=eY e;generalize w.heap[b]=o at c;rw[c]at a⊢;obtain⟨f,g⟩|⟨f,j,g,_,k,l⟩:=h.jG id rJ b trivial
 .by_cases d:ee G o
  .rw[show v.heap[b]?=_ from f,a];simp[d,qG]
  .exact absurd (by rw[a];simp[d]) (g o ⟨c,d⟩)
 simp_all
end
def Tg{B e}(b:∀m,e.loc=.mark m->qC m=true)(d:nW B e):EvL (cn λ_=>False) B e:=by
 refine⟨λx _ f=>?_,λh=>(by cases b _ h),λh=>(by cases b _ h),?_⟩
 .revert f;cases x.loc<;>exact λh=>h.elim
 .obtain⟨c,wr,g⟩:=e;cases c with
  |cell a=>exact d
  |obj r=>cases wr<;>cases g<;>exact d
  |mark m=>have:=b m rfl;cases m<;>first|trivial|cases this
  |_=>trivial
section
variable{T:Tables}{F F':Array Func}{E:bW->Prop}{cs:List ah}{lz:Nat->Obj->Prop}
def Xd{w fr gs}(b:bJ T.globals.size fr)(a:∀x∈gs,bJ T.globals.size x):e9 True (sI T.globals.size w) T cs (λ_=>True) id (jn T.globals.size w) w fr gs fr (gs++cs):=by refine⟨Xb,rfl,λ_ _=>⟨trivial,rfl⟩,Hs,b,a,λf c=>?_⟩;rw[rI c,pi];have:aO id=id:=funext pi;simp_all
def a4c{P g fr a v b es}(h:stepG P true (am fr a) v=.go g b es):stepT P (crowd #[am fr a] v none)=(.next (crowd #[g] b none),MemOp.ofEvents 0 fr.fn fr.place es):=by
 have c:move P (crowd #[am fr a] v none)=.goroutine (crowd #[am fr a] v none) 0:=move_lone;unfold stepT;rw[c];have:=runT_crowd_go (P:=P) (gs:=#[am fr a]) (sl:=none) (w:=v) (i:=0) (g:=am fr a) rfl h
 grind[am]
def Xe(tw:Twin T F F' E)(H:Twin T F F (λ_=>False))(S:T.inits.idxOf? F.size=none)(I:∀q,E q->∃fn s,F[q]?=some fn/\fn.body=some (.refuse s)){fr' u'}:∀n fr gs u v f d t,e9 True lz T cs (λ_=>True) id u v fr gs f d->v.tape=u.tape->v.drawn=u.drawn->Past (cn λ_=>False) v.heap.size t->Leavers ⟨T,F'⟩ t #[am f d] (λ_=>0)->runN ⟨T,F⟩ n (lone fr (gs++[ay ⟨T,F⟩]) u)=.next (lone fr' [ay ⟨T,F⟩] u')->∃y p J,runNT ⟨T,F'⟩ n (crowd #[am f d] v none) t=(.next (crowd #[am p cs] y none),J)/\e9 True lz T cs (λ_=>True) id u' y fr' [] p cs/\y.tape=u'.tape/\y.drawn=u'.drawn/\Past (cn λ_=>False) y.heap.size J/\Leavers ⟨T,F'⟩ J #[am p cs] (λ_=>0)/\oo y=oo v:=by
 intro n;induction n with
 |zero=>
  intro fr gs u v f d t R U hd V W h;simp[runN]at h;obtain⟨rfl,X,rfl⟩:=nV h;have X:=fS (b:=[]) X;subst X;have hr:d=cs:=by simpa using (R.aX _ (aL R.heap 0)).2
  subst hr;exact⟨v,f,t,rfl,R,U,hd,V,W,rfl⟩
 |succ n ih=>
  intro fr gs u v f d t R U hd V W h;simp[runN]at h;obtain⟨ar,au,u1,es,K⟩|⟨o,u1,es,a⟩:=Li (cs:=gs++[ay ⟨T,F⟩]) H R.ok R.all a9i;rotate_left
  .rw[qp a]at h;cases h
  rw[vp K]at h;dsimp at h;obtain⟨D',z,D,L,rg,hq,r,hc⟩|⟨rfl,tf,hp,M⟩:=wa (main:=true) (below:=[]) (xb (trap:=ay ⟨T,F⟩) rfl) tw R K (λi _=>by simp_all)
  .have eD:D'=λ_=>True:=funext λb=>propext ⟨λ_=>trivial,λ_=>(r.more b trivial).1⟩;have eP:z=id:=funext λb=>(r.more b trivial).2;subst eD eP;let ⟨j,hj1,hj2⟩:=r.drawn;have Y:D.tape=u1.tape:=by rw[r.tape,r.pB,U]
   have Z:D.drawn=u1.drawn:=by simp_all
   have ab:aQ (λ_=>True) id id:=⟨λ_ _=>rfl,λ_ _ h=>h⟩;have ad:Past (cn λ_=>False) D.heap.size (t++MemOp.ofEvents 0 f.fn f.place L):=(V.mono r.size).own λe he=>by refine Tg (λm hm=>?_) (r.lw e he);have N:=he;rw[r.ev id ab]at N;obtain⟨e0,h0,rfl⟩:=mr.1 N;obtain⟨ae,wr,sy⟩:=e0;cases ae<;>simp[bK,cH]at hm;subst hm;have:=r.qu _ h0 _ rfl;rename_i m0;cases m0<;>first|exact this|cases this
   have ao:=a4c hq;obtain⟨O,A,l,c,e1,rfl,R2⟩|⟨q,x,k,ap,O,A,l,c,hE,e1,rfl,_,R2⟩:=hc
   .obtain⟨rfl,rfl⟩:=dG e1;have Q:=k9 (g:=am f d) (g':=am l c) (w':=D) (fn:=f.fn) (pos:=f.place) (es:=L) W a9i;have e:((#[am f d]:Array aw).map (woken ⟨T,F'⟩ (am f d) (am l c) D)).setIfInBounds 0 (am l c)=#[am l c]:=a9i
    rw[e]at Q;let ⟨y,p,J,h1,h2,h3,h4,h5,h6,h7⟩:=ih _ A u1 D l c _ R2 Y Z ad Q h;exact⟨y,p,J,by simp[runNT,ao];exact h1,h2,h3,h4,h5,h6,h7.trans (jY r.os r.output)⟩
   .exfalso;obtain⟨rfl,rfl⟩:=dG e1;cases n with
    |zero=>simp only[runN,Stepped.next.injEq]at h;have:=congrArg List.length (nV h).2.1;simp at this
    |succ n=>
     obtain⟨fn,s,aq,hb⟩:=I q hE.1;have B:(Frame.enter ⟨T,F⟩ q x k).mode=.run:=rfl;have C:(Frame.enter ⟨T,F⟩ q x k).todo=[.code (.refuse s)]:=by simp[Frame.enter,aq,hb]
     have a:∃o w2 es2,stepG ⟨T,F⟩ true (am (Frame.enter ⟨T,F⟩ q x k) (O::A++[ay ⟨T,F⟩])) u1=.ended o w2 es2:=by rw[ij B];unfold stepG.exec;rw[C];exact⟨_,_,_,rfl⟩
     obtain⟨o,w2,es2,a⟩:=a;simp only[runN,qp a]at h;cases h
  .exfalso;obtain⟨rfl,rfl⟩:=dG hp;cases n with
   |zero=>simp[runN]at h;have:=congrArg List.length (nV h).2.1;simp at this
   |succ n=>obtain⟨o,w2,es2,a⟩:=C5 (P:=⟨T,F⟩) (w:=u1) S M;simp only[runN,qp a]at h;cases h
end
end Go.Mir
end
section
namespace Go.Mir
def Tm{G:Nat}{ρ ρ':Operand->aj}{o:Oper}(j:ie G o.op=true)(h:∀x∈o.op.operands,ρ x=ρ' x):execOp ρ o=execOp ρ' o:=by
 obtain⟨k,r,I,u,g,guard⟩:=o;dsimp at h j;cases r
 case move x=>grind[execOp,Op.operands]
 case assign x=>grind[execOp,Op.operands]
 case pick c a b=>grind[execOp,Op.operands]
 case alloc=>rfl
 case box t x=>grind[execOp,Op.operands]
 case build t d=>simp only[execOp];rw[show(d.map λx=>(x.1,ρ x.2))=d.map λx=>(x.1,ρ' x.2)from pE λq A=>by rw[h q.2 (by grind[Op.operands])]]
 case buildSlice t n d=>simp only[execOp];rw[show(d.map λx=>(x.1,ρ x.2))=d.map λx=>(x.1,ρ' x.2)from pE λq A=>by rw[h q.2 (by grind[Op.operands])]]
 case load t x=>grind[execOp,Op.operands]
 case store t a x=>grind[execOp,Op.operands]
 case nilCheck x=>grind[execOp,Op.operands]
 case binOp p t a x n=>grind[execOp,Op.operands]
 case unOp p t x=>grind[execOp,Op.operands]
 case convert s t x=>grind[execOp,Op.operands]
 case makeInterface t x=>grind[execOp,Op.operands]
 case makeFunc J a b=>
  grind[execOp,Array.map_congr_left,Op.operands]
 case makeSlice t a x=>grind[execOp,Op.operands]
 case slice t x l m n=>
  have e:∀y:Option Operand,(∀z,y=some z->ρ z=ρ' z)->y.map ρ=y.map ρ':=λy B=>by cases y<;>simp[B]
  grind[execOp,Op.operands]
 case fieldAddr s x f=>grind[execOp,Op.operands]
 case field s x f=>grind[execOp,Op.operands]
 case indexAddr t a x=>grind[execOp,Op.operands]
 case index t a x=>grind[execOp,Op.operands]
 case typeAssert x a b c=>grind[execOp,Op.operands]
 case extract x i=>grind[execOp,Op.operands]
 case panic x=>grind[execOp,Op.operands]
 case call c=>
  have C:c.args.map ρ=c.args.map ρ':=pE λx H=>h x (by grind[Op.operands,Call.operands])
  grind[execOp,resolve,Op.operands,Call.operands]
 case defer c=>
  have C:c.args.map ρ=c.args.map ρ':=pE λx H=>h x (by grind[Op.operands,Call.operands])
  grind[execOp,resolve,Op.operands,Call.operands]
 all_goals simp[ie]at j
def t9:Result Next->Prop
 | .ok (.value _) _| .ok .skip _| .ok (.enter ..) _| .ok (.round ..) _| .ok (.defer _) _| .halt (.panic _) _=>True
 |_=>False
section
variable{lk:Prop}{lz:Nat->Obj->Prop}{T:Tables}{F F':Array Func}{E:bW->Prop}{cs:List ah}{trap:ah}{below:List ah}{D:Nat->Prop}{ai:Nat->Nat}{w v:aa}{fr:ah}{gs:List ah}{rf:ah}{au:List ah}
def OB(p:Twin T F F' E)(R:e9 lk lz T cs D ai w v fr gs rf au){s s':Sem Next}(z:∀f,aQ D ai f->aB ⟨T,F⟩ ⟨T,F'⟩ f (RN F T.globals.size f) s s'){g':aw}{w':aa}{es:Array aT}(g:stepG.apply ⟨T,F⟩ true fr (gs++trap::below) none s w=.go g' w' es)(A:gG w v w'.drawn):t9 (s'.runT ⟨T,F'⟩ v #[]).1:=by
 have j:(fr.kind==CallKind.early)=false:=by obtain h|h:=R.ok.kind<;>rw[h]<;>rfl
 rcases k:s.runT ⟨T,F⟩ w #[]with⟨r,B⟩;have M:=p.early;obtain⟨a,l,rfl,H,c,b,I,n,d,t,J,y,K⟩|⟨x,l,rfl,H,c,N,I,n,d,t,J,y,K⟩|⟨h,l,rfl,e⟩:=od R.heap R.os R.all z k (λC=>by rw[AA k C g];exact A)
 .have i:=y _ (aL t 0);rw[d];cases a<;>simp only[RN]at i
  .rw[i];trivial
  .rw[i];trivial
  .rw[i.1];trivial
  .rw[i.1];trivial
  .rw[i.1];trivial
 .rw[d];trivial
 .exfalso;unfold stepG.apply at g;simp only[k,if_true,j,d8,if_false,GStep.after]at g;cases h<;>simp[fi]at e<;>simp at g;rename_i u;cases u<;>first|(simp at g;done)|(obtain⟨o,O,L,q⟩:=p.early.early fr (gs++trap::below) none (by assumption) l;simp[q]at g)
end
def gZ:List bW:=[15,24,25,26,27]
def iI:Nat:=1
def dB:List Nat:=[32,41,46,43,48]
def my(P:aA):Prop:=∀f,gZ.contains f=true->∃c,P.funcs[f]?=some c/\c.body.isNone=false/\(c.name== "runtime.NumGoroutine")=false
def tz(S:List Nat):Operand->Bool
 | .tmp i=> !S.contains i
 |_=>true
def yX:Op->Bool
 | .call ⟨.builtin .len,_,_⟩=>true
 | .call ⟨.value (.func f),_,_⟩=>gZ.contains f
 | .call _| .defer _=>false
 |_=>true
def Wm:Operand->Bool
 | .tmp j=>dB.contains j
 |_=>false
def kg(S:List Nat)(o:Oper):Bool:=o.guard.isNone&&(match o.op with
 | .move (.tmp i)=>i==iI&&o.dst.any λd=>dB.contains d
 | .call ⟨.builtin .len,as,c⟩=>as.toList.all Wm&&as.size==1&&c.toList==[22]&&o.dst.any λd=> !S.contains d
 | .indexAddr t (.tmp i) x=>t==22&&dB.contains i&&tz S x&&o.dst.any λd=>dB.contains d
 | .load t (.tmp i)=>t==3&&dB.contains i&&o.dst.any λd=> !S.contains d
 |_=>false)
def v8(S:List Nat)(o:Oper):Bool:=o.op.operands.all (tz S)&&(o.dst.all λd=> !S.contains d)&&yX o.op
def qZ(S:List Nat)(o:Oper):Bool:=v8 S o||kg S o
def mU(S:List Nat):Code->Bool
 | .region _ d _=>d.all (qZ S)
 | .seq a b=>mU S a&&mU S b
 | .cond c a b=>tz S c&&mU S a&&mU S b
 | .block _ a| .loop a| .scope a=>mU S a
 | .rangeFunc .. | .goto _=>false
 |_=>true
def gh(S:List Nat):Item->Bool
 | .code c| .inLoop c| .inScope c=>mU S c
 | .inBlock _=>true
 | .inRegion d _=>d.all (qZ S)
 |_=>false
def iC{P:aA}{α β:Type}{s:Sem α}{k:α->Sem β}{v m:aa}{n:β}(h:(s>>=k).run P v=.ok n m):∃a w',s.run P v=.ok a w'/\(k a).run P w'=.ok n m:=by
 have h:=(Sem.run_bind P v s k).symm.trans h;cases c:s.run P v with
 |ok a w'=>rw[c]at h;exact⟨a,w',rfl,h⟩
 |halt q w'=>rw[c]at h;cases h
def Zs{P:aA}{ρ:Operand->aj}{o:Oper}{x:Operand}(d:o.op=.nilCheck x){v:aa}{n:Next}{m:aa}(c:(execOp ρ o).run P v=.ok n m):∃y,n=.value y:=by
 unfold execOp at c;rw[d]at c;dsimp at c;have e:∀{q:Next} {z:aa},(runtimePanic (α:=Next) .nilDeref).run P v≠.ok q z:=fun {q z} h=>by simp[runtimePanic,program,Sem.run]at h
 split at c
 .simp_all
 .simp_all
 .simp_all
 .split at c
  .simp_all
  .let ⟨p,w1,_,h⟩:=iC c;let ⟨b,w2,_,h⟩:=iC h;split at h
   .simp_all
   .cases h;simp_all
  .cases c;simp_all
 .cases c;simp_all
def a0G{P:aA}(k:my P){G:Nat}{ρ:Operand->aj}(z:∀f,ρ (.func f)=.func (.func f) #[] #[]){o:Oper}(t:ie G o.op=true)(h:yX o.op=true){v:aa}{n:Next}{w:aa}(g:((execOp ρ o).runT P v #[]).1=.ok n w):(∀f args,n=.enter f args->gZ.contains f=true)/\(∀d,n≠.defer d)/\∀l f tm as bd,n≠.round l f tm as bd:=by
 simp at g;have u:∀s:Sem aj,(do pure (.value (<-s)):Sem Next).run P v=.ok n w->(∀f args,n=.enter f args->gZ.contains f=true)/\(∀d,n≠.defer d)/\∀l f tm as bd,n≠.round l f tm as bd:=λs h=>by
  have h:=(Sem.run_bind P v s _).symm.trans h;cases i:s.run P v with
  |ok x j=>rw[i]at h;cases h;simp_all
  |halt q j=>rw[i]at h;cases h
 have A:∀s:Sem Unit,(do s;pure .skip:Sem Next).run P v=.ok n w->(∀f args,n=.enter f args->gZ.contains f=true)/\(∀d,n≠.defer d)/\∀l f tm as bd,n≠.round l f tm as bd:=λs h=>by
  have h:=(Sem.run_bind P v s _).symm.trans h;cases i:s.run P v with
  |ok x j=>rw[i]at h;cases h;simp_all
  |halt q j=>rw[i]at h;cases h
 obtain⟨dst,op,B,pos,after,guard⟩:=o;dsimp at h t;cases op
 case call c=>
  obtain⟨C,ar,H⟩:=c;cases C with
  |builtin b=>cases b<;>first|(cases h;done)|exact u _ g
  |invoke a b=>cases h
  |value x=>
   cases x<;>first|(cases h;done)|skip
   rename_i f;have I:gZ.contains f=true:=by grind[yX]
   have e:execOp ρ {dst,op:=.call ⟨.value (.func f),ar,H⟩,type:=B,pos,after,guard}=callFunc f ((#[]++ar.map ρ)++#[]):=by simp only[execOp,resolve,z];rfl
   rw[e]at g;let ⟨fn,h1,p,J⟩:=k f I;have K:(callFunc f ((#[]++ar.map ρ)++#[])).run P v=.ok (.enter f ((#[]++ar.map ρ)++#[])) v:=by
    unfold callFunc;apply(Sem.run_bind P v _ _).trans;have J: ¬fn.name= "runtime.NumGoroutine" :=by simp_all
    have p: ¬fn.body=none:=λq=>by rw[q]at p;cases p
    simp_all
   rw[K]at g
   grind
 case nilCheck x=>
  have r:∀s:Sem Next,(∀m,s.run P v=.ok n m->∃y,n=.value y)->s.run P v=.ok n w->(∀f args,n=.enter f args->gZ.contains f=true)/\(∀d,n≠.defer d)/\∀l f tm as bd,n≠.round l f tm as bd:=λs i h=>by
   grind
  refine r _ (λm L=>?_) g;exact Zs rfl L
 case move x=>cases g;simp_all
 case assign x=>cases g;simp_all
 case pick c a b=>
  have h:=(Sem.run_bind P v (asBool (ρ c)) _).symm.trans g;cases i:(asBool (ρ c)).run P v with
  |ok x j=>rw[i]at h;cases h;simp_all
  |halt q j=>rw[i]at h;cases h
 all_goals first|exact u _ g|exact A _ g|(simp[ie]at t;done)|grind[yX]
structure DF (S:List Nat) (a b:ah):Prop where
 rest:b={a with tmps:=b.tmps}
 size:b.tmps.size=a.tmps.size
 same:∀i,S.contains i=false->b.tmps[i]?=a.tmps[i]?
 items:∀i∈a.todo,gh S i=true
 round:a.roundOf=none
 own:a.defers=[]/\a.kind=.normal
 sub:∀i,dB.contains i=true->S.contains i=true
 nb:∀i,dB.contains i=true->∀t,a.tmps[i]? ≠some (.bool t)/\b.tmps[i]? ≠some (.bool t)
def Nx(S:List Nat)(a:ah):Prop:=∀c i e k d,a.todo=.inRegion c (i::e)::k->(c[i]?).bind (·.dst)=some d->S.contains d=false
def Kp(S:List Nat)(a b:ah):Prop:=∀i,S.contains i=true->b.tmps[i]?=a.tmps[i]?
theorem Kp.finish{S:List Nat}{a:ah}(f:∀i∈a.todo,gh S i=true)(h:Nx S a)(x:aj):Kp S a (a.finish x):=by
 intro i n;unfold Frame.finish;split
 .rename_i c j e k g;cases l:(c[j]?).bind (·.dst)with
  |none=>rfl
  |some d=>
   have:=h c j e k d g l
   grind
 all_goals first|rfl|(rename_i g;have:=f _ (by rw[g];exact jg);cases this)
section
variable{S:List Nat}{a b:ah}
def DF.eval(D:DF S a b){x:Operand}(h:tz S x=true):b.eval x=a.eval x:=by
 cases x with
 |tmp i=>have:=D.same i (by grind[tz]);simp_all[Frame.eval]
 |_=>rfl
def DF.todo(D:DF S a b){l:List Item}(h:∀i∈l,gh S i=true):DF S {a with todo:=l} {b with todo:=l}:=
 ⟨by rw[D.rest],D.size,D.same,h,D.round,D.own,D.sub,D.nb⟩
theorem DF.finish(D:DF S a b){ops:Array Oper}{i:Nat}{c:List Nat}{k:List Item}(g:a.todo=.inRegion ops (i::c)::k)(x:aj)(l:Nx S a):DF S (a.finish x) (b.finish x):=by
 have n:b.todo=.inRegion ops (i::c)::k:=by rw[D.rest];exact g
 have o:=D.items (.inRegion ops (i::c)) (by rw[g];grind);have h:∀j∈Item.inRegion ops c::k,gh S j=true:=λj f=>by
  obtain rfl|f:=dj.1 f
  .exact o
  .exact D.items j (by rw[g];simp_all)
 simp[Frame.finish,g,n];cases p:(ops[i]?).bind (·.dst)with
 |none=>exact⟨by rw[D.rest],D.size,D.same,h,D.round,D.own,D.sub,D.nb⟩
 |some d=>
  refine⟨by rw[D.rest],by simp[D.size],λj f=>?_,h,D.round,D.own,D.sub,λj f t=>?_⟩
  .simp[js,D.size,D.same j f]
  .have r:=D.nb j f t;have q: ¬d=j:=λe=>by have:=l ops i c k d g p;rw[e,D.sub j f]at this;cases this
   simp_all
def DF.fin(D:DF S a b)(x:aj)(l:Nx S a):DF S (a.finish x) (b.finish x):=by
 have h:b.todo=a.todo:=by rw[D.rest]
 rcases g:a.todo with _|⟨i,k⟩
 .grind[Frame.finish]
 .have n:gh S i=true:=D.items i (by rw[g];grind);by_cases o:∃e j d,i=.inRegion e (j::d)
  .obtain⟨e,j,d,rfl⟩:=o;exact D.finish g x l
  .have f:∀c:ah,c.todo=i::k->c.finish x=c:=λc p=>by
    unfold Frame.finish;rw[p];cases i<;>first|rfl|(cases n;done)|skip
    simp_all
   rw[f a g,f b (h.trans g)];exact D
def uc(P:aA)(S:List Nat)(cs:List ah)(a b f1:ah)(c1:List ah)(d:ah)(c2:List ah):Prop:=
 (c1=cs/\c2=cs/\DF S f1 d/\Kp S a f1/\Kp S b d)\/(d=f1/\(∃q c,f1=Frame.enter P q c .normal/\gZ.contains q=true)/\a.mode=.run/\c1=a::cs/\c2=b::cs/\Nx S a)
variable{P:aA}{cs:List ah}{v v':aa}{es:Array aT}{f1:ah}{c1:List ah}{main:Bool}
def Qu(D:DF S a b)(B:a.mode=.run){ops:Array Oper}{i:Nat}{j:List Nat}{k:List Item}(A:a.todo=.inRegion ops (i::j)::k)(t:Nx S a){s:Sem Next}(C:t9 (s.runT P v #[]).1)(H:∀n x,(s.runT P v #[]).1=.ok n x->(∀f o,n=.enter f o->gZ.contains f=true)/\(∀d,n≠.defer d)/\∀l f M as N,n≠.round l f M as N)(h:stepG.apply P true a cs none s v=.go (am f1 c1) v' es):∃I c2,stepG.apply P true b cs none s v=.go (am I c2) v' es/\uc P S cs a b f1 c1 I c2:=by
 have O:b.todo=.inRegion ops (i::j)::k:=by rw[D.rest];exact A
 have u:Nx S b:=by rw[D.rest];exact t
 have z:∀i∈b.todo,gh S i=true:=by rw[D.rest];exact D.items
 have Q:b.kind=a.kind:=by rw[D.rest]
 have R:b.fn=a.fn:=by rw[D.rest]
 rcases J:s.runT P v #[]with⟨r,U⟩;rw[J]at C H;unfold stepG.apply at h⊢;simp only[J,if_true,A,O,Q,R]at h⊢;have done:∀{g:aw} {x:aa} {e:Array aT},GStep.go g x e=.go (am f1 c1) v' es->g=am f1 c1/\x=v'/\e=es:=λh=>by simp_all
 cases r with
 |ok n x=>
  cases n<;>first|exact C.elim|skip
  case value y=>simp only[GStep.after]at h⊢;obtain⟨p,rfl,rfl⟩:=done h;let ⟨rfl,rfl⟩:=dG p;exact⟨_,_,rfl,.inl ⟨rfl,rfl,D.finish A y t,Kp.finish D.items t y,Kp.finish z u y⟩⟩
  case skip=>simp only[GStep.after]at h⊢;obtain⟨p,rfl,rfl⟩:=done h;let ⟨rfl,rfl⟩:=dG p;exact⟨_,_,rfl,.inl ⟨rfl,rfl,D.finish A undef t,Kp.finish D.items t _,Kp.finish z u _⟩⟩
  case enter f o=>simp only[GStep.after]at h⊢;obtain⟨p,rfl,rfl⟩:=done h;let ⟨rfl,rfl⟩:=dG p;exact⟨_,_,rfl,.inr ⟨rfl,⟨_,_,rfl,(H _ _ rfl).1 _ _ rfl⟩,B,rfl,rfl,t⟩⟩
  all_goals grind
 |halt q x=>
  cases q<;>first|exact C.elim|skip
  rename_i y;simp only[GStep.after]at h⊢;obtain⟨p,rfl,rfl⟩:=done h;let ⟨rfl,rfl⟩:=dG p;have B:b.mode=a.mode:=by rw[D.rest]
  have K:∀(c:ah) (L:List PanicEntry),Kp S c (c.raise L):=λc L i _=>by grind[Frame.raise]
  refine⟨_,_,rfl,.inl ⟨rfl,rfl,?_,K _ _,K _ _⟩⟩;unfold Frame.raise;rw[B];split<;>exact⟨by rw[D.rest],D.size,D.same,D.items,D.round,D.own,D.sub,D.nb⟩
theorem Bw{S:List Nat}{id:Nat}:∀{l c:List Item},exitTo id l=some c->(∀i∈l,gh S i=true)->∀i∈c,gh S i=true
 |[],_,h,_=>by cases h
 |x::l,c,h,e=>by
  have d:∀i∈l,gh S i=true:=λi f=>e i (kL _ f);cases x with
  |inBlock j=>
   simp only[exitTo]at h;split at h
   .cases h;exact d
   .exact Bw h d
  |_=>exact Bw (l:=l) (by simpa only[exitTo]using h) d
def AM:Option aj->Option Bool:=λo=>match o with
 |some (.bool b)=>some b
 |_=>none
def IZ{o:Option aj}(h:∀t,o≠some (.bool t)):AM o=none:=by
 cases o with
 |none=>rfl
 |some x=>cases x<;>first|rfl|simp_all
def Ff(
          hcl:my P) {G:Nat} (D:DF S a b) (hm:a.mode=.run) (ap:∀i∈a.todo,cZ G i=true) (ad:∀f j z k o,a.todo=.inRegion f (j::z)::k->f[j]?=some o->kg S o=false) (hn:∀f j z k o,a.todo=.inRegion f (j::z)::k->f[j]?=some o->ie G o.op=true->((f[j]?).map (Region.wanted · (yielded f a.tmps))).getD false=true->t9 ((execOp a.eval o).runT P v #[]).1) (h:stepG P main (am a cs) v=.go (am f1 c1) v' es):∃U c2,stepG P main (am b cs) v=.go (am U c2) v' es/\uc P S cs a b f1 c1 U c2:=by
 have aq:b.mode=.run:=by rw[D.rest];exact hm
 have O:b.roundOf=none:=by rw[D.rest];exact D.round
 have hf:b.fn=a.fn:=by rw[D.rest]
 have Y:b.todo=a.todo:=by rw[D.rest]
 have done:∀{g:aw} {x:aa} {e:Array aT},GStep.go g x e=.go (am f1 c1) v' es->g=am f1 c1/\x=v'/\e=es:=λh=>by cases h;exact⟨rfl,rfl,rfl⟩
 have to:∀l,(∀i∈l,gh S i=true)->GStep.go (am {a with todo:=l} cs) v=.go (am f1 c1) v' es->∃U c2,GStep.go (am {b with todo:=l} cs) v=.go (am U c2) v' es/\uc P S cs a b f1 c1 U c2:=λl hl h=>by obtain⟨H,rfl,rfl⟩:=done h;obtain⟨rfl,rfl⟩:=dG H;exact⟨_,_,rfl,.inl ⟨rfl,rfl,D.todo hl,λ_ _=>rfl,λ_ _=>rfl⟩⟩
 have on:∀{a2 b2:ah},a2.tmps=a.tmps->b2.tmps=b.tmps->DF S a2 b2->GStep.go (am a2 cs) v=.go (am f1 c1) v' es->∃U c2,GStep.go (am b2 cs) v=.go (am U c2) v' es/\uc P S cs a b f1 c1 U c2:=λha hb D h=>by obtain⟨H,rfl,rfl⟩:=done h;obtain⟨rfl,rfl⟩:=dG H;exact⟨_,_,rfl,.inl ⟨rfl,rfl,D,λi _=>by rw[ha],λi _=>by rw[hb]⟩⟩
 have a9v:∀l,(∀i∈l,gh S i=true)->DF S {fn:=a.fn,tmps:=a.tmps,todo:=l,defers:=a.defers,mode:=.returning,kind:=a.kind,roundOf:=none} {fn:=b.fn,tmps:=b.tmps,todo:=l,defers:=b.defers,mode:=.returning,kind:=b.kind,roundOf:=none}:=λl hl=>⟨by rw[D.rest],D.size,D.same,hl,rfl,D.own,D.sub,D.nb⟩;rw[ij hm]at h;rw[ij aq];unfold stepG.exec at h⊢;rw[Y];rcases C:a.todo with _|⟨i,k⟩
 .simp only[C,D.round,O,↓reduceIte]at h⊢;exact on (a2:={fn:=a.fn,tmps:=a.tmps,todo:=[],defers:=a.defers,mode:=.returning,kind:=a.kind,roundOf:=none}) (b2:={fn:=b.fn,tmps:=b.tmps,todo:=[],defers:=b.defers,mode:=.returning,kind:=b.kind,roundOf:=none}) rfl rfl (a9v [] λ_ h=>by cases h) h
 .have V:∀j∈k,gh S j=true:=λj I=>D.items j (by rw[C];exact kL _ I);have N:gh S i=true:=D.items i (by rw[C];exact jg);have J:∀x y,gh S x=true->gh S y=true->∀j∈x::y::k,gh S j=true:=λx y W hy j I=>by
   obtain rfl|I:=dj.1 I
   .exact W
   .rcases dj.1 I with rfl|I
    .exact hy
    .exact V j I
  have one:∀x,gh S x=true->∀j∈x::k,gh S j=true:=λx W j I=>by
   obtain rfl|I:=dj.1 I
   .exact W
   .exact V j I
  have Z:cZ G i=true:=ap i (by rw[C];exact jg);simp only[C]at h;cases i with
  |inBlock id=>exact to k V h
  |inScope c=>exact to k V h
  |inLoop c=>exact to _ (J _ _ N N) h
  |inRangeFunc l=>cases N
  |call d p q r=>cases N
  |extern r q=>cases N
  |beginRound=>cases N
  |endRangeFunc l=>cases N
  |inRegion f todo=>
   cases todo with
   |nil=>exact to k V h
   |cons j z=>
    have K:∀o∈f,qZ S o=true:=by have:f.all (qZ S)=true:=N;simp at this;intro o B;obtain⟨q,hq,rfl⟩:=fT.1 B;exact this q hq
    have hy:yielded f b.tmps=yielded f a.tmps:=funext λn=>by
     unfold yielded;cases B:f[n]? with
     |none=>rfl
     |some o=>
      have s:=K o (ou B);cases hd:o.dst with
      |none=>simp[hd]
      |some d=>
       simp[hd];cases Q:S.contains d with
       |false=>rw[D.same d Q]
       |true=>
        have hA:dB.contains d=true:=by
         simp[qZ]at s;obtain s|s:=s
         .simp only[v8,eO,hd,Option.all_some,Q]at s;cases s.1.2
         .simp only[kg,eO]at s;have s:=s.2;split at s
          .simpa[hd]using (b0s.1 s).2
          .have:=(b0s.1 s).2;rw[hd,Option.any_some,Q]at this;cases this
          .simpa[hd]using (b0s.1 s).2
          .have:=(b0s.1 s).2;rw[hd,Option.any_some,Q]at this;cases this
          .cases s
        show AM _=AM _;rw[IZ λt=>(D.nb d hA t).2,IZ λt=>(D.nb d hA t).1]
    dsimp at h⊢;rw[hy];by_cases hw:((f[j]?).map (Region.wanted · (yielded f a.tmps))).getD false=true
    .rw[if_pos hw]at h⊢;unfold stepG.oper at h⊢;have e3:a.oper?=f[j]? :=by simp[Frame.oper?,C]
     have e4:b.oper?=f[j]? :=by simp[Frame.oper?,Y,C]
     rw[e3]at h;rw[e4];cases B:f[j]? with
     |none=>rw[B]at h;cases h
     |some o=>
      rw[B]at h;have X:=ou B;have s:v8 S o=true:=by have:=K o X;rw[qZ,ad f j z k o C B,Bool.or_false]at this;exact this
      simp only[v8,eO]at s;have L:Nx S a:=λae j' ab k' d H R=>by rw[C]at H;cases H;rw[B]at R;simp at R;have:=s.1.2;rw[R]at this;simpa using this
      have M:ie G o.op=true:=by simp only[cZ]at Z;rw[oq]at Z;obtain⟨q,hq,rfl⟩:=fT.1 X;exact Z q hq
      have ar:execOp b.eval o=execOp a.eval o:=Tm M λx W=>D.eval (by
       have:=s.1.1;simp at this;obtain⟨q,hq,rfl⟩:=fT.1 W;exact this q hq)
      simp[D.round,O]at h⊢;rw[ar];exact Qu D hm C L (hn f j z k o C B M hw) (λn x hr=>a0G hcl (λ_=>rfl) M s.2 hr) h
    .rw[if_neg hw]at h⊢;obtain⟨H,rfl,rfl⟩:=done h;let ⟨rfl,rfl⟩:=dG H;have L:Nx S a:=λae j' ab k' d H R=>by
      rw[C]at H;cases H;cases B:f[j]? with
      |none=>rw[B]at R;cases R
      |some o=>rw[B]at R;have:=K o (ou B);rw[qZ,ad f j z k o C B,Bool.or_false]at this;simp only[v8,eO]at this;have:=this.1.2;simp at R;rw[R]at this;simpa using this
     exact⟨_,_,rfl,.inl ⟨rfl,rfl,D.finish C undef L,Kp.finish D.items L _,Kp.finish (by rw[Y];exact D.items) (by rw[D.rest];exact L) _⟩⟩
  |code c=>
   have A:mU S c=true:=N;cases c with
   |skip=>exact to k V h
   |label l=>exact to k V h
   |refuse y=>cases h
   |goto l=>cases A
   |rangeFunc g p q r=>cases A
   |seq x y=>simp[mU]at A;exact to _ (J _ _ A.1 A.2) h
   |block id x=>exact to _ (J _ _ A rfl) h
   |loop x=>exact to _ (J _ _ A A) h
   |scope x=>exact to _ (J _ _ A A) h
   |ret=>simp only[D.round,O,↓reduceIte]at h⊢;exact on (a2:={fn:=a.fn,tmps:=a.tmps,todo:=_,defers:=a.defers,mode:=.returning,kind:=a.kind,roundOf:=none}) (b2:={fn:=b.fn,tmps:=b.tmps,todo:=_,defers:=b.defers,mode:=.returning,kind:=b.kind,roundOf:=none}) rfl rfl (a9v _ (one _ N)) h
   |exit id=>
    dsimp only at h⊢;cases he:exitTo id k with
    |some k'=>rw[he]at h;exact to k' (Bw he V) h
    |none=>rw[he]at h;simp only[Option.elim_none,D.round,O]at h⊢;cases h
   |cond x p q=>
    simp[mU]at A;dsimp at h⊢;rw[D.eval A.1.1];cases W:a.eval x with
    |bool t=>
     rw[W]at h;refine to _ (one _ ?_) h;cases t
     .exact A.2
     .exact A.1.2
    |_=>rw[W]at h;cases h
   |region id f ao=>
    cases ao with
    |false=>exact to _ (one _ A) h
    |true=>
     simp only[b0M,d8,if_false,hf]at h⊢;cases hr:(choose (.order a.fn id)).run P v with
     |ok t u=>rw[hr]at h;obtain⟨H,rfl,rfl⟩:=done h;let ⟨rfl,rfl⟩:=dG H;have D2:=D.todo (one (.inRegion f (Region.schedule (P.follows .mixedOrders) f t)) A);simp[hf]at D2;exact⟨_,_,rfl,.inl ⟨rfl,rfl,D2,λ_ _=>rfl,λ_ _=>rfl⟩⟩
     |halt q u=>rw[hr]at h;cases h
end
section
variable{lk:Prop}{lz:Nat->Obj->Prop}{T:Tables}{F F':Array Func}{E:bW->Prop}{cs:List ah}{trap:ah}{below:List ah}{D:Nat->Prop}{ai:Nat->Nat}{w v w':aa}{fr:ah}{gs:List ah}{rf:ah}{au:List ah}{g':aw}{es:Array aT}
def CP(l:Twin T F F' E)(R:e9 lk lz T cs D ai w v fr gs rf au)(t:fr.mode=.run)(n:fr.roundOf=none)(h:stepG ⟨T,F⟩ true (am fr (gs++trap::below)) w=.go g' w' es)(u:gG w v w'.drawn):∀ops j c k o,rf.todo=.inRegion ops (j::c)::k->ops[j]?=some o->ie T.globals.size o.op=true->((ops[j]?).map (Region.wanted · (yielded ops rf.tmps))).getD false=true->t9 ((execOp rf.eval o).runT ⟨T,F'⟩ v #[]).1:=by
 intro ops j c k o d y p s;have h0:=(R.aX _ (aL R.heap 0)).1;have z:yielded ops rf.tmps=yielded ops fr.tmps:=by rw[h0];funext q;exact Md ops fr.tmps q
 rw[z]at s;let ⟨k0,hfr⟩:∃k0,fr.todo=.inRegion ops (j::c)::k0:=by
  rw[h0]at d;simp only[aO]at d;rcases e:fr.todo with _|⟨i,k0⟩
  .rw[e]at d;grind
  .rw[e,dq,iq]at d;cases i<;>simp[cg]at d;simp_all
 have r:∀f,aQ D ai f->∀x,kh T.globals.size x=true->rf.eval x=al f (fr.eval x):=λf g x A=>by rw[(R.aX f g).1];exact xT f (oW l R.low g).low fr x A
 rw[ij t]at h;unfold stepG.exec at h;simp[hfr]at h;rw[if_pos s]at h;unfold stepG.oper at h;have B:fr.oper?=ops[j]? :=by simp[Frame.oper?,hfr]
 rw[B,y]at h;simp[n]at h;exact OB l R (λf g=>xH (oW l R.low g) l (r f g) o p) h u
end
end Go.Mir
end
end
