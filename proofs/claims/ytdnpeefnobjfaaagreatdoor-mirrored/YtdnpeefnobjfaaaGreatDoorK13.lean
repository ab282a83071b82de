import Derived.Test.YtdnpeefnobjfaaaGreatDoorK12
set_option maxRecDepth 100000
set_option maxHeartbeats 4000000
set_option linter.all false
section
namespace Go.Mir
open Go Go.Conc
section
variable{T:Tables}{F F':Array Func}{E:bc->Prop}{Z:Nat->Prop}{K:Nat->Obj}{cs:List ah}{SB:Nat->Prop}
def RQ{P p g v d R Q}(h:jG P p g v d R)(k:∀a b e,R a b e->Q a b e):jG P p g v d Q:=by intro r t q s c h0 u w x;obtain⟨N,f,i,y,q1,a,b,e,z,A,j,l,m,n,o,B⟩:=h r t q s c h0 u w x;exact⟨N,f,i,y,q1,a,b,e,z,A,j,l,m,n,o,k _ _ _ B⟩
def Aq{G d a w' v'}(e:dh G d a w' v'){b c}(h:∀f,aQ d a f->c=f b):d b/\a b=c:=by
 by_cases g:d b
 .exact⟨g,((h _ (aN e 0)).trans (by simp[g])).symm⟩
 .have i:=h _ (aN e 0);have j:=h _ (aN e 1);simp only[g,if_false]at i j;omega
def QB{G p d w' v'}(k:dh G p d w' v')(q:∀b,p b->¬SB (d b)){e w}(s:∀f,aQ p d f->e=cz f w)(y:∀m,e.loc=.mark m->oU m=true):EvQ (cK SB) v'.heap.size e:=by
 have hex:=s _ (aN k 0);obtain⟨t,wr,u⟩:=w;cases t with
 |cell a=>
  have h:=Aq k (b:=a.block) (c:=match e.loc with| .cell a=>a.block|_=>0) (λf v=>by rw[s f v];rfl);rw[hex]at h⊢;simp only[cz,cX,aH]at h⊢;obtain⟨n,o⟩:=h;refine⟨⟨λx g i=>?_,?_⟩,λb=>by simp[MemAct.ofEvent]⟩
  .simp only[MemAct.ofEvent,MemAct.touch?,cw]at g;subst g;exact absurd (o▸i) (q _ n)
  .have:=k.fO _ n;rw[o]at this;exact this
 |obj r=>
  have h:=Aq k (b:=r) (c:=match e.loc with| .obj a=>a|_=>0) (λf v=>by rw[s f v];rfl);rw[hex]at h⊢;simp only[cz,cX]at h⊢;obtain⟨n,o⟩:=h;have l:=k.fO _ n;rw[o]at l;refine⟨⟨λx g i=>?_,by cases wr<;>cases u<;>exact l⟩,λb=>by cases wr<;>cases u<;>simp[MemAct.ofEvent]⟩;cases wr<;>cases u<;>simp only[MemAct.ofEvent,MemAct.touch?,cw,reduceCtorEq]at g
  all_goals(subst g;exact i.elim)
 |mark m=>
  have j:=y (jU _ m) (by rw[hex];rfl);rw[hex];simp only[cz,cX]at j⊢;generalize jU _ m=m' at j⊢;cases m' with
  |noRoom=>exact⟨⟨λx g=>by simp[MemAct.ofEvent,MemAct.touch?]at g,trivial⟩,λb=>by simp[MemAct.ofEvent]⟩
  |extern f=>exact⟨⟨λx g=>by simp[MemAct.ofEvent,MemAct.touch?]at g,trivial⟩,λb=>by simp[MemAct.ofEvent]⟩
  |_=>cases j
 |output=>rw[hex];refine⟨⟨λx g i=>?_,trivial⟩,λb=>by simp[MemAct.ofEvent,cz,cX]⟩;simp only[cz,cX,MemAct.ofEvent,MemAct.touch?,cw]at g;subst g;exact i.elim
 |goroutines=>rw[hex];refine⟨⟨λx g i=>?_,trivial⟩,λb=>by simp[MemAct.ofEvent,cz,cX]⟩;simp only[cz,cX,MemAct.ofEvent,MemAct.touch?,cw]at g;subst g;exact i.elim
structure K7 (T:Tables) (Z:Nat->Prop) (K:Nat->Obj) (cs:List ah) (Stop:ah->List ah->aa->Prop) (D:Nat->Prop) (aj:Nat->Nat) (v:aa) (g':aw) (v':aa) (fr':ah) (gs':List ah) (w':aa) (D':Nat->Prop) (past':Nat->Nat) (rf':ah) (rcs':List ah):Prop where
 stop:Stop fr' gs' w'
 g:g'=an rf' rcs'
 rel:dS T Z K cs D' past' w' v' fr' gs' rf' rcs'
 more:∀b,D b->D' b/\past' b=aj b
 new:∀b,D' b->D b\/v.heap.size<=past' b
 size:v.heap.size<=v'.heap.size
 old:∀c,c<v.heap.size->(∀b,D b->aj b=c->Z b)->v'.heap[c]?=v.heap[c]?
 os:oo v'=oo v
def a2s(tw:Twin T F F' E)(A:Twin T F F (λ_=>False))(cT:ib T F)(B:∀q,E q->∃fn s,F[q]?=some fn/\fn.body=some (.refuse s)){Stop}(V:∀fr gs w,Stop fr gs w->fr.mode=.returning){fr gs w}(C:Fin ⟨T,F⟩ (aB ⟨T,F⟩) Stop fr gs w):∀D aj v y rcs,dS T Z K cs D aj w v fr gs y rcs->(∀b,Z b->D b)->(∀b,D b->¬SB (aj b))->(∀c,SB c->c<v.heap.size)->iv ⟨T,F'⟩ SB (an y rcs) v 0 λg' v' d'=>d'=0/\∃o p W P a k rcs',K7 T Z K cs Stop D aj v g' v' o p W P a k rcs':=by
 induction C with
 | @stop fr gs w Q=>intro D aj v y rcs R _ _ _;refine sr λc=>⟨rfl,fr,gs,w,D,aj,y,rcs,Q,rfl,R.frame (aF _) (λb _=>rfl) rfl,λb i=>⟨i,rfl⟩,λb i=>.inl i,aF _,λc _ _=>rfl,rfl⟩
 | @step fr gs w nf ng nw ne h X ih=>
  intro D aj v y rcs R hZ Y m;refine eZ rfl λc=>?_;have R1:dS T Z K cs D aj w (v.at c) fr gs y rcs:=R.frame (aF _) (λb _=>rfl) rfl;obtain⟨P,a,S,ab,k,rcs',hq,R2,d,j,f,r,ad,ae,H,ag,t⟩:=Jr (main:=true) tw A cT B V (h (v.at c).tape (v.at c).drawn) (X _ _) R1;have f:v.heap.size<=S.heap.size:=f;have n:∀b,P b->¬SB (a b):=λb i Q=>by
   obtain I|J:=j b i
   .exact Y b I (by rw[<-(d b I).2];exact Q)
   .have:=m _ Q;have J:v.heap.size<=a b:=J;omega
  refine⟨an k rcs',S,ab,hq,f,λe L=>?_,?_⟩
  .obtain⟨e0,_,_,M⟩:=ag e L;obtain⟨x',_,R3⟩:=id R2;exact QB R3.heap n M (t e L)
  .rw[deafBehind_still λe L=>⟨λx=>(by have:=t e L _ x;cases this),λx=>(by have:=t e L _ x;cases this)⟩];refine RQ (ih _ _ P a S k rcs' R2 (λb i=>(d b (hZ b i)).1) n (λc U=>cG (m c U) f)) ?_;rintro g2 v2 d2 ⟨hd,o,p,W,D2,u,al,N,l⟩;refine⟨hd,o,p,W,D2,u,al,N,l.stop,l.g,l.rel,λb i=>?_,λb i=>?_,dF f l.size,λc U hz=>?_,l.os.trans (km ad H)⟩
   .obtain⟨z,O⟩:=d b i;obtain⟨h3,h4⟩:=l.more b z;exact⟨h3,h4.trans O⟩
   .rcases l.new b i with z|z
    .rcases j b z with O|O
     .exact .inl O
     .rw[(l.more b z).2];exact .inr O
    .exact .inr (dF f z)
   .have ao:c<S.heap.size:=cG U f;rw[l.old c ao λb i aq=>?_]
    .exact r c U hz
    .rcases j b i with I|J
     .exact hz b I (by rw[<-(d b I).2];exact aq)
     .have J:v.heap.size<=a b:=J;omega
end
end Go.Mir
end
