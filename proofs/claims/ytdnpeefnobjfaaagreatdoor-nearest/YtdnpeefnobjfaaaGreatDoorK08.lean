import Derived.Test.YtdnpeefnobjfaaaGreatDoorK07
set_option maxRecDepth 100000
set_option maxHeartbeats 4000000
set_option linter.all false
section
namespace Go.Mir
open Go Go.Conc
section
variable{T:Tables}{F F':Array Func}{E:bW->Prop}{Z:Nat->Prop}{K:Nat->Obj}{cs:List ah}{SB:Nat->Prop}
def UI{P r g v d R Q}(h:jZ P r g v d R)(k:∀a b e,R a b e->Q a b e):jZ P r g v d Q:=by intro s t q u c h0 w x y;obtain⟨N,f,i,z,q1,a,b,e,A,B,j,l,n,o,p,C⟩:=h s t q u c h0 w x y;exact⟨N,f,i,z,q1,a,b,e,A,B,j,l,n,o,p,k _ _ _ C⟩
def Cq{G d a w' v'}(e:cU G d a w' v'){b c}(h:∀f,aQ d a f->c=f b):d b/\a b=c:=by
 by_cases g:d b
 .exact⟨g,((h _ (aL e 0)).trans (by simp[ag,g])).symm⟩
 .have i:=h _ (aL e 0);have j:=h _ (aL e 1);simp only[ag,g,if_false]at i j;omega
def Th{G p d w' v'}(k:cU G p d w' v')(q:∀b,p b->¬SB (d b)){e w}(s:∀f,aQ p d f->e=bK f w)(y:∀m,e.loc=.mark m->qC m=true):EvQ (cn SB) v'.heap.size e:=by
 have hex:=s _ (aL k 0);obtain⟨t,wr,u⟩:=w;cases t with
 |cell a=>
  have h:=Cq k (b:=a.block) (c:=match e.loc with| .cell a=>a.block|_=>0) (λf v=>by rw[s f v];rfl);rw[hex]at h⊢;simp only[bK,cH,aG]at h⊢;obtain⟨n,o⟩:=h;refine⟨⟨λx g i=>?_,?_⟩,λb=>by simp[MemAct.ofEvent]⟩
  .simp only[MemAct.ofEvent,MemAct.touch?,cK]at g;subst g;exact absurd (o▸i) (q _ n)
  .have:=k.fQ _ n;rw[o]at this;exact this
 |obj r=>
  have h:=Cq k (b:=r) (c:=match e.loc with| .obj a=>a|_=>0) (λf v=>by rw[s f v];rfl);rw[hex]at h⊢;simp only[bK,cH]at h⊢;obtain⟨n,o⟩:=h;have l:=k.fQ _ n;rw[o]at l;refine⟨⟨λx g i=>?_,by cases wr<;>cases u<;>exact l⟩,λb=>by cases wr<;>cases u<;>simp[MemAct.ofEvent]⟩;cases wr<;>cases u<;>simp only[MemAct.ofEvent,MemAct.touch?,cK,reduceCtorEq]at g
  all_goals(subst g;exact i.elim)
 |mark m=>
  have j:=y (ko _ m) (by rw[hex];rfl);rw[hex];simp only[bK,cH]at j⊢;generalize ko _ m=m' at j⊢;cases m' with
  |noRoom=>exact⟨⟨λx g=>by simp[MemAct.ofEvent,MemAct.touch?]at g,trivial⟩,λb=>by simp[MemAct.ofEvent]⟩
  |extern f=>exact⟨⟨λx g=>by simp[MemAct.ofEvent,MemAct.touch?]at g,trivial⟩,λb=>by simp[MemAct.ofEvent]⟩
  |_=>cases j
 |output=>rw[hex];refine⟨⟨λx g i=>?_,trivial⟩,λb=>by simp[MemAct.ofEvent,bK,cH]⟩;simp only[bK,cH,MemAct.ofEvent,MemAct.touch?,cK]at g;subst g;exact i.elim
 |goroutines=>rw[hex];refine⟨⟨λx g i=>?_,trivial⟩,λb=>by simp[MemAct.ofEvent,bK,cH]⟩;simp only[bK,cH,MemAct.ofEvent,MemAct.touch?,cK]at g;subst g;exact i.elim
structure NA (T:Tables) (Z:Nat->Prop) (K:Nat->Obj) (cs:List ah) (Stop:ah->List ah->aa->Prop) (D:Nat->Prop) (ai:Nat->Nat) (v:aa) (g':aw) (v':aa) (fr':ah) (gs':List ah) (w':aa) (D':Nat->Prop) (past':Nat->Nat) (rf':ah) (rcs':List ah):Prop where
 stop:Stop fr' gs' w'
 g:g'=am rf' rcs'
 rel:de T Z K cs D' past' w' v' fr' gs' rf' rcs'
 more:∀b,D b->D' b/\past' b=ai b
 new:∀b,D' b->D b\/v.heap.size<=past' b
 size:v.heap.size<=v'.heap.size
 old:∀c,c<v.heap.size->(∀b,D b->ai b=c->Z b)->v'.heap[c]?=v.heap[c]?
 os:oo v'=oo v
def a5d(tw:Twin T F F' E)(B:Twin T F F (λ_=>False))(cL:iv T F)(C:∀q,E q->∃fn s,F[q]?=some fn/\fn.body=some (.refuse s)){Stop}(W:∀fr gs w,Stop fr gs w->fr.mode=.returning){fr gs w}(H:Fin ⟨T,F⟩ (ay ⟨T,F⟩) Stop fr gs w):∀D ai v z rcs,de T Z K cs D ai w v fr gs z rcs->(∀b,Z b->D b)->(∀b,D b->¬SB (ai b))->(∀c,SB c->c<v.heap.size)->iQ ⟨T,F'⟩ SB (am z rcs) v 0 λg' v' d'=>d'=0/\∃p r X Q a k rcs',NA T Z K cs Stop D ai v g' v' p r X Q a k rcs':=by
 induction H with
 | @stop fr gs w S=>intro D ai v z rcs R _ _ _;refine uW λc=>⟨rfl,fr,gs,w,D,ai,z,rcs,S,rfl,R.frame (az _) (λb _=>rfl) rfl,λb i=>⟨i,rfl⟩,λb i=>.inl i,az _,λc _ _=>rfl,rfl⟩
 | @step fr gs w nf ng nw ne h Y ih=>
  intro D ai v z rcs R hZ ab n;refine ff rfl λc=>?_;have R1:de T Z K cs D ai w (v.at c) fr gs z rcs:=R.frame (az _) (λb _=>rfl) rfl;obtain⟨Q,a,U,ad,k,rcs',hq,R2,d,j,f,t,ae,ao,I,ap,u⟩:=LY (main:=true) tw B cL C W (h (v.at c).tape (v.at c).drawn) (Y _ _) R1;have f:v.heap.size<=U.heap.size:=f;have o:∀b,Q b->¬SB (a b):=λb i S=>by
   obtain J|L:=j b i
   .exact ab b J (by rw[<-(d b J).2];exact S)
   .have:=n _ S;have L:v.heap.size<=a b:=L;omega
  refine⟨am k rcs',U,ad,hq,f,λe M=>?_,?_⟩
  .obtain⟨e0,_,_,N⟩:=ap e M;obtain⟨x',_,R3⟩:=id R2;exact Th R3.heap o N (u e M)
  .rw[deafBehind_still λe M=>⟨λx=>(by have:=u e M _ x;cases this),λx=>(by have:=u e M _ x;cases this)⟩];refine UI (ih _ _ Q a U k rcs' R2 (λb i=>(d b (hZ b i)).1) o (λc V=>bL (n c V) f)) ?_;rintro g2 v2 d2 ⟨hd,p,r,X,D2,y,aq,O,l⟩;refine⟨hd,p,r,X,D2,y,aq,O,l.stop,l.g,l.rel,λb i=>?_,λb i=>?_,dt f l.size,λc V hz=>?_,l.os.trans (jY ae I)⟩
   .obtain⟨A,P⟩:=d b i;obtain⟨h3,h4⟩:=l.more b A;exact⟨h3,h4.trans P⟩
   .rcases l.new b i with A|A
    .rcases j b A with P|P
     .exact .inl P
     .rw[(l.more b A).2];exact .inr P
    .exact .inr (dt f A)
   .have ar:c<U.heap.size:=bL V f;rw[l.old c ar λb i au=>?_]
    .exact t c V hz
    .rcases j b i with J|L
     .exact hz b J (by rw[<-(d b J).2];exact au)
     .have L:v.heap.size<=a b:=L;omega
end
end Go.Mir
end
