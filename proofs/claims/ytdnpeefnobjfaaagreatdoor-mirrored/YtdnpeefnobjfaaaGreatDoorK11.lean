import Derived.Laws.Sem
import Derived.Test.YtdnpeefnobjfaaaGreatDoorK10
set_option maxRecDepth 100000
set_option maxHeartbeats 4000000
set_option linter.all false
section
namespace Go.Mir
def QF{G ρ ρ' o}(C:ij G o.op=true)(h:∀x∈o.op.operands,ρ x=ρ' x):execOp ρ o=execOp ρ' o:=by
 obtain⟨H,I,M,J,k,guard⟩:=o;dsimp only at h C;cases I
 case move x=>simp only[execOp,h x (by simp[Op.operands])]
 case assign x=>simp only[execOp,h x (by simp[Op.operands])]
 case pick c a b=>simp only[execOp,h c (by simp[Op.operands]),h a (by simp[Op.operands]),h b (by simp[Op.operands])]
 case alloc=>rfl
 case box t x=>simp only[execOp,h x (by simp[Op.operands])]
 case build t g=>simp only[execOp];rw[show(g.map λx=>(x.1,ρ x.2))=g.map λx=>(x.1,ρ' x.2)from lE λq r=>by rw[h q.2 (by simp[Op.operands];exact⟨q.1,r⟩)]]
 case buildSlice t n g=>simp only[execOp];rw[show(g.map λx=>(x.1,ρ x.2))=g.map λx=>(x.1,ρ' x.2)from lE λq r=>by rw[h q.2 (by simp[Op.operands];exact⟨q.1,r⟩)]]
 case load t x=>simp only[execOp,h x (by simp[Op.operands])]
 case store t a x=>simp only[execOp,h x (by simp[Op.operands]),h a (by simp[Op.operands])]
 case nilCheck x=>simp only[execOp,h x (by simp[Op.operands])]
 case binOp p t a x n=>simp only[execOp,h x (by simp[Op.operands]),h a (by simp[Op.operands])]
 case unOp p t x=>simp only[execOp,h x (by simp[Op.operands])]
 case convert s t x=>simp only[execOp,h x (by simp[Op.operands])]
 case makeInterface t x=>simp only[execOp,h x (by simp[Op.operands])]
 case makeFunc N a b=>simp only[execOp];rw[show a.map ρ=a.map ρ' from lE λx d=>h x (by simp[Op.operands,d]),show b.map ρ=b.map ρ' from lE λx d=>h x (by simp[Op.operands,d])]
 case makeSlice t a x=>simp only[execOp,h x (by simp[Op.operands]),h a (by simp[Op.operands])]
 case slice t x l m n=>
  have e:∀y:Option Operand,(∀z,y=some z->ρ z=ρ' z)->y.map ρ=y.map ρ':=λy K=>by cases y<;>simp[K]
  simp only[execOp,h x (by simp[Op.operands])];rw[e l λz j=>h z (by simp[Op.operands,j]),e m λz j=>h z (by simp[Op.operands,j]),e n λz j=>h z (by simp[Op.operands,j])]
 case fieldAddr s x f=>simp only[execOp,h x (by simp[Op.operands])]
 case field s x f=>simp only[execOp,h x (by simp[Op.operands])]
 case indexAddr t a x=>simp only[execOp,h x (by simp[Op.operands]),h a (by simp[Op.operands])]
 case index t a x=>simp only[execOp,h x (by simp[Op.operands]),h a (by simp[Op.operands])]
 case typeAssert x a b c=>simp only[execOp,h x (by simp[Op.operands])]
 case extract x i=>simp only[execOp,h x (by simp[Op.operands])]
 case panic x=>simp only[execOp,h x (by simp[Op.operands])]
 case call c=>have u:c.args.map ρ=c.args.map ρ':=lE λx d=>h x (by simp[Op.operands,Call.operands];cases c.callee<;>simp[d]);obtain⟨A,L,B⟩:=c;cases A<;>simp only[execOp,resolve,u]<;>first|rfl|(rename_i x;simp only[h x (by simp[Op.operands,Call.operands])])|(rename_i x _;simp only[h x (by simp[Op.operands,Call.operands])])
 case defer c=>have u:c.args.map ρ=c.args.map ρ':=lE λx d=>h x (by simp[Op.operands,Call.operands];cases c.callee<;>simp[d]);obtain⟨A,L,B⟩:=c;cases A<;>simp only[execOp,resolve,u]<;>first|rfl|(rename_i x;simp only[h x (by simp[Op.operands,Call.operands])])|(rename_i x _;simp only[h x (by simp[Op.operands,Call.operands])])
 all_goals simp[ij]at C
def tW:Result Next->Prop
 | .ok (.value _) _| .ok .skip _| .ok (.enter ..) _| .ok (.round ..) _| .ok (.defer _) _| .halt (.panic _) _=>True
 |_=>False
section
variable{lk:Prop}{lz:Nat->Obj->Prop}{T:Tables}{F F':Array Func}{E:bc->Prop}{cs:List ah}{trap:ah}{below:List ah}{D:Nat->Prop}{aj:Nat->Nat}{w v:aa}{fr:ah}{gs:List ah}{rf:ah}{ag:List ah}
def L2(n:Twin T F F' E)(R:fg lk lz T cs D aj w v fr gs rf ag){s s'}(y:∀f,aQ D aj f->aE ⟨T,F⟩ ⟨T,F'⟩ f (RN F T.globals.size f) s s'){g' w' es}(g:stepG.apply ⟨T,F⟩ true fr (gs++trap::below) none s w=.go g' w' es)(z:gy w v w'.drawn):tW (s'.runT ⟨T,F'⟩ v #[]).1:=by
 have j:(fr.kind==CallKind.early)=false:=by obtain h|h:=R.ok.kind<;>rw[h]<;>rfl
 rcases k:s.runT ⟨T,F⟩ w #[]with⟨r,A⟩;have L:=n.early;obtain⟨a,l,rfl,C,c,b,H,m,d,p,I,t,J⟩|⟨x,l,rfl,C,c,M,H,m,d,p,I,t,J⟩|⟨h,l,rfl,e⟩:=mS R.heap R.os R.all y k (λB=>by rw[ye k B g];exact z)
 .have i:=t _ (aN p 0);rw[d];cases a<;>simp only[RN]at i
  .rw[i];trivial
  .rw[i];trivial
  .rw[i.1];trivial
  .rw[i.1];trivial
  .rw[i.1];trivial
 .rw[d];trivial
 .exfalso;unfold stepG.apply at g;simp only[k,if_true,j,dj,if_false,GStep.after]at g;cases h<;>simp[eO]at e<;>simp at g;rename_i u;cases u<;>first|(simp at g;done)|(obtain⟨o,N,K,q⟩:=n.early.early fr (gs++trap::below) none (by assumption) l;simp[q]at g)
end
def iQ:List bc:=[14,17,19,20,21,22]
def px(P:ay):Prop:=∀f,iQ.contains f=true->∃c,P.funcs[f]?=some c/\c.body.isNone=false/\(c.name== "runtime.NumGoroutine")=false
def xu(S:List Nat):Operand->Bool
 | .tmp i=> !S.contains i
 |_=>true
def wO:Op->Bool
 | .call ⟨.builtin .len,_,_⟩=>true
 | .call ⟨.value (.func f),_,_⟩=>iQ.contains f
 | .call _| .defer _| .nilCheck _=>false
 |_=>true
def qF(S:List Nat)(o:Oper):Bool:=o.op.operands.all (xu S)&&(o.dst.all λd=> !S.contains d)&&wO o.op
def lW(S:List Nat):Code->Bool
 | .region _ d _=>d.all (qF S)
 | .seq a b=>lW S a&&lW S b
 | .cond c a b=>xu S c&&lW S a&&lW S b
 | .block _ a| .loop a| .scope a=>lW S a
 | .rangeFunc .. | .goto _=>false
 |_=>true
def iJ(S:List Nat):Item->Bool
 | .code c| .inLoop c| .inScope c=>lW S c
 | .inBlock _=>true
 | .inRegion d _=>d.all (qF S)
 |_=>false
def Yz{P}(m:px P){G ρ}(z:∀f,ρ (.func f)=.func (.func f) #[] #[]){o}(r:ij G o.op=true)(h:wO o.op=true){v n w}(g:((execOp ρ o).runT P v #[]).1=.ok n w):(∀f args,n=.enter f args->iQ.contains f=true)/\(∀d,n≠.defer d)/\∀l f tm as bd,n≠.round l f tm as bd:=by
 rw[Sem.runT_fst]at g;have t:∀s:Sem af,(do pure (.value (<-s)):Sem Next).run P v=.ok n w->(∀f args,n=.enter f args->iQ.contains f=true)/\(∀d,n≠.defer d)/\∀l f tm as bd,n≠.round l f tm as bd:=λs h=>by
  have h:=(Sem.run_bind P v s _).symm.trans h;cases i:s.run P v with
  |ok x j=>rw[i]at h;cases h;exact⟨λ_ _ h=>(by cases h),λ_ h=>(by cases h),λ_ _ _ _ _ h=>(by cases h)⟩
  |halt q j=>rw[i]at h;cases h
 have A:∀s:Sem Unit,(do s;pure .skip:Sem Next).run P v=.ok n w->(∀f args,n=.enter f args->iQ.contains f=true)/\(∀d,n≠.defer d)/\∀l f tm as bd,n≠.round l f tm as bd:=λs h=>by
  have h:=(Sem.run_bind P v s _).symm.trans h;cases i:s.run P v with
  |ok x j=>rw[i]at h;cases h;exact⟨λ_ _ h=>(by cases h),λ_ h=>(by cases h),λ_ _ _ _ _ h=>(by cases h)⟩
  |halt q j=>rw[i]at h;cases h
 obtain⟨dst,op,B,pos,after,guard⟩:=o;dsimp only at h r;cases op
 case call c=>
  obtain⟨C,ar,H⟩:=c;cases C with
  |builtin b=>cases b<;>first|(cases h;done)|exact t _ g
  |invoke a b=>cases h
  |value x=>
   cases x<;>first|(cases h;done)|skip
   rename_i f;have u:iQ.contains f=true:=by simpa[wO]using h
   have e:execOp ρ {dst,op:=.call ⟨.value (.func f),ar,H⟩,type:=B,pos,after,guard}=callFunc f ((#[]++ar.map ρ)++#[]):=by simp only[execOp,resolve,z];rfl
   rw[e]at g;obtain⟨y,I,k,p⟩:=m f u;have J:(callFunc f ((#[]++ar.map ρ)++#[])).run P v=.ok (.enter f ((#[]++ar.map ρ)++#[])) v:=by
    unfold callFunc;refine(Sem.run_bind P v _ _).trans ?_;have p: ¬y.name= "runtime.NumGoroutine" :=by simpa using p
    have k: ¬y.body=none:=λq=>by rw[q]at k;cases k
    simp[program,Sem.run,I,k,p]
   rw[J]at g;cases g;exact⟨λ_ _ h=>(by cases h;exact u),λ_ h=>(by cases h),λ_ _ _ _ _ h=>(by cases h)⟩
 case nilCheck x=>cases h
 case move x=>cases g;exact⟨λ_ _ h=>(by cases h),λ_ h=>(by cases h),λ_ _ _ _ _ h=>(by cases h)⟩
 case assign x=>cases g;exact⟨λ_ _ h=>(by cases h),λ_ h=>(by cases h),λ_ _ _ _ _ h=>(by cases h)⟩
 case pick c a b=>
  have h:=(Sem.run_bind P v (asBool (ρ c)) _).symm.trans g;cases i:(asBool (ρ c)).run P v with
  |ok x j=>rw[i]at h;cases h;exact⟨λ_ _ h=>(by cases h),λ_ h=>(by cases h),λ_ _ _ _ _ h=>(by cases h)⟩
  |halt q j=>rw[i]at h;cases h
 all_goals first|exact t _ g|exact A _ g|(simp[ij]at r;done)|(simp[wO]at h;done)
structure DF (S:List Nat) (a b:ah):Prop where
 rest:b={a with tmps:=b.tmps}
 size:b.tmps.size=a.tmps.size
 same:∀i,S.contains i=false->b.tmps[i]?=a.tmps[i]?
 items:∀i∈a.todo,iJ S i=true
 round:a.roundOf=none
 own:a.defers=[]/\a.kind=.normal
section
variable{S:List Nat}{a b:ah}
def DF.eval(D:DF S a b){x}(h:xu S x=true):b.eval x=a.eval x:=by
 cases x with
 |tmp i=>have:=D.same i (by simpa[xu]using h);simp only[Frame.eval,fR,this]
 |_=>rfl
def DF.todo(D:DF S a b){l}(h:∀i∈l,iJ S i=true):DF S {a with todo:=l} {b with todo:=l}:=
 ⟨by rw[D.rest],D.size,D.same,h,D.round,D.own⟩
def DF.finish(D:DF S a b){ops i c k}(g:a.todo=.inRegion ops (i::c)::k)(x):DF S (a.finish x) (b.finish x):=by
 have h:b.todo=.inRegion ops (i::c)::k:=by rw[D.rest];exact g
 have l:=D.items (.inRegion ops (i::c)) (by rw[g];exact ga);have e:∀j∈Item.inRegion ops c::k,iJ S j=true:=λj f=>by
  obtain rfl|f:=cm.1 f
  .exact l
  .exact D.items j (by rw[g];exact fJ _ f)
 simp only[Frame.finish,g,h];cases (ops[i]?).bind (·.dst)with
 |none=>exact⟨by rw[D.rest],D.size,D.same,e,D.round,D.own⟩
 |some d=>refine⟨by rw[D.rest],by simp[D.size],λj f=>?_,e,D.round,D.own⟩;simp only[a6k,D.size,D.same j f]
def DF.fin(D:DF S a b)(x):DF S (a.finish x) (b.finish x):=by
 have g:b.todo=a.todo:=by rw[D.rest]
 rcases f:a.todo with _|⟨i,k⟩
 .have n:a.finish x=a:=by simp[Frame.finish,f]
  have o:b.finish x=b:=by simp[Frame.finish,g,f]
  rw[n,o];exact D
 .have p:iJ S i=true:=D.items i (by rw[f];exact ga);by_cases m:∃e j d,i=.inRegion e (j::d)
  .obtain⟨e,j,d,rfl⟩:=m;exact D.finish f x
  .have h:∀c:ah,c.todo=i::k->c.finish x=c:=λc q=>by
    unfold Frame.finish;rw[q];cases i<;>first|rfl|(cases p;done)|skip
    rename_i e l;cases l with
    |nil=>rfl
    |cons j d=>exact absurd ⟨e,j,d,rfl⟩ m
   rw[h a f,h b (g.trans f)];exact D
def rc(P:ay)(S:List Nat)(cs:List ah)(f1:ah)(c1:List ah)(d:ah)(c2:List ah):Prop:=
 (c1=cs/\c2=cs/\DF S f1 d)\/(d=f1/\(∃q c,f1=Frame.enter P q c .normal/\iQ.contains q=true)/\∃a b,a.mode=.run/\c1=a::cs/\c2=b::cs/\DF S a b)
variable{P:ay}{cs:List ah}{v v':aa}{es:Array aJ}{f1:ah}{c1:List ah}{main:Bool}
def N9(D:DF S a b)(t:a.mode=.run){ops i c k}(o:a.todo=.inRegion ops (i::c)::k){s}(u:tW (s.runT P v #[]).1)(p:∀n x,(s.runT P v #[]).1=.ok n x->(∀f j,n=.enter f j->iQ.contains f=true)/\(∀d,n≠.defer d)/\∀l f z as A,n≠.round l f z as A)(h:stepG.apply P true a cs none s v=.go (an f1 c1) v' es):∃B c2,stepG.apply P true b cs none s v=.go (an B c2) v' es/\rc P S cs f1 c1 B c2:=by
 have H:b.todo=.inRegion ops (i::c)::k:=by rw[D.rest];exact o
 have I:b.kind=a.kind:=by rw[D.rest]
 have J:b.fn=a.fn:=by rw[D.rest]
 rcases C:s.runT P v #[]with⟨r,K⟩;rw[C]at u p;unfold stepG.apply at h⊢;simp only[C,if_true,o,H,I,J]at h⊢;have done:∀{g:aw} {x:aa} {e:Array aJ},GStep.go g x e=.go (an f1 c1) v' es->g=an f1 c1/\x=v'/\e=es:=λh=>by cases h;exact⟨rfl,rfl,rfl⟩
 cases r with
 |ok n x=>
  cases n<;>first|exact u.elim|skip
  case value y=>simp only[GStep.after]at h⊢;obtain⟨m,rfl,rfl⟩:=done h;obtain⟨rfl,rfl⟩:=ej m;exact⟨_,_,rfl,.inl ⟨rfl,rfl,D.finish o y⟩⟩
  case skip=>simp only[GStep.after]at h⊢;obtain⟨m,rfl,rfl⟩:=done h;obtain⟨rfl,rfl⟩:=ej m;exact⟨_,_,rfl,.inl ⟨rfl,rfl,D.finish o undef⟩⟩
  case enter f j=>simp only[GStep.after]at h⊢;obtain⟨m,rfl,rfl⟩:=done h;obtain⟨rfl,rfl⟩:=ej m;exact⟨_,_,rfl,.inr ⟨rfl,⟨_,_,rfl,(p _ _ rfl).1 _ _ rfl⟩,_,_,t,rfl,rfl,D⟩⟩
  case round l f z as A=>exact absurd rfl ((p _ _ rfl).2.2 l f z as A)
  case defer d=>exact absurd rfl ((p _ _ rfl).2.1 d)
 |halt q x=>
  cases q<;>first|exact u.elim|skip
  rename_i y;simp only[GStep.after]at h⊢;obtain⟨m,rfl,rfl⟩:=done h;obtain⟨rfl,rfl⟩:=ej m;have t:b.mode=a.mode:=by rw[D.rest]
  refine⟨_,_,rfl,.inl ⟨rfl,rfl,?_⟩⟩;unfold Frame.raise;rw[t];split<;>exact⟨by rw[D.rest],D.size,D.same,D.items,D.round,D.own⟩
theorem zq{S id}:∀{l c},exitTo id l=some c->(∀i∈l,iJ S i=true)->∀i∈c,iJ S i=true
 |[],_,h,_=>by cases h
 |x::l,c,h,e=>by
  have d:∀i∈l,iJ S i=true:=λi f=>e i (fJ _ f);cases x with
  |inBlock j=>
   simp only[exitTo]at h;split at h
   .cases h;exact d
   .exact zq h d
  |_=>exact zq (l:=l) (by simpa only[exitTo]using h) d
def Oa(Z:px P){G}(D:DF S a b)(hm:a.mode=.run)(ab:∀i∈a.todo,dt G i=true)(hn:∀f j z k o,a.todo=.inRegion f (j::z)::k->f[j]?=some o->ij G o.op=true->((f[j]?).map (Region.wanted · (yielded f a.tmps))).getD false=true->tW ((execOp a.eval o).runT P v #[]).1)(h:stepG P main (an a cs) v=.go (an f1 c1) v' es):∃K c2,stepG P main (an b cs) v=.go (an K c2) v' es/\rc P S cs f1 c1 K c2:=by
 have ad:b.mode=.run:=by rw[D.rest];exact hm
 have J:b.roundOf=none:=by rw[D.rest];exact D.round
 have hf:b.fn=a.fn:=by rw[D.rest]
 have V:b.todo=a.todo:=by rw[D.rest]
 have done:∀{g:aw} {x:aa} {e:Array aJ},GStep.go g x e=.go (an f1 c1) v' es->g=an f1 c1/\x=v'/\e=es:=λh=>by cases h;exact⟨rfl,rfl,rfl⟩
 have to:∀l,(∀i∈l,iJ S i=true)->GStep.go (an {a with todo:=l} cs) v=.go (an f1 c1) v' es->∃K c2,GStep.go (an {b with todo:=l} cs) v=.go (an K c2) v' es/\rc P S cs f1 c1 K c2:=λl hl h=>by obtain⟨R,rfl,rfl⟩:=done h;obtain⟨rfl,rfl⟩:=ej R;exact⟨_,_,rfl,.inl ⟨rfl,rfl,D.todo hl⟩⟩
 have on:∀{a2 b2:ah},DF S a2 b2->GStep.go (an a2 cs) v=.go (an f1 c1) v' es->∃K c2,GStep.go (an b2 cs) v=.go (an K c2) v' es/\rc P S cs f1 c1 K c2:=λD h=>by obtain⟨R,rfl,rfl⟩:=done h;obtain⟨rfl,rfl⟩:=ej R;exact⟨_,_,rfl,.inl ⟨rfl,rfl,D⟩⟩
 have a5Q:∀l,(∀i∈l,iJ S i=true)->DF S {fn:=a.fn,tmps:=a.tmps,todo:=l,defers:=a.defers,mode:=.returning,kind:=a.kind,roundOf:=none} {fn:=b.fn,tmps:=b.tmps,todo:=l,defers:=b.defers,mode:=.returning,kind:=b.kind,roundOf:=none}:=λl hl=>⟨by rw[D.rest],D.size,D.same,hl,rfl,D.own⟩;rw[ip hm]at h;rw[ip ad];unfold stepG.exec at h⊢;rw[V];rcases H:a.todo with _|⟨i,k⟩
 .simp only[H,D.round,J,↓reduceIte]at h⊢;exact on (a5Q [] λ_ h=>by cases h) h
 .have L:∀j∈k,iJ S j=true:=λj A=>D.items j (by rw[H];exact fJ _ A);have I:iJ S i=true:=D.items i (by rw[H];exact ga);have B:∀x y,iJ S x=true->iJ S y=true->∀j∈x::y::k,iJ S j=true:=λx y M hy j A=>by
   obtain rfl|A:=cm.1 A
   .exact M
   .rcases cm.1 A with rfl|A
    .exact hy
    .exact L j A
  have one:∀x,iJ S x=true->∀j∈x::k,iJ S j=true:=λx M j A=>by
   obtain rfl|A:=cm.1 A
   .exact M
   .exact L j A
  have U:dt G i=true:=ab i (by rw[H];exact ga);simp only[H]at h;cases i with
  |inBlock id=>exact to k L h
  |inScope c=>exact to k L h
  |inLoop c=>exact to _ (B _ _ I I) h
  |inRangeFunc l=>cases I
  |call d p q r=>cases I
  |extern r q=>cases I
  |beginRound=>cases I
  |endRangeFunc l=>cases I
  |inRegion f todo=>
   cases todo with
   |nil=>exact to k L h
   |cons j z=>
    have N:∀o∈f,qF S o=true:=by have:f.all (qF S)=true:=I;rw[gO]at this;intro o O;obtain⟨q,W,rfl⟩:=fI.1 O;exact this q W
    have hy:yielded f b.tmps=yielded f a.tmps:=funext λn=>by
     unfold yielded;cases O:f[n]? with
     |none=>rfl
     |some o=>
      have s:=N o (a6i O);simp only[qF,dW]at s;cases hd:o.dst with
      |none=>simp[hd]
      |some d=>rw[hd]at s;simp only[lH,hd,D.same d (by simpa using s.1.2)]
    dsimp only at h⊢;rw[hy];by_cases hw:((f[j]?).map (Region.wanted · (yielded f a.tmps))).getD false=true
    .rw[if_pos hw]at h⊢;unfold stepG.oper at h⊢;have e3:a.oper?=f[j]? :=by simp[Frame.oper?,H]
     have e4:b.oper?=f[j]? :=by simp[Frame.oper?,V,H]
     rw[e3]at h;rw[e4];cases O:f[j]? with
     |none=>rw[O]at h;cases h
     |some o=>
      rw[O]at h;have Q:=a6i O;have s:=N o Q;simp only[qF,dW]at s;have C:ij G o.op=true:=by simp only[dt]at U;rw[gO]at U;obtain⟨q,W,rfl⟩:=fI.1 Q;exact U q W
      have ae:execOp b.eval o=execOp a.eval o:=QF C λx M=>D.eval (by
       have:=s.1.1;rw[gO]at this;obtain⟨q,W,rfl⟩:=fI.1 M;exact this q W)
      simp only[D.round,J]at h⊢;rw[ae];exact N9 D hm H (hn f j z k o H O C hw) (λn x Y=>Yz Z (λ_=>rfl) C s.2 Y) h
    .rw[if_neg hw]at h⊢;obtain⟨R,rfl,rfl⟩:=done h;obtain⟨rfl,rfl⟩:=ej R;exact⟨_,_,rfl,.inl ⟨rfl,rfl,D.finish H undef⟩⟩
  |code c=>
   have m:lW S c=true:=I;cases c with
   |skip=>exact to k L h
   |label l=>exact to k L h
   |refuse y=>cases h
   |goto l=>cases m
   |rangeFunc g p q r=>cases m
   |seq x y=>simp only[lW,dW]at m;exact to _ (B _ _ m.1 m.2) h
   |block id x=>exact to _ (B _ _ m rfl) h
   |loop x=>exact to _ (B _ _ m m) h
   |scope x=>exact to _ (B _ _ m m) h
   |ret=>simp only[D.round,J,↓reduceIte]at h⊢;exact on (a5Q _ (one _ I)) h
   |exit id=>
    dsimp only at h⊢;cases he:exitTo id k with
    |some k'=>rw[he]at h;exact to k' (zq he L) h
    |none=>rw[he]at h;simp only[Option.elim_none,D.round,J]at h⊢;cases h
   |cond x p q=>
    simp only[lW,dW]at m;dsimp only at h⊢;rw[D.eval m.1.1];cases M:a.eval x with
    |bool t=>
     rw[M]at h;refine to _ (one _ ?_) h;cases t
     .exact m.2
     .exact m.1.2
    |_=>rw[M]at h;cases h
   |region id f X=>
    cases X with
    |false=>exact to _ (one _ m) h
    |true=>
     simp only[a6O,dj,if_false,hf]at h⊢;cases Y:(choose (.order a.fn id)).run P v with
     |ok t u=>rw[Y]at h;obtain⟨R,rfl,rfl⟩:=done h;obtain⟨rfl,rfl⟩:=ej R;have D2:=D.todo (one (.inRegion f (Region.schedule (P.follows .mixedOrders) f t)) m);simp only[hf]at D2;exact⟨_,_,rfl,.inl ⟨rfl,rfl,D2⟩⟩
     |halt q u=>rw[Y]at h;cases h
end
section
variable{lk:Prop}{lz:Nat->Obj->Prop}{T:Tables}{F F':Array Func}{E:bc->Prop}{cs:List ah}{trap:ah}{below:List ah}{D:Nat->Prop}{aj:Nat->Nat}{w v w':aa}{fr:ah}{gs:List ah}{rf:ah}{ag:List ah}{g':aw}{es:Array aJ}
def X6(m:Twin T F F' E)(R:fg lk lz T cs D aj w v fr gs rf ag)(t:fr.mode=.run)(n:fr.roundOf=none)(h:stepG ⟨T,F⟩ true (an fr (gs++trap::below)) w=.go g' w' es)(u:gy w v w'.drawn):∀ops j d k o,rf.todo=.inRegion ops (j::d)::k->ops[j]?=some o->ij T.globals.size o.op=true->((ops[j]?).map (Region.wanted · (yielded ops rf.tmps))).getD false=true->tW ((execOp rf.eval o).runT ⟨T,F'⟩ v #[]).1:=by
 intro ops j d k o c y p s;have h0:=(R.aZ _ (aN R.heap 0)).1;have z:yielded ops rf.tmps=yielded ops fr.tmps:=by rw[h0];funext q;exact JH ops fr.tmps q
 rw[z]at s;obtain⟨k0,e⟩:∃k0,fr.todo=.inRegion ops (j::d)::k0:=by
  rw[h0]at c;simp only[aR]at c;rcases g:fr.todo with _|⟨i,k0⟩
  .rw[g]at c;simp at c
  .rw[g,cA,f9]at c;cases i<;>simp[cB]at c;obtain⟨⟨rfl,rfl⟩,_⟩:=c;exact⟨k0,rfl⟩
 have r:∀f,aQ D aj f->∀x,jS T.globals.size x=true->rf.eval x=ak f (fr.eval x):=λf l x A=>by rw[(R.aZ f l).1];exact vf f (nA m R.low l).low fr x A
 rw[ip t]at h;unfold stepG.exec at h;simp only[e]at h;rw[if_pos s]at h;unfold stepG.oper at h;have B:fr.oper?=ops[j]? :=by simp[Frame.oper?,e]
 rw[B,y]at h;simp only[n]at h;exact L2 m R (λf l=>uL (nA m R.low l) m (r f l) o p) h u
end
def ug{f}(h:aQ (λ_=>True) id f):f=id:=funext λb=>h.on b trivial
def pz:aQ (λ_=>True) id id:=⟨λ_ _=>rfl,λ_ _ h=>h⟩
def Ze(e):cz id e=e:=by
 obtain⟨a,wr,b⟩:=e;cases a with
 |mark m=>cases m<;>rfl
 |_=>rfl
def a0w{G w}(h:cO G w):cL True wB G (λ_=>True) id w w:=by
 refine⟨λ_ _=>.inl trivial,λ_ _=>.inl trivial,λ_ _ _ _ h=>h,λf c b _=>.inl ⟨?_,λ_ h=>h.elim⟩,λb o _ d=>h b o d,λ_=>⟨λb=>⟨trivial,rfl⟩,rfl⟩⟩;rw[ug c];cases a:w.heap[b]? with
 |none=>simp[a]
 |some o=>simp[a,qp]
section
variable{T:Tables}{F:Array Func}{fr law:ah}{gs below:List ah}{w w':aa}{g':aw}{es:Array aJ}
def MC(g:Twin T F F (λ_=>False))(o:∀v,law.mode=.panicking v->∀e∈v,e.recovered=false)(A:cJ T.globals.size fr)(p:∀x∈gs,cJ T.globals.size x)(k:cO T.globals.size w)(h:stepG ⟨T,F⟩ true (an fr (gs++law::below)) w=.go g' w' es)(cs main):(∃a gs1,g'=an a (gs1++law::below)/\cJ T.globals.size a/\(∀x∈gs1,cJ T.globals.size x)/\cO T.globals.size w'/\stepG ⟨T,F⟩ main (an fr (gs++cs)) w=.go (an a (gs1++cs)) w' es)\/(gs=[]/\∃t,g'=an t below/\mo law t):=by
 have l:aR id=id:=funext qo;have R:fg True wB T cs (λ_=>True) id w w fr gs fr (gs++cs):=⟨a0w k,rfl,λ_ _=>⟨trivial,rfl⟩,k,A,p,λf B=>by rw[ug B,l];simp⟩;obtain⟨C,d,q,r,rg,y,c,D⟩|E:=tF (main:=main) o g R h (λi _=>rfl)
 .have H:C=λ_=>True:=funext λb=>propext ⟨λ_=>trivial,λ_=>(c.more b trivial).1⟩;have I:d=id:=funext λb=>(c.more b trivial).2;subst H I;obtain⟨a,gs1,J,z,K,rfl,m⟩|⟨_,_,_,_,_,_,_,_,L,_⟩:=D
  .obtain⟨j,s,u⟩:=c.drawn;have M:q=w':=by
    have N:q.heap=w'.heap:=a6C λb=>by have:=((m.heap.jn id pz b trivial).resolve_right λ⟨_,_,_,_,h⟩=>h).1;simp only[id]at this;rw[this];cases w'.heap[b]? <;>simp[qp]
    have O:=c.tape;have P:=c.nT;have Q:=c.os;have S:=c.mV;have U:=c.output;have V:=c.po;obtain⟨X,Y,Z,vo,vu⟩:=q;obtain⟨wh,wt,wd,wo,wu⟩:=w';simp only at*;subst N O P Q S U V;simp[s,u]
   subst M;have W:r=es:=by rw[c.ev id pz];have:cz id=id:=funext Ze;simp[this]
   subst W;have n:=m.aZ id pz;rw[l]at n;simp only[id,List.map_id]at n;rw[n.1,n.2]at y;exact .inl ⟨a,gs1,K,m.ok,m.cF,m.all,y⟩
  .exact L.1.elim
 .exact .inr E
end
end Go.Mir
end
section
namespace Go.Mir
open Go.Conc
section
variable{T:Tables}{F:Array Func}{law:ah}{Stop:ah->List ah->aa->Prop}{f:bc}
def iN(f:bc)(fr:ah)(gs:List ah):Prop:=∀b,(fr::gs).getLast?=some b->b.fn=f/\b.kind=.normal/\b.roundOf=none
def iN.jQ{fr fr1 gs}(h:iN f fr gs)(a:mi fr fr1):iN f fr1 gs:=by
 intro b d;cases gs with
 |nil=>simp only[a7K,cw]at d;subst d;obtain⟨e,g,i⟩:=h fr rfl;exact⟨a.1.trans e,a.2.1.trans g,a.2.2.trans i⟩
 |cons c gs=>exact h b (by simpa using d)
def iN.push{fr fr1 a gs}(h:iN f fr gs)(c:mi fr a):iN f fr1 (a::gs):=λb d=>(h.jQ c) b (by simpa using d)
def iN.pop{fr fr1 c gs}(h:iN f fr (c::gs))(a:mi c fr1):iN f fr1 gs:=
 iN.jQ (fr:=c) (λb d=>h b (by simpa using d)) a
def iN.step{fr fr1 t gs gs1 L Q}(h:iN f fr gs)(d:xT Q fr (gs++t::L) fr1 (gs1++t::L)):iN f fr1 gs1:=by
 obtain⟨a,b⟩|⟨e,a,b⟩|⟨c,a,b,_⟩:=d
 .obtain rfl:=a6o a;exact h.jQ b
 .obtain rfl:gs1=e::gs:=a6o (bs:=t::L) (by simpa using a);exact h.push b
 .obtain rfl:gs=c::gs1:=a6o (bs:=t::L) (by simpa using a);exact h.pop b
def Lq(P:ay)(Stop:ah->List ah->aa->Prop)(Z:ah->List ah->aa->Prop)(law:ah)(fr:ah)(gs:List ah)(w:aa):Prop:=
 gs=[]/\fr.mode=.returning/\fr.defers=[]/\fr.kind=.normal/\Fin P (aB P) Stop fr [law] w/\Z fr [law] w
def Zo{P main a c c' cs v v' g es}(k:a.mode=.returning)(m:a.defers=[])(l:a.kind=.normal)(h:stepG P main (an a (c::cs)) v=.go g v' es):∃x,g=an (c.finish x) cs/\∀b,stepG P main (an a (c'::b)) v=.go (an (c'.finish x) b) v' es:=by
 have e:∀c cs,stepG P main (an a (c::cs)) v=match P.funcs[a.fn]? with
   |none=>.go (an (c.finish (a.tmps.getD 0 undef)) cs) v
   |some d=>GStep.after (seen P a.fn ((results d a.tmps).runT P v #[]).2)<|match ((results d a.tmps).runT P v #[]).1 with
    | .ok x w=>.go (an (c.finish x) cs) w
    | .halt (.stuck s) w=>.ended (.stuck s (a.pos P)) w
    | .halt _ w=>.ended (.stuck "return: the result variables cannot be read" (a.pos P)) w:=λc cs=>by
  rw[j4 (by rw[k];simp)];unfold unwind;rw[m];dsimp only;rw[k];dsimp only;cases P.funcs[a.fn]? with
  |none=>simp only[doReturn,l];rfl
  |some d=>
   dsimp only;congr 1;cases ((results d a.tmps).runT P v #[]).1 with
   |ok x w=>simp only[doReturn,l];rfl
   |halt q w=>cases q<;>rfl
 rw[e]at h;cases i:P.funcs[a.fn]? with
 |none=>rw[i]at h;cases h;exact⟨_,rfl,λb=>by rw[e,i]⟩
 |some d=>
  rw[i]at h;dsimp only at h;cases j:((results d a.tmps).runT P v #[]).1 with
  |ok x w=>rw[j]at h;simp only[GStep.after]at h;cases h;exact⟨x,rfl,λb=>by rw[e,i];dsimp only;rw[j];rfl⟩
  |halt q w=>rw[j]at h;cases q<;>(simp only[GStep.after]at h;cases h)
def Hf{P main a c cs e}(d:a.mode=.panicking e)(i:a.defers=[])(v){g v' es}(h:stepG P main (an a (c::cs)) v=.go g v' es):∃b,g=an (c.raise b) cs:=by
 rw[j4 (by rw[d];simp)]at h;unfold unwind at h;rw[i]at h;dsimp only at h;rw[d]at h;dsimp only at h;split at h
 .cases h
 .cases h;exact⟨_,rfl⟩
def QZ(k:Twin T F F (λ_=>False))(n:∀fr X w,Stop fr X w->X=[]/\fr.mode=.returning)(K:law.mode=.run)(L:law.defers=[]){Z}(hZ:∀fr gs w p a Y es τ d,Z fr gs w->¬Stop fr gs w->stepG ⟨T,F⟩ true (an fr (gs++[aB ⟨T,F⟩])) (re w τ d)=.go (an p (a++[aB ⟨T,F⟩])) Y es->Z p a Y){fr M w}(hF:Fin ⟨T,F⟩ (aB ⟨T,F⟩) Stop fr M w):∀gs,M=gs++[law]->Z fr (gs++[law]) w->cJ T.globals.size fr->(∀x∈gs,cJ T.globals.size x)->cO T.globals.size w->iN f fr gs->Fin ⟨T,F⟩ (aB ⟨T,F⟩) (Lq ⟨T,F⟩ Stop Z law) fr gs w:=by
 induction hF with
 |stop N=>intro gs e;have:=(n _ _ _ N).1;rw[e]at this;simp at this
 | @step fr M w v D y E h z ih=>
  intro gs e hz ok O P r;subst e;have Q: ¬Stop fr (gs++[law]) w:=λq=>by have:=(n _ _ _ q).1;simp at this
  have R:∀H,law.mode=.panicking H->∀e∈H,e.recovered=false:=λH q=>by rw[K]at q;cases q
  have I:∀τ d,stepG ⟨T,F⟩ true (an fr (gs++law::[aB ⟨T,F⟩])) (re w τ d)=.go (an (v τ d) (D τ d++[aB ⟨T,F⟩])) (y τ d) (E τ d):=λτ d=>by
   have:=h τ d
   rwa [kc]at this
  have l:∀τ d,cO T.globals.size (re w τ d):=λτ d b o ho=>P b o ho;by_cases hp:gs=[]/\fr.mode≠.run/\fr.defers=[]
  .obtain⟨rfl,hm,hd⟩:=hp;obtain⟨b1,b2,_⟩:=r fr rfl;cases s:fr.mode with
   |run=>exact absurd s hm
   |returning=>exact .stop ⟨rfl,s,hd,b2,.step v D y E h z,hz⟩
   |panicking H=>
    exfalso;obtain⟨A,S⟩:=Hf s hd _ (I w.tape w.drawn);obtain⟨U,B⟩:=ej S;have B:=jA (b:=[]) B;have hc:=z w.tape w.drawn;rw[U,B]at hc;have i:∃c2,(law.raise A).mode=.panicking c2:=by unfold Frame.raise;split<;>exact⟨_,rfl⟩
    have V:(law.raise A).defers=[]:=by unfold Frame.raise;split<;>exact L
    obtain⟨c2,i⟩:=i;cases hc with
    |stop N=>have:=(n _ _ _ N).2;rw[i]at this;cases this
    |step ab ad ae ag h2 _=>obtain⟨_,q⟩:=Hf i V _ (h2 w.tape w.drawn);have:=(ej q).2;simp at this
  .have g:∀τ d,∃a,D τ d=a++[law]/\cJ T.globals.size (v τ d)/\(∀x∈a,cJ T.globals.size x)/\cO T.globals.size (y τ d)/\iN f (v τ d) a/\stepG ⟨T,F⟩ true (an fr (gs++[aB ⟨T,F⟩])) (re w τ d)=.go (an (v τ d) (a++[aB ⟨T,F⟩])) (y τ d) (E τ d):=by
    intro τ d;obtain⟨al,ao,w2,W,u,j⟩|⟨o,w2,W,m⟩:=I0 (cs:=gs++law::[aB ⟨T,F⟩]) k ok (l τ d) (by simp);rotate_left
    .rw[I τ d]at m;cases m
    rw[I τ d]at u;simp only[GStep.go.injEq]at u;obtain⟨S,_,_⟩:=u;obtain⟨e2,U⟩:=ej S;subst e2 U;obtain⟨p,a,g1,g2,g3,g4,g5⟩|⟨rfl,t,C,_⟩:=MC k R ok O (l τ d) (I τ d) [aB ⟨T,F⟩] true
    .obtain⟨B,J⟩:=ej g1;subst B;have e6:D τ d=a++[law]:=jA (x:=aB ⟨T,F⟩) (by rw[J,kc];rfl);rw[J]at j;exact⟨a,e6,g2,g3,g4,r.step j,g5⟩
    .exfalso;have J:=(ej C).2;rw[J]at j;obtain⟨q,_⟩|⟨f2,q,_⟩|⟨c,_,_,q⟩:=j
     .have:=congrArg List.length q;simp at this
     .have:=congrArg List.length q;simp at this
     .rcases q with q|q
      .exact q (r fr rfl).2.2
      .exact hp ⟨rfl,q⟩
   refine .step v (λτ d=>(g τ d).choose) y E (λτ d=>(g τ d).choose_spec.2.2.2.2.2) λτ d=>?_;obtain⟨s1,s2,s3,s4,s5,_⟩:=(g τ d).choose_spec;refine ih τ d _ s1 ?_ s2 s3 s4 s5;rw[<-s1];exact hZ _ _ _ _ _ _ _ τ d hz Q (h τ d)
end
end Go.Mir
end
section
namespace Go.Mir
open Go.Conc
open Go.ConcN (sumTo upd sumTo_upd upd_ne upd_same)
section
variable{T:Tables}{F F':Array Func}{E:bc->Prop}{Z:Nat->Prop}{K:Nat->Obj}{D:Nat->Prop}{aj:Nat->Nat}{u v u1:aa}{fr fr1 rf rd:ah}{gs1:List ah}{es:Array aJ}{main:Bool}{S:List Nat}
def XK{G f}(i)(h:dt G i=true):dt G (cB f i)=true:=by cases i<;>first|exact h|(simp[dt]at h)
def T7(tw:Twin T F F' E)(m:Twin T F F (λ_=>False))(cT:ib T F)(O:px ⟨T,F'⟩)(hE:∀q,iQ.contains q=true->¬E q)(R:dS T Z K [] D aj u v fr [] rf [])(DR:DF S rf rd)(hm:fr.mode=.run)(P:fr.roundOf=none)(h:stepG ⟨T,F⟩ true (an fr ([]++[aB ⟨T,F⟩])) (re u v.tape v.drawn)=.go (an fr1 (gs1++[aB ⟨T,F⟩])) u1 es):∃(s:Nat->Prop) (c:Nat->Nat) (n:aa) (j:Array aJ) (l:ah) (c2:List ah) (x o:aa),stepG ⟨T,F'⟩ main (an rd []) v=.go (an l c2) n j/\bK Z K o u1/\a5J D s aj c x o v n es j/\dh T.globals.size s c o n/\((gs1=[]/\c2=[]/\∃B,Rel T [] s c o n fr1 [] B []/\DF S B l)\/(∃f p C q,iQ.contains q=true/\fr1.fn=q/\fr1.kind=.normal/\fr1.roundOf=none/\f.mode=.run/\gs1=[f]/\c2=[C]/\DF S p C/\Rel T [] s c o n fr1 [f] l [p])):=by
 have R2:=R;obtain⟨x0,H,t⟩:=R;obtain⟨x1,h1,_,_⟩:=Fa (cs:=[]++[aB ⟨T,F⟩]) m cT (u:=re u v.tape v.drawn) (w:=re x0 v.tape v.drawn) t.ok (pA (H.re v.tape v.drawn) (t.ls v.tape v.drawn).all) (by simp) (H.re _ _) _ _ _ _ h;have hn:=X6 (below:=[]) tw (t.ls v.tape v.drawn) hm P h1 (λi _=>rfl);have h0:=(t.aZ _ (aN t.heap 0)).1;have Q:rf.mode=.run:=by rw[h0];simp[aR,hm,eB]
 have I:∀i∈rf.todo,dt T.globals.size i=true:=λi U=>by rw[h0]at U;simp only[aR,eS]at U;obtain⟨i0,h3,rfl⟩:=U;exact XK i0 (t.ok.items i0 h3)
 obtain⟨s,c,n,j,rg,x,o,V,W,hG,_,hh,hc⟩:=rY (main:=main) tw m cT h R2;have J:∀X c1,rg=an X c1->∃l c2,stepG ⟨T,F'⟩ main (an rd []) v=.go (an l c2) n j/\rc ⟨T,F'⟩ S [] X c1 l c2:=λX c1 e=>Oa O DR Q I hn (by rw[V,e]);obtain⟨Y,aq,e,r⟩|⟨q,L,k,ab,f,au,p,ar,ad,A,e2,e,ha,r⟩:=hc
 .obtain⟨l,c2,hs,ht⟩:=J _ _ e;refine⟨s,c,n,j,l,c2,x,o,hs,W,hG,hh,?_⟩;have M:=(r.aZ _ (aN r.heap 0)).2;have ae:=(r.aZ _ (aN r.heap 0)).1;obtain⟨rfl,rfl,d⟩|⟨rfl,⟨q,L,g,V⟩,a,b,N,rfl,rfl,d⟩:=ht
  .have:gs1=[]:=by simpa using M.symm
   subst this;exact .inl ⟨rfl,rfl,Y,r,d⟩
  .have A:fr1.fn=q/\fr1.kind=.normal/\fr1.roundOf=none:=by
    rw[ae]at g;have A:=congrArg Frame.fn g;have e2:=congrArg Frame.kind g;have e3:=congrArg Frame.roundOf g;refine⟨A,e2,?_⟩;simp only[aR,Frame.enter]at e3;cases hx:fr1.roundOf with
    |none=>rfl
    |some z=>rw[hx]at e3;simp at e3
   obtain _|⟨f,_|⟨y,z⟩⟩:=gs1
   .simp at M
   .refine .inr ⟨f,a,b,q,V,A.1,A.2.1,A.2.2,?_,rfl,rfl,d,r⟩;simp only[cA,d7,a6W,f9,and_true]at M;rw[M]at N;cases ag:f.mode<;>simp[aR,ag,eB]at N;rfl
   .simp at M
 .exfalso;obtain⟨l,c2,hs,ht⟩:=J _ _ e;obtain⟨q1,_,_⟩|⟨_,⟨q',al,g,ao⟩,_⟩:=ht
  .cases q1
  .have:q=q':=congrArg Frame.fn g;subst this;exact hE q ao ad.1
end
end Go.Mir
end
section
namespace Go.Mir
open Go.Conc
open Go.ConcN (sumTo)
section
variable{T:Tables}{F F':Array Func}{E:bc->Prop}
def py(f:bc)(k:Tmp)(Rr:af->aa->Prop)(fr:ah)(a:List ah)(w:aa):Prop:=
 a=[]/\fr.fn=f/\fr.mode=.returning/\fr.defers=[]/\fr.kind=.normal/\Rr (fr.tmps.getD k undef) w
def Shut(W:aa)(args:Array af):Prop:=∀g:Nat->Nat,(∀a b,g a=g b->a=b)->(∀b,b<W.heap.size->g b=b)->args.map (ak g)=args/\∀(b:Nat) o,W.heap[b]?=some o->ct g o=o
def XH(b:Twin T F F (λ_=>False)){f:bc}{fn c}(g:F[f]?=some fn)(d:fn.body=some c):cV T.globals.size c=true:=by
 obtain⟨h,e,_,_,_,_,i⟩:=b.each f fn g;obtain⟨c1,_,e,_,j,k⟩|⟨a,_⟩|⟨a,_⟩:=i
 .rw[d]at e;cases e;exact j
 .rw[d]at a;cases a
 .rw[d]at a;cases a
def sP(a:Twin T F F (λ_=>False)){f fn c}(b:F[f]?=some fn)(e:fn.body=some c)(args):cJ T.globals.size (Frame.enter ⟨T,F⟩ f args .normal):=by refine⟨λi g=>?_,λd j=>by simp[Frame.enter]at j,.inl rfl,λh=>by simp[Frame.enter]at h,λh=>by simp[Frame.enter]at h,λc h=>by simp[Frame.enter]at h⟩;simp only[Frame.enter,b,e,lH,i6,ft]at g;subst g;exact XH a b e
def Bc{f fn c}(d:F[f]?=some fn)(e:fn.body=some c){args a}(g)(b:a=args.map (ak g)):Frame.enter ⟨T,F⟩ f a .normal=aR g (Frame.enter ⟨T,F⟩ f args .normal):=by simp only[Frame.enter,aR,d,e,Option.map_some,i6,lH,cA,d7,cB,eB,kl];congr 1;rw[iM,<-b,a6R];simp[undef,b]
def S7{W args}(e:Shut W args)(d:cO T.globals.size W):dh T.globals.size (λb=>b<W.heap.size) id W W:=by
 refine dh.mk (λb c=>c) (λb c=>c) (λa b _ _ h=>h) (λg f b c=>?_) λb o _ i=>d b o i;have:=(e g f.inj λb c=>f.on b c).2 b;simp only[id];cases j:W.heap[b]? with
 |none=>rfl
 |some o=>rw[Option.map_some,this o j]
def EM(j:Twin T F F (λ_=>False))(u:T.inits.idxOf? F.size=none){f:bc}{fn:Func}{c:Code}{k:Tmp}(v:F[f]?=some fn)(m:fn.body=some c)(o:fn.results=#[.tmp k]){args:Array af}{U:aa}(p:T.globals.size+1<=U.heap.size)(q:Shut U args)(l:cO T.globals.size U){Rr:af->aa->Prop}(y:∀x w τ d,Rr x (re w τ d)->Rr x w)(J:∀τ,Calls ⟨T,F⟩ f args (re U τ 0) fun| .returned x,z=>Rr x z|_,_=>False):Fin ⟨T,F⟩ (aB ⟨T,F⟩) (py f k Rr) (Frame.enter ⟨T,F⟩ f args .normal) [] U:=by
 have L:a5T T (λb=>b<U.heap.size) U (Frame.enter ⟨T,F⟩ f args .normal) []:=
  ⟨S7 q l,λb m=>cG m p,l,sP j v m args,λx K=>(by cases K),λg H=>⟨Bc v m g ((q g H.inj λb m=>H.on b m).1).symm,rfl⟩⟩
 have A:∀r B w τ d,py f k Rr r B (re w τ d)->py f k Rr r B w:=λr B w τ d h=>⟨h.1,h.2.1,h.2.2.1,h.2.2.2.1,h.2.2.2.2.1,y _ _ _ _ h.2.2.2.2.2⟩;refine Cq j u A L (λτ=>?_);obtain⟨e,z,r,C,a,s,i⟩:=J τ [aB ⟨T,F⟩];cases e with
 |panicked D=>exact C.elim
 |outgrown=>exact C.elim
 |returned x=>obtain⟨n,M⟩:=a;obtain⟨N,O,P,fn1,t,I⟩:=i;refine⟨n,r,[],z,M,rfl,s,N,O,P,?_⟩;rw[s]at t;have t:F[f]?=some fn1:=t;rw[v]at t;cases t;rw[results_tmp o]at I;cases I;exact C
end
end Go.Mir
end
section
namespace Go.Mir
open Go Go.Conc
open Go.ConcN (sumTo upd sumTo_upd upd_ne upd_same)
section
variable{P:ay}{trap:ah}{Stop:ah->List ah->aa->Prop}{fr fr':ah}{gs ab:List ah}{w w':aa}
theorem lp(w):re w w.tape w.drawn=w:=rfl
def Reach.trans{fr1 fr2 a gs1 b c e f w3}(h:Reach P trap Stop fr1 gs1 e fr2 b f)(k:Reach P trap Stop fr2 b f a c w3):Reach P trap Stop fr1 gs1 e a c w3:=by
 induction h with
 |refl=>exact k
 |step τ d g i _ j=>exact .step τ d g i (j k)
def rW(hF:Fin P trap Stop fr gs w)(c: ¬Stop fr gs w)(τ d):∃a b w1 e,stepG P true (an fr (gs++[trap])) (re w τ d)=.go (an a (b++[trap])) w1 e/\Fin P trap Stop a b w1:=by
 cases hF with
 |stop f=>exact absurd f c
 |step i j k l h g=>exact⟨_,_,_,_,h τ d,g τ d⟩
def lN(e:∀fr o w,Stop fr o w->o=[])(f:gs≠[]){cs}(a:cs=gs++[trap]):∀{n} {g g'},aS P true n g g'->∀{fr},g=an fr cs->(∀i,i<=n->(aG P true i g).callers=cs)->Fin P trap Stop fr gs w->∃fr',g'=an fr' cs/\Fin P trap Stop fr' gs w/\Reach P trap Stop fr gs w fr' gs w:=by
 intro n g g' h;induction h with
 |nil=>intro fr b _ hF;exact⟨fr,b,hF,.refl⟩
 | @cons n g g1 z A b h q=>
  intro fr j p hF;subst j;have c: ¬Stop fr gs w:=λh=>f (e _ _ _ h);obtain⟨k,d,B,C,l,r⟩:=rW hF c w.tape w.drawn;rw[lp,<-a,b w]at l;simp only[GStep.go.injEq]at l;obtain⟨m,s,_⟩:=l;subst s;have t:aG P true 1 (an fr cs)=g1:=by unfold aG;rw[b default];rfl
  have u:g1.callers=cs:=by rw[<-t];exact p 1 (by omega)
  have v:d=gs:=by
   have:(an k (d++[trap])).callers=cs:=by rw[<-m];exact u
   simp only[an]at this;rw[a]at this;exact a6o this
  subst v;obtain⟨fr',q1,x,q3⟩:=q (m.trans (by rw[<-a])) (λi D=>by
   have:=p (i+1) (by omega);have y:aG P true (i+1) (an fr cs)=aG P true i g1:=by
    conv=>lhs;unfold aG
    rw[b default]
   rw[y]at this;exact this) r
  exact⟨fr',q1,x,.step w.tape w.drawn c (by rw[lp,<-a,b w,m,<-a]) q3⟩
def EN[ne:mj P](e:∀fr p w,Stop fr p w->p=[])(f:gs≠[])(hF:Fin P trap Stop fr gs w){s}(t:∀w,stepG P true (an fr (gs++[trap])) w=stepG.apply P true fr (gs++[trap]) none s w)(v:(fr.kind==.early)=false)(τ d)(y:∀r c,s.runT P (re w τ d) #[]=(r,c)->(∃x w1,r=.ok (.value x) w1)\/(∃h w1,r=.halt h w1/\eO h=true)):∃x w1 c,s.runT P (re w τ d) #[]=(.ok (.value x) w1,c)/\Fin P trap Stop (fr.finish x) gs w1/\Reach P trap Stop fr gs w (fr.finish x) gs w1:=by
 have b: ¬Stop fr gs w:=λh=>f (e _ _ _ h);obtain⟨g,i,w1,c,a,z⟩:=rW hF b τ d;rcases j:s.runT P (re w τ d) #[]with⟨r,k⟩;obtain⟨x,l,rfl⟩|⟨h,l,rfl,A⟩:=y _ _ j
 .have B:=a;rw[t]at a;unfold stepG.apply at a;simp only[j,if_true,v,dj,if_false,GStep.after,GStep.go.injEq]at a;obtain⟨C,D,_⟩:=a;subst D;have m:an (fr.finish x) (gs++[trap])=an g (i++[trap]):=C;obtain⟨E,n⟩:=ej m;have n:=jA n;subst E n;exact⟨x,l,k,rfl,z,.step τ d b B .refl⟩
 .exfalso;rw[t]at a;unfold stepG.apply at a;simp only[j,if_true,v,dj,if_false]at a;cases h<;>simp[eO]at A
  .rename_i u;cases u<;>first|(cases a;done)|(obtain⟨o,H,F,q⟩:=ne.early fr (gs++[trap]) none (by assumption) l;simp only[q,GStep.after]at a;cases a)
  .cases a
end
section
variable{P:ay}{SB:Nat->Prop}
def qk{g}{v:aa}{d}(O:g.status=.running){Q:Nat->aw->aa->Array aJ->Prop}(R:∀c,∃k b es,stepG P true g (v.at c)=.go k b es/\v.heap.size<=b.heap.size/\(∀e∈es,EvM (cK SB) b.heap.size e)/\Q c k b es):∀gs t q sl c,gs[0]?=some g->Leavers P t gs q->dO (cK SB) v.heap.size t->Deaf t 0=d->∃N ab a n s u k b es,runNT P N (crowd gs (v.at c) sl) t=(.next (crowd ab b a),n)/\ab.size=gs.size/\ab[0]?=some k/\Leavers P n ab s/\dO (cK SB) b.heap.size n/\Deaf n 0=deafBehind d es/\Q u k b es:=by
 have x:∀(M:Nat) (gs:Array aw) (t:aY) (q:Nat->Nat) (sl:Option (Nat×Nat)) (c:Nat),sumTo gs.size q<=M->gs[0]?=some g->Leavers P t gs q->dO (cK SB) v.heap.size t->Deaf t 0=d->
   ∃N ab a n s u k b es,runNT P N (crowd gs (v.at c) sl) t=(.next (crowd ab b a),n)/\ab.size=gs.size/\ab[0]?=some k/\Leavers P n ab s/\dO (cK SB) b.heap.size n/\Deaf n 0=deafBehind d es/\Q u k b es:=by
  intro M;induction M with
  |zero=>
   intro gs t q sl c S h0 y C D;obtain⟨e,a,m⟩|⟨e,a,ab,s,o,m,z,A,B,E,_,_⟩:=lQ (P:=P) (v:=v.at c) (sl:=sl) y h0 O
   .have f:0<gs.size:=(bW.1 h0).1;obtain⟨k,b,es,p,F,H,I⟩:=R e;have h:=runT_crowd_go (P:=P) (sl:=a) (i:=0) h0 (show stepG P (0==0) g (v.at e)=_ from p);exact⟨1,_,a,_,q,e,k,b,es,by simp only[runNT,m];rw[show((v.at c).at e)=v.at e from rfl,h],by simp,by simp[f],lf y f,(C.mono F).own H,by rw[Deaf_own,D],I⟩
   .omega
  |succ M J=>
   intro gs t q sl c S h0 y C D;obtain⟨e,a,m⟩|⟨e,a,ab,s,o,m,z,A,B,E,⟨i,hi,l⟩,_⟩:=lQ (P:=P) (v:=v.at c) (sl:=sl) y h0 O
   .have f:0<gs.size:=(bW.1 h0).1;obtain⟨k,b,es,p,F,H,I⟩:=R e;have h:=runT_crowd_go (P:=P) (sl:=a) (i:=0) h0 (show stepG P (0==0) g (v.at e)=_ from p);exact⟨1,_,a,_,q,e,k,b,es,by simp only[runNT,m];rw[show((v.at c).at e)=v.at e from rfl,h],by simp,by simp[f],lf y f,(C.mono F).own H,by rw[Deaf_own,D],I⟩
   .obtain⟨N,K,L,n,T,u,k,b,es,U,V,W,X,Y,Z,h6⟩:=J ab (t++o) s a e (by omega) A B (C.mute (λr j=>(l r j).1) (λr j=>(l r j).2.1) (λr j=>(l r j).2.2 _)) (by rw[Deaf_other t (g':=i) (by omega) o (λr j=>(l r j).1)];exact D);exact⟨N+1,K,L,n,T,u,k,b,es,by simp only[runNT,m];exact U,V.trans z,W,X,Y,Z,h6⟩
 exact λgs t q sl c=>x _ gs t q sl c (aF _)
def lA{a n g g'}(h:aS P true n g g')(v d):Row P a g v d g' v d:=by
 induction h with
 |nil=>exact .nil
 |cons b e _ f=>exact .cons #[] b (λc=>e _) (aF _) (by simp) (by simpa[deafBehind]using f)
end
end Go.Mir
end
