import Derived.Test.YtdnpeefnobjfaaaGreatDoorK08
set_option maxRecDepth 100000
set_option maxHeartbeats 4000000
set_option linter.all false
section
namespace Go.Mir
def qw{P Q f α β R}:∀(s:Sem α) (s':Sem β) (w) (es),aE P Q f R s s'->cO P.globals.size w->∀a w' i,s.runT P w es=(.ok a w',i)->∃b,R a b:=by
 intro s;induction s with
 |pure a=>intro s' w es g h l w' i d;cases s'<;>simp only[aE]at g;cases d;exact⟨_,g⟩
 |load m a k j=>
  intro s' w es g h l w' i d;cases s'<;>simp only[aE]at g;simp only[Sem.runT]at d;split at d
  .exact j _ _ _ _ (g.2.2 _) h _ _ _ d
  .split at d
   .exact j _ _ _ _ (g.2.2 _) h _ _ _ d
   .cases d
 |store m a v k j=>
  intro s' w es g h l w' i d;cases s'<;>simp only[aE]at g;have z:cO P.globals.size (w.setCell a v):=h.modify λo A=>by cases o<;>exact A
  have C:(∀c,v≠Value.agg c)->(∀c,v≠Value.tuple c)->∃b,R l b:=by
   intro H I;have J:Sem.runT P (.store m a v k) w es=match w.cell? a with
     |some _=>if w.frozen? a then (.halt (.unsupported (.unsafePointer "a write to bytes that a string shares")) w,es)else k.runT P (w.setCell a v) (es.push ⟨.cell a,true,m==.atomic⟩)
     |none=>match w.farStore P a v (m==.atomic)with
      | .ok (w,p)=>k.runT P w (es++p.toArray.map (⟨.cell ·,true,m==.atomic⟩))
      | .error h=>(.halt h w,es):=by
    cases v<;>first|rfl|exact absurd rfl (H _)|exact absurd rfl (I _)
   rw[J]at d;split at d
   .split at d
    .cases d
    .exact j _ _ _ g.2.2.2 z _ _ _ d
   .cases D:w.farStore P a v (m==.atomic)with
    |ok q=>
     obtain⟨K,t⟩:=q;rw[D]at d;have u:=(kG (P:=P) (Q:=Q) (f:=f) (R:=R) (.store m a v (.halt (.stuck "")):Sem α) (.store m (aH f a) (ak f v) (.halt (.stuck "")):Sem β) w #[] ⟨rfl,rfl,rfl,aD _ _⟩ h).1;have L:Sem.runT P (.store m a v (.halt (.stuck "")):Sem α) w #[]=(.halt (.stuck "") K,#[]++t.toArray.map (⟨.cell ·,true,m==.atomic⟩)):=by
      have y:w.cell? a=none:=by assumption
      cases v<;>first|exact absurd rfl (H _)|exact absurd rfl (I _)|simp only[Sem.runT,y,D]
     rw[L]at u;exact j _ _ _ g.2.2.2 u _ _ _ d
    |error e=>rw[D]at d;cases d
  cases v<;>first|(cases d;done)|exact C (by simp) (by simp)
 |new o k j=>
  intro s' w es g h l w' i d;cases s'<;>simp only[aE]at g;refine j _ _ _ _ (g.2.2 _) ?_ _ _ _ d;intro b x B;rw[fe]at B;split at B
  .cases B;exact g.2.1.1
  .exact h b x B
 |shape r k j=>intro s' w es g h l w' i d;cases s'<;>simp only[aE]at g;exact j _ _ _ _ (g.2 _) h _ _ _ d
 |freeze a n k j=>
  intro s' w es g h l w' i d;cases s'<;>simp only[aE]at g;refine j _ _ _ g.2.2 ?_ _ _ _ d;unfold World.freeze;split
  .exact h
  .exact h.modify λo A=>by cases o<;>exact A
 |frozen a k j=>intro s' w es g h l w' i d;cases s'<;>simp only[aE]at g;exact j _ _ _ _ (g.2 _) h _ _ _ d
 |getObj r k j=>
  intro s' w es g h l w' i d;cases s'<;>simp only[aE]at g;simp only[Sem.runT]at d;split at d
  .cases d
  .rename_i o _ A;exact j _ _ _ _ (g.2.1 _ (h _ _ A)) h _ _ _ d
  .cases d
 |setObj r o k j=>
  intro s' w es g h l w' i d;cases s'<;>simp only[aE]at g;simp only[Sem.runT]at d;split at d
  .cases d
  .exact j _ _ _ g.2.2.2 (h.set g.2.2.1.1) _ _ _ d
  .cases d
 |choose q k j=>
  intro s' w es g h l w' i d;cases s'<;>simp only[aE]at g;simp only[Sem.runT]at d;split at d
  .exact j _ _ _ _ (g.2 _) h _ _ _ d
  .exact j _ _ {w with drawn:=w.drawn+1} _ (g.2 _) h _ _ _ d
 |sys c k j=>intro s' w es g h l w' i d;cases s'<;>simp only[aE]at g;obtain⟨rfl,_,M⟩:=g;exact j _ _ _ _ (M _) h _ _ _ d
 |program k j=>intro s' w es g h l w' i d;cases s'<;>simp only[aE]at g;exact j _ _ _ _ g h _ _ _ d
 |mark m k j=>intro s' w es g h l w' i d;cases s'<;>simp only[aE]at g;exact j _ _ _ g.2 h _ _ _ d
 |halt h0=>intro s' w es g h l w' i d;cases d
def mi(a b:ah):Prop:=b.fn=a.fn/\b.kind=a.kind/\b.roundOf=a.roundOf
def FB(a x):mi a (a.finish x):=by unfold Frame.finish;split<;>exact⟨rfl,rfl,rfl⟩
def FC(a b):mi a (a.raise b):=by unfold Frame.raise;split<;>exact⟨rfl,rfl,rfl⟩
def xT(Q:Prop)(fr:ah)(cs:List ah)(a:ah)(c1:List ah):Prop:=
 (c1=cs/\mi fr a)\/(∃b,c1=b::cs/\mi fr b)\/∃c,cs=c::c1/\mi c a/\Q
def GE(Q:Prop)(fr:ah)(cs:List ah)(s:GStep):Prop:=(∃a b c d,s=.go (an a b) c d/\xT Q fr cs a b)\/∃o c d,s=.ended o c d
section
variable{Q Q':Prop}{fr:ah}{cs:List ah}
def GE.after{s}(h:GE Q fr cs s)(u):GE Q fr cs (s.after u):=by
 obtain⟨a,b,c,d,rfl,h⟩|⟨a,b,c,rfl⟩:=h
 .exact .inl ⟨_,_,_,_,rfl,h⟩
 .exact .inr ⟨_,_,_,rfl⟩
def GE.less{fr2 s}(h:GE Q fr2 cs s)(f:mi fr fr2)(i:Q->Q'):GE Q' fr cs s:=by
 obtain⟨a,b,c,d,rfl,h⟩|h:=h
 .refine .inl ⟨_,_,_,_,rfl,?_⟩;obtain⟨g,e⟩|⟨j,g,e⟩|⟨c,g,e,k⟩:=h
  .exact .inl ⟨g,e.1.trans f.1,e.2.1.trans f.2.1,e.2.2.trans f.2.2⟩
  .exact .inr (.inl ⟨j,g,e.1.trans f.1,e.2.1.trans f.2.1,e.2.2.trans f.2.2⟩)
  .exact .inr (.inr ⟨c,g,e,i k⟩)
 .exact .inr h
def eL{a:ah}{c1:List ah}{w:aa}{es:Array aJ}(h:xT Q fr cs a c1:=by first|exact .inl ⟨rfl,rfl,rfl,rfl⟩|exact .inl ⟨rfl,FB _ _⟩|exact .inl ⟨rfl,FC _ _⟩|exact .inr (.inl ⟨_,rfl,rfl,rfl,rfl⟩)):GE Q fr cs (.go (an a c1) w es):=.inl ⟨_,_,_,_,rfl,h⟩
def RK{c}[Decidable c]{x y}(a:GE Q fr cs x)(b:GE Q fr cs y):GE Q fr cs (if c then x else y):=by
 split
 .exact a
 .exact b
def gi{o w es}:GE Q fr cs (.ended o w es):=.inr ⟨_,_,_,rfl⟩
end
section
variable{T:Tables}{F:Array Func}{E:bc->Prop}{fr:ah}{cs:List ah}{w:aa}
def so{P x}(a:fr.kind=.normal\/fr.kind=.deferred)(e:cs≠[]){Q}(b:Q):GE Q fr cs (doReturn P true fr cs none x w):=by
 obtain _|⟨c,d⟩:=cs
 .exact absurd rfl e
 .rcases a with a|a
  .simp only[doReturn,a];exact eL (.inr (.inr ⟨c,rfl,FB _ _,b⟩))
  .simp only[doReturn,a];exact eL (.inr (.inr ⟨c,rfl,by split<;>first|exact⟨rfl,rfl,rfl⟩|(split<;>exact⟨rfl,rfl,rfl⟩),b⟩))
def zZ[ne:mj ⟨T,F⟩](ok:cJ T.globals.size fr)(c:cO T.globals.size w){s s'}(i:SE T F F id (RN F T.globals.size id) s s'):GE False fr cs (stepG.apply ⟨T,F⟩ true fr cs none s w):=by
 have e:(fr.kind==CallKind.early)=false:=by obtain h|h:=ok.kind<;>rw[h]<;>rfl
 rcases f:s.runT ⟨T,F⟩ w #[]with⟨r,g⟩;have d:=(kG s s' w #[] i c).2;rw[f]at d;unfold stepG.apply;simp only[f,if_true,e,dj,if_false];refine GE.after ?_ _;cases r with
 |ok a j=>obtain⟨b,k⟩:=qw s s' w #[] i c a j g f;cases a<;>first|exact eL|exact k.elim
 |halt h j=>
  obtain⟨x,rfl⟩|d:=d
  .exact eL
  .cases h<;>simp[eO]at d
   .rename_i u;cases u<;>first|exact gi|exact .inr (ne.early _ _ _ _ _)
   .exact gi
def RJ(I:Twin T F F E)(ok:cJ T.globals.size fr)(p:cO T.globals.size w)(L:cs≠[]):GE (fr.roundOf≠none) fr cs (stepG.exec ⟨T,F⟩ true true fr cs none w):=by
 have ne:=I.early;have m:Fit T id:=⟨λa b h=>h,λ_ _=>rfl,I.zero⟩;have M:∀(g:ah) x,jS T.globals.size x=true->g.eval x=ak id (g.eval x):=λg x _=>(jV _).symm;unfold stepG.exec;rcases A:fr.todo with _|⟨i,k⟩
 .simp only;cases e:fr.roundOf with
  |none=>exact eL (.inl ⟨rfl,rfl,rfl,e.symm⟩)
  |some l=>
   refine GE.after ?_ _;split
   .exact so ok.kind L (by simp)
   .exact gi
 .have n:dt T.globals.size i=true:=ok.items i (by rw[A];exact ga);have N:fr.roundOf≠none->gL i=true:=λu=>ok.round u i (by rw[A];exact ga);simp only;cases i with
  |inBlock id=>exact eL
  |inScope c=>exact eL
  |inLoop c=>exact eL
  |inRangeFunc l=>exact gi
  |call d a b c=>simp[dt]at n
  |extern r a=>simp[dt]at n
  |beginRound=>
   refine GE.less (zZ (s':=(do fr.roundOf.elim (stuck "beginRound: no round") Instr.beginRound;pure .skip)) ok p ?_) ⟨rfl,rfl,rfl⟩ False.elim;cases fr.roundOf with
   |none=>exact aD _ _
   |some l=>refine aE.bind (yL m l) ?_;rintro _ _ _;exact ax rfl
  |endRangeFunc l=>
   have J:=(kG (P:=⟨T,F⟩) (Q:=⟨T,F⟩) (Instr.endLoop l) (Instr.endLoop (id l)) w #[] (Dy m l) p).2;refine GE.after ?_ _;rcases u:(Instr.endLoop l).runT ⟨T,F⟩ w #[]with⟨r,B⟩;rw[u]at J;dsimp only;cases r with
   |ok a K=>exact eL
   |halt h K=>
    obtain⟨x,rfl⟩|J:=J
    .exact eL
    .cases h<;>first|exact gi|(simp[eO]at J;done)
  |inRegion ops todo=>
   cases todo with
   |nil=>exact eL
   |cons j U=>
    dsimp only;split
    .unfold stepG.oper;have Y:fr.oper?=ops[j]? :=by simp[Frame.oper?,A]
     rw[Y];cases Z:ops[j]? with
     |none=>exact gi
     |some o=>
      have s:o∈ops:=a6i Z;have C:ij T.globals.size o.op=true:=by simp only[dt]at n;rw[gO]at n;obtain⟨q,O,rfl⟩:=fI.1 s;exact n q O
      have R:GE False fr cs (stepG.apply ⟨T,F⟩ true fr cs none (execOp fr.eval o) w):=zZ (s':=execOp fr.eval o) ok p (uL m I (λx t=>M fr x t) o C);dsimp only;split
      .rename_i l c e S;exfalso;have:=N (by rw[e];simp);simp only[gL]at this;rw[gO]at this;obtain⟨q,O,rfl⟩:=fI.1 s;have V:=this q O;rw[S]at V;simp at V
      .exact R.less ⟨rfl,rfl,rfl⟩ False.elim
    .exact eL
  |code c=>
   simp only[dt]at n;cases c with
   |skip=>exact eL
   |label l=>exact eL
   |refuse y=>exact gi
   |goto l=>simp[cV]at n
   |seq a b=>exact eL
   |block id a=>exact eL
   |loop a=>exact eL
   |scope a=>exact eL
   |ret=>
    dsimp only;cases e:fr.roundOf with
    |none=>dsimp only;split<;>first|exact eL (.inl ⟨rfl,rfl,rfl,e.symm⟩)|exact gi
    |some l=>
     refine GE.after ?_ _;split
     .exact so ok.kind L (by simp)
     .exact gi
   |exit id=>
    dsimp only;cases exitTo id k with
    |some k'=>exact eL
    |none=>
     dsimp only[Option.elim_none];cases e:fr.roundOf with
     |none=>dsimp only;split<;>first|exact eL (.inl ⟨rfl,rfl,rfl,e.symm⟩)|exact gi
     |some l=>
      refine GE.after ?_ _;split
      .exact so ok.kind L (by simp)
      .exact gi
   |cond x a b=>
    dsimp only;split
    .exact eL
    .exact gi
   |region id ops D=>
    cases D with
    |false=>exact eL
    |true=>exact eL
   |rangeFunc g W a b=>
    simp only[cV,dW]at n;have H:=uJ (T:=T) (F:=F) (F':=F) (f:=id) fr.fn fr.tmps W a b ⟨n.1.1.1.2,n.1.2⟩ ⟨n.1.1.2,n.2⟩ fr.roundOf;have v:=kG _ _ w #[] H p;refine GE.after ?_ _;rcases u:(Instr.enterLoop fr.fn fr.tmps W a b fr.roundOf).runT ⟨T,F⟩ w #[]with⟨r,B⟩;rw[u]at v;dsimp only;cases r with
    |halt h K=>exact gi
    |ok q K=>
     obtain⟨_,hb⟩:=qw _ _ w #[] H p q K B u;obtain⟨l,X⟩:=q;dsimp only;rw[tl];refine GE.less (fr2:={fr with todo:=.inRangeFunc l::k,defers:=X++fr.defers}) (zZ (s':=do let d<-Deferred.ofValue (ak id (({fr with todo:=.inRangeFunc l::k,defers:=X++fr.defers}:ah).eval g)) ((#[Value.func (.yield l) #[] #[]]:Array af).map (ak id));invoke d.target d.args) ?_ v.1 ?_) ⟨rfl,rfl,rfl⟩ False.elim
     .refine⟨λx t=>?_,λd z=>?_,ok.kind,λu x t=>?_,ok.last,ok.calm⟩
      .rcases cm.1 t with rfl|t
       .rfl
       .exact ok.items x (by rw[A];exact fJ _ t)
      .rcases kf.1 z with z|z
       .exact hb.2 d z
       .exact ok.defers d z
      .rcases cm.1 t with rfl|t
       .rfl
       .exact ok.round u x (by rw[A];exact fJ _ t)
     .refine aE.bind (rQ _ _) ?_;rintro d _ ⟨rfl,z⟩;exact ns m I d.target z d.args
def RI(j:Twin T F F E)(ok:cJ T.globals.size fr)(c:cO T.globals.size w){d}(m:fG d.target=true):GE False fr cs (callDeferred ⟨T,F⟩ fr cs none d w):=by
 have e:Fit T id:=⟨λa b h=>h,λ_ _=>rfl,j.zero⟩;have f:=ns (F:=F) (F':=F) e j d.target m d.args;have g:=(kG _ _ w #[] f c).2;unfold callDeferred;refine RK gi ?_
 .rcases k:(invoke d.target d.args).runT ⟨T,F⟩ w #[]with⟨r,i⟩;rw[k]at g;dsimp only;refine GE.after ?_ _;cases r with
  |ok a l=>obtain⟨b,n⟩:=qw _ _ w #[] f c a l i k;cases a<;>first|exact eL|exact n.elim
  |halt h l=>
   obtain⟨x,rfl⟩|g:=g
   .exact eL
   .cases h<;>first|exact gi|(simp[eO]at g;done)
def I0(j:Twin T F F E)(e:cJ T.globals.size fr)(f:cO T.globals.size w)(h:cs≠[]):GE (fr.roundOf≠none\/fr.mode≠.run/\fr.defers=[]) fr cs (stepG ⟨T,F⟩ true (an fr cs) w):=by
 by_cases k:fr.mode=.run
 .rw[ip k];exact(RJ j e f h).less ⟨rfl,rfl,rfl⟩ .inl
 .rw[j4 k];unfold unwind;rcases b:fr.defers with _|⟨d,m⟩
  .dsimp only;cases n:fr.mode with
   |run=>exact gi
   |panicking r=>
    dsimp only;split
    .exact gi
    .rcases cs with _|⟨c,l⟩
     .exact absurd rfl h
     .exact eL (.inr (.inr ⟨c,rfl,FC _ _,.inr ⟨by simp,by first|rfl|exact b⟩⟩))
   |returning=>
    dsimp only;split
    .exact so e.kind h (.inr ⟨by simp,by first|rfl|exact b⟩)
    .refine GE.after ?_ _;split
     .exact so e.kind h (.inr ⟨by simp,by first|rfl|exact b⟩)
     .exact gi
     .exact gi
  .have g:=e.defers d (by rw[b];exact ga);have i:cJ T.globals.size {fr with defers:=m}:=⟨e.items,λx o=>e.defers x (by rw[b];exact fJ _ o),e.kind,e.round,e.last,e.calm⟩;obtain⟨p,q⟩:=d;have a:=RI (cs:=cs) j i f g;have a:=a.less (fr:=fr) (Q':=fr.roundOf≠none\/fr.mode≠.run/\fr.defers=[]) ⟨rfl,rfl,rfl⟩ False.elim;rw[b]at a;cases p<;>first|exact a|skip
   dsimp only;refine GE.after ?_ _;split
   .exact eL
   .exact gi
def IZ(j:Twin T F F E)(k:cJ T.globals.size fr)(e:cO T.globals.size w)(l:cs≠[]):(∃f g i es,stepG ⟨T,F⟩ true (an fr cs) w=.go (an f g) i es)\/∃o i es,stepG ⟨T,F⟩ true (an fr cs) w=.ended o i es:=
 (I0 j k e l).imp (λ⟨a,b,c,d,h,_⟩=>⟨a,b,c,d,h⟩) id
end
end Go.Mir
end
section
namespace Go.Mir
open Go
variable{P:ay}{Z:Nat->Prop}{K:Nat->Obj}{w u u':aa}{fr fr':ah}{cs H:List ah}{es:Array aJ}
def fd{P f es e}(h:e∈seen P f es):e∈es:=by
 unfold seen at h;dsimp only at h;rw[<-a6E]at h;have b:∀(l:List aJ) (q:Bool) (a:Array aJ),e∈(l.foldl (λ(x:Bool×Array aJ) e=>match x with
   |(q,a)=>match e.loc with
    | .mark (.extern f)=>((P.funcs[f]?).any (·.norace),a)
    |_=>(q,if (q&& !e.sync)=true then a else a.push e)) (q,a)).2->e∈a\/e∈l:=by
  intro l;induction l with
  |nil=>intro q a h;exact .inl h
  |cons x l c=>
   intro q a h;rw[a6D]at h;dsimp only at h;split at h
   .rcases c _ _ h with h|h
    .exact .inl h
    .exact .inr (fJ _ h)
   .rcases c _ _ h with h|h
    .split at h
     .exact .inl h
     .rcases kJ.1 h with h|rfl
      .exact .inl h
      .exact .inr ga
    .exact .inr (fJ _ h)
 obtain h|h:=b _ _ _ h
 .simp at h
 .simpa using h
def jO{g w w' es es'}(h:GStep.go g w es=.go (an fr cs) w' es'):g=an fr cs/\w=w'/\es=es':=by cases h;exact⟨rfl,rfl,rfl⟩
def a2k[ne:mj P]{s}(A:fr.kind=.normal\/fr.kind=.deferred)(B:NF P s)(f:∀h u1,(s.runT P u #[]).1=.halt h u1->(∃x,h=.panic x)\/eO h=true)(l:∀d u1,(s.runT P u #[]).1≠.ok (.spawn d) u1)(hF:bK Z K w u)(b:stepG.apply P true fr cs none s u=.go (an fr' H) u' es):∃k,stepG.apply P true fr cs none s w=.go (an fr' H) k es/\bK Z K k u'/\∀e∈es,i8 Z e:=by
 have y:(fr.kind==CallKind.early)=false:=by obtain h|h:=A<;>rw[h]<;>rfl
 rcases z:s.runT P u #[]with⟨r,g⟩;rw[z]at f l;unfold stepG.apply at b⊢;simp only[z,if_true,y,dj,if_false]at b⊢;have m:Yields r->∃k,s.runT P w #[]=(jl k r,g)/\bK Z K k (fH r)/\∀e∈g,i8 Z e:=λC=>by obtain⟨k,n,c,p⟩:=a5U s w u #[] B hF r g z C;exact⟨k,n,c,λe t=>(p e t).resolve_left (by simp)⟩
 cases r with
 |ok a u1=>
  obtain⟨i,n,c,p⟩:=m trivial;simp only[n,jl,fH]at b c⊢;have j:∀e∈seen P fr.fn g++#[],i8 Z e:=λe t=>p e (fd (by simpa using t));cases a
  case value=>dsimp only[GStep.after]at b⊢;obtain⟨q1,rfl,rfl⟩:=jO b;exact⟨i,by rw[q1],c,j⟩
  case skip=>dsimp only[GStep.after]at b⊢;obtain⟨q1,rfl,rfl⟩:=jO b;exact⟨i,by rw[q1],c,j⟩
  case enter=>dsimp only[GStep.after]at b⊢;obtain⟨q1,rfl,rfl⟩:=jO b;exact⟨i,by rw[q1],c,j⟩
  case round=>dsimp only[GStep.after]at b⊢;obtain⟨q1,rfl,rfl⟩:=jO b;exact⟨i,by rw[q1],c,j⟩
  case defer=>dsimp only[GStep.after]at b⊢;obtain⟨q1,rfl,rfl⟩:=jO b;exact⟨i,by rw[q1],c,j⟩
  case callThen=>dsimp only at b⊢;split at b<;>(dsimp only[GStep.after]at b⊢;obtain⟨q1,rfl,rfl⟩:=jO b;exact⟨i,by rw[q1],c,j⟩)
  case row=>dsimp only at b⊢;split at b<;>(dsimp only[GStep.after]at b⊢;obtain⟨q1,rfl,rfl⟩:=jO b;exact⟨i,by rw[q1],c,j⟩)
  case stack=>dsimp only at b⊢;split at b<;>(dsimp only[GStep.after]at b⊢;obtain⟨q1,rfl,rfl⟩:=jO b;exact⟨i,by rw[q1],c,j⟩)
  case recover=>dsimp only at b⊢;split at b<;>(dsimp only[GStep.after]at b⊢;obtain⟨q1,rfl,rfl⟩:=jO b;exact⟨i,by rw[q1],c,j⟩)
  case spawn=>exact absurd rfl (l _ _)
  all_goals(dsimp only[GStep.after]at b;cases b)
 |halt h u1=>
  obtain⟨x,rfl⟩|D:=f h u1 rfl
  .obtain⟨i,n,c,p⟩:=m trivial;simp only[n,jl,fH]at b c⊢;have j:∀e∈seen P fr.fn g++#[],i8 Z e:=λe t=>p e (fd (by simpa using t));dsimp only[GStep.after]at b⊢;obtain⟨q1,rfl,rfl⟩:=jO b;exact⟨i,by rw[q1],c,j⟩
  .exfalso;cases h<;>simp[eO]at D
   .rename_i v;cases v<;>first|(cases b;done)|(obtain⟨o,F,E,q⟩:=ne.early fr cs none (by assumption) u1;simp only[q,GStep.after]at b;cases b)
   .cases b
variable{P:ay}{Z:Nat->Prop}{K:Nat->Obj}{w u u':aa}{fr fr':ah}{cs D:List ah}{es:Array aJ}
def AA{o}(h:thin o):NF P (newObj o):=⟨h,λ_=>trivial⟩
def Vw(l):NF P (Instr.beginRound l):=by
 refine tI (l:=l) trivial (λo a=>by cases o<;>first|exact a.elim|trivial) λo=>?_;cases o with
 |loop r=>
  refine .inr ⟨_,_,rfl,trivial,?_⟩;show NF P (match r.state with| .ready=>_| .done=>_| .busy=>_| .exhausted=>_);cases r.state
  .exact NF.pure _
  all_goals exact oQ _
 |_=>exact .inl trivial
def VY(l j):NF P (Instr.endRound l j):=by
 refine tI (l:=l) trivial (λo a=>by cases o<;>first|exact a.elim|trivial) λo=>?_;cases o with
 |loop r=>exact .inr ⟨_,_,rfl,trivial,NF.pure _⟩
 |_=>exact .inl trivial
def VX(l):NF P (Instr.endLoop l):=by
 refine tI (l:=l) trivial (λo b=>by cases o<;>first|exact b.elim|trivial) λo=>?_;cases o with
 |loop r=>
  by_cases a:(r.state==.busy)=true
  .refine .inl ?_;show NF P (if r.state==.busy then _ else _);rw[if_pos a];exact AG _ _
  .refine .inr ⟨.loop {r with state:=.exhausted},.pure r.pending,?_,trivial,trivial⟩;show(if r.state==.busy then _ else _)=_;rw[if_neg a];rfl
 |_=>exact .inl trivial
def W5(l):NF P (Instr.takeDeferred l):=by
 refine tI (l:=l) trivial (λo a=>by cases o<;>first|exact a.elim|trivial) λo=>?_;cases o with
 |deferred c=>
  cases c with
  |none=>exact .inl trivial
  |some b=>exact .inr ⟨_,_,rfl,trivial,NF.pure _⟩
 |_=>exact .inl trivial
def V0(fn t c a b r):NF P (Instr.enterLoop fn t c a b r):=by
 unfold Instr.enterLoop;cases r with
 |none=>refine NF.bind (AA trivial) λr=>NF.bind (NF.pure _) λq=>?_;exact NF.bind (AA trivial) λ_=>NF.pure _
 |some l=>refine NF.bind (Gc l) λr=>NF.bind (NF.pure _) λq=>?_;exact NF.bind (AA trivial) λ_=>NF.pure _
def GT(Z:Nat->Prop)(K:Nat->Obj)(x y:GStep):Prop:=∀fr' D u' es,x=.go (an fr' D) u' es->∃a,y=.go (an fr' D) a es/\bK Z K a u'/\∀e∈es,i8 Z e
def e9{g}(h:bK Z K w u):GT Z K (.go g u) (.go g w):=by intro a b c d e;obtain⟨q1,rfl,rfl⟩:=jO e;exact⟨w,by rw[q1],h,by simp⟩
def ii{o v es y}:GT Z K (.ended o v es) y:=by intro a b c d e;cases e
def vK{x y es}(h:GT Z K x y)(k:∀e∈es,i8 Z e):GT Z K (x.after es) (y.after es):=by
 intro a b c d i;cases x with
 |go g l j=>
  obtain⟨rfl,rfl,rfl⟩:=jO i;obtain⟨m,n,o,p⟩:=h a b l j rfl;refine⟨m,by rw[n];rfl,o,λe f=>?_⟩;obtain f|f:=l8.1 f
  .exact k e f
  .exact p e f
 |_=>simp only[GStep.after]at i;cases i
def vL{α s}(o:NF P s)(hF:bK Z K w u){f}{k:Result α->GStep}(p:∀r i,Yields r->bK Z K i (fH r)->GT Z K (k r) (k (jl i r)))(q:∀r y,¬Yields r->GT Z K (k r) y):GT Z K (GStep.after (seen P f (s.runT P u #[]).2) (k (s.runT P u #[]).1)) (GStep.after (seen P f (s.runT P w #[]).2) (k (s.runT P w #[]).1)):=by
 rcases t:s.runT P u #[]with⟨r,m⟩;by_cases n:Yields r
 .obtain⟨i,v,x,z⟩:=a5U s w u #[] o hF r m t n;rw[v];exact vK (p r i n x) λe A=>(z e (fd A)).resolve_left (by simp)
 .intro a b c d j;exfalso;cases h:k r with
  |go g B l=>rw[h]at j;obtain⟨rfl,rfl,rfl⟩:=jO j;obtain⟨i,C,_⟩:=q r (.ended (.done undef) u #[]) n a b B l h;cases C
  |_=>rw[h]at j;simp only[GStep.after]at j;cases j
def Aa{x}(a:fr.kind=.normal\/fr.kind=.deferred)(d:cs≠[])(hF:bK Z K w u):GT Z K (doReturn P true fr cs none x u) (doReturn P true fr cs none x w):=by
 obtain _|⟨c,b⟩:=cs
 .exact absurd rfl d
 .rcases a with a|a
  .simp only[doReturn,a];exact e9 hF
  .simp only[doReturn,a];exact e9 hF
section
variable{T:Tables}{F:Array Func}{E:bc->Prop}{Z:Nat->Prop}{K:Nat->Obj}{w u u':aa}{fr fr':ah}{cs ae:List ah}
structure ib (T:Tables) (F:Array Func):Prop where
 ext:∀(g:bc) (fn:Func) (e:Array af->Sem af),F[g]?=some fn->fn.body=none->Extern.find fn=some e->∀a,NF ⟨T,F⟩ (e a)
 eqs:∀t,zg.contains t=true->lR ⟨T,F⟩ 4 t=true
 ux:∀s d,AS s d=true->pF ⟨T,F⟩ s d=true
def wg(j:Twin T F F E)(cT:ib T F)(g args):NF ⟨T,F⟩ (callFunc g args):=by
 change NF ⟨T,F⟩ (match F[g]? with|none=>_|some h=>_);cases i:F[g]? with
 |none=>exact NF.stuck _
 |some h=>
  obtain⟨k,l,_,_,m,n,o⟩:=j.each g h i;dsimp only;simp only[m,dj,if_false];obtain⟨c,q,a,d,_,_⟩|⟨a,rfl,f,e,b,r⟩|⟨a,d,f,b,p⟩:=o
  .simp only[a,Option.isNone_some,dj,if_false];exact NF.pure _
  .simp only[a,a6Z,if_true,f,b];exact NF.bind (Ay _) λ_=>NF.bind (cT.ext g _ e i a b _) λ_=>NF.pure _
  .simp only[a,a6Z,if_true,f,b,p,dj,if_false];exact NF.bind (Ay _) λ_=>NF.unsupported _
def Vl(cT:ib T F){G o}(h:ij G o=true):qi ⟨T,F⟩ o=true:=by
 simp only[ij,dW]at h;obtain⟨h0,h⟩:=h;clear h0;cases o<;>first|exact h|rfl|exact(Bool.false_ne_true h).elim|skip
 case binOp a t x y u=>
  simp only[qi,a6V]at h⊢;obtain((h|h)|h)|h:=h
  .exact .inl (.inl (.inl h))
  .exact .inl (.inl (.inr (cT.eqs t h)))
  .exact .inl (.inr h)
  .exact .inr h
 case convert s d x=>exact cT.ux s d h
def z7[ne:mj ⟨T,F⟩](l:cJ T.globals.size fr)(e:cO T.globals.size u){s s'}(m:NF ⟨T,F⟩ s)(i:SE T F F id (RN F T.globals.size id) s s')(hF:bK Z K w u):GT Z K (stepG.apply ⟨T,F⟩ true fr cs none s u) (stepG.apply ⟨T,F⟩ true fr cs none s w):=by
 intro a b c d n;refine a2k l.kind m (λh u1 f=>?_) (λd u1 f=>?_) hF n
 .have j:=(kG s s' u #[] i e).2;rw[f]at j;exact j
 .rcases k:s.runT ⟨T,F⟩ u #[]with⟨r,g⟩;rw[k]at f;dsimp only at f;subst f;obtain⟨b,o⟩:=qw s s' u #[] i e _ _ g k;exact o.elim
def z8(ok:cJ T.globals.size fr)(e:cs≠[])(hF:bK Z K w u)(l:Nat)(j:Option Code):
  GT Z K (GStep.after (seen ⟨T,F⟩ fr.fn ((Instr.endRound l j).runT ⟨T,F⟩ u #[]).2) (match ((Instr.endRound l j).runT ⟨T,F⟩ u #[]).1 with
    | .ok v w=>doReturn ⟨T,F⟩ true fr cs none v w
    | .halt _ w=>.ended (.stuck "range over a function: no such loop" (fr.pos ⟨T,F⟩)) w))
   (GStep.after (seen ⟨T,F⟩ fr.fn ((Instr.endRound l j).runT ⟨T,F⟩ w #[]).2) (match ((Instr.endRound l j).runT ⟨T,F⟩ w #[]).1 with
    | .ok v w=>doReturn ⟨T,F⟩ true fr cs none v w
    | .halt _ w=>.ended (.stuck "range over a function: no such loop" (fr.pos ⟨T,F⟩)) w)):=by
 refine vL (VY l j) hF (k:=λr=>match r with
    | .ok v w=>doReturn ⟨T,F⟩ true fr cs none v w
    | .halt _ w=>.ended (.stuck "range over a function: no such loop" (fr.pos ⟨T,F⟩)) w) (λr f d b=>?_) λr y d=>?_
 .cases r with
  |ok a c=>exact Aa ok.kind e b
  |halt h c=>exact ii
 .cases r with
  |ok a c=>exact absurd trivial d
  |halt h c=>exact ii
def RB{q}(hF:bK Z K w u){t u1}(h:(choose q).run ⟨T,F⟩ u=.ok t u1):∃c,(choose q).run ⟨T,F⟩ w=.ok t c/\bK Z K c u1:=by
 have a:((choose q).runT ⟨T,F⟩ u #[]).1=.ok t u1:=by rw[Sem.runT_fst];exact h
 rcases d:(choose q).runT ⟨T,F⟩ u #[]with⟨r,b⟩;rw[d]at a;dsimp only at a;subst a;obtain⟨e,a,f,g⟩:=a5U (choose q) w u #[] (As q) hF _ b d trivial;refine⟨e,?_,f⟩;rw[<-Sem.runT_fst (es:=#[]),a];rfl
def Su(I:Twin T F F E)(cT:ib T F)(ok:cJ T.globals.size fr)(z:cO T.globals.size u)(U:cs≠[])(hF:bK Z K w u):GT Z K (stepG.exec ⟨T,F⟩ true true fr cs none u) (stepG.exec ⟨T,F⟩ true true fr cs none w):=by
 have ne:=I.early;have hf:=wg I cT;have n:Fit T id:=⟨λa b h=>h,λ_ _=>rfl,I.zero⟩;have V:∀(g:ah) x,jS T.globals.size x=true->g.eval x=ak id (g.eval x):=λg x _=>(jV _).symm;unfold stepG.exec;rcases J:fr.todo with _|⟨i,k⟩
 .simp only;cases L:fr.roundOf with
  |none=>exact e9 hF
  |some l=>exact z8 ok U hF l none
 .have m:dt T.globals.size i=true:=ok.items i (by rw[J];exact ga);have W:fr.roundOf≠none->gL i=true:=λA=>ok.round A i (by rw[J];exact ga);simp only;cases i with
  |inBlock id=>exact e9 hF
  |inScope c=>exact e9 hF
  |inLoop c=>exact e9 hF
  |inRangeFunc l=>exact ii
  |call d a b c=>simp[dt]at m
  |extern r a=>simp[dt]at m
  |beginRound=>
   refine z7 (s':=(do fr.roundOf.elim (stuck "beginRound: no round") Instr.beginRound;pure .skip)) ok z ?_ ?_ hF
   .cases fr.roundOf with
    |none=>exact NF.bind (NF.stuck _) λ_=>NF.pure _
    |some l=>exact NF.bind (Vw l) λ_=>NF.pure _
   .cases fr.roundOf with
    |none=>exact aD _ _
    |some l=>refine aE.bind (yL n l) ?_;rintro _ _ _;exact ax rfl
  |endRangeFunc l=>
   refine vL (VX l) hF (k:=λr=>match r with
    | .ok M w=>.go {frame:={fr with todo:=(M.map Item.code).toList++k},callers:=cs,status:=.running,dying:=none} w
    | .halt (.panic v) w=>.go {frame:=fr.raise [{v,recovered:=false}],callers:=cs,status:=.running,dying:=none} w
    | .halt _ w=>.ended (.stuck "range over a function: no such loop" (fr.pos ⟨T,F⟩)) w) (λr w' S N=>?_) λr y S=>?_
   .cases r with
    |ok a H=>exact e9 N
    |halt h H=>cases h<;>first|exact S.elim|exact e9 N
   .cases r with
    |ok a H=>exact absurd trivial S
    |halt h H=>cases h<;>first|exact absurd trivial S|exact ii
  |inRegion ops todo=>
   cases todo with
   |nil=>exact e9 hF
   |cons j ad=>
    dsimp only;split
    .unfold stepG.oper;have e3:fr.oper?=ops[j]? :=by simp[Frame.oper?,J]
     rw[e3];cases ho:ops[j]? with
     |none=>exact ii
     |some o=>
      have p:o∈ops:=a6i ho;have B:ij T.globals.size o.op=true:=by simp only[dt]at m;rw[gO]at m;obtain⟨q,X,rfl⟩:=fI.1 p;exact m q X
      have O:qi ⟨T,F⟩ o.op=true:=Vl cT B;have Y:GT Z K (stepG.apply ⟨T,F⟩ true fr cs none (execOp fr.eval o) u) (stepG.apply ⟨T,F⟩ true fr cs none (execOp fr.eval o) w):=z7 (s':=execOp fr.eval o) ok z (V9 hf _ (λ_=>rfl) o O) (uL n I (λx s=>V fr x s) o B) hF;dsimp only;split
      .rename_i l c L ab;exfalso;have:=W (by rw[L];simp);simp only[gL]at this;rw[gO]at this;obtain⟨q,X,rfl⟩:=fI.1 p;have h5:=this q X;rw[ab]at h5;simp at h5
      .exact Y
    .exact e9 hF
  |code c=>
   simp only[dt]at m;cases c with
   |skip=>exact e9 hF
   |label l=>exact e9 hF
   |refuse y=>exact ii
   |goto l=>simp[cV]at m
   |seq a b=>exact e9 hF
   |block id a=>exact e9 hF
   |loop a=>exact e9 hF
   |scope a=>exact e9 hF
   |ret=>
    dsimp only;cases fr.roundOf with
    |none=>dsimp only;split<;>first|exact e9 hF|exact ii
    |some l=>exact z8 ok U hF l _
   |exit id=>
    dsimp only;cases exitTo id k with
    |some k'=>exact e9 hF
    |none=>
     dsimp only[Option.elim_none];cases fr.roundOf with
     |none=>dsimp only;split<;>first|exact e9 hF|exact ii
     |some l=>exact z8 ok U hF l _
   |cond x a b=>
    dsimp only;split
    .exact e9 hF
    .exact ii
   |region id ops P=>
    cases P with
    |false=>exact e9 hF
    |true=>
     simp only[a6O,dj,if_false];cases A:(choose (.order fr.fn id)).run ⟨T,F⟩ u with
     |ok t u1=>obtain⟨H,h1,h2⟩:=RB hF A;rw[h1];exact e9 h2
     |halt h u1=>exact ii
   |rangeFunc g ps a b=>
    simp only[cV,dW]at m;have Q:=uJ (T:=T) (F:=F) (F':=F) (f:=id) fr.fn fr.tmps ps a b ⟨m.1.1.1.2,m.1.2⟩ ⟨m.1.1.2,m.2⟩ fr.roundOf;have C:=kG _ _ u #[] Q z;dsimp only;rcases A:(Instr.enterLoop fr.fn fr.tmps ps a b fr.roundOf).runT ⟨T,F⟩ u #[]with⟨r,R⟩;rw[A]at C;cases r with
    |halt h H=>dsimp only;intro a b c d s;cases s
    |ok q u1=>
     obtain⟨H,h1,h2,h3⟩:=a5U _ w u #[] (V0 fr.fn fr.tmps ps a b fr.roundOf) hF _ R A trivial;rw[h1];obtain⟨_,hb⟩:=qw _ _ u #[] Q z q u1 R A;obtain⟨l,mk⟩:=q;dsimp only[jl];refine vK ?_ λe he=>(h3 e (fd he)).resolve_left (by simp);rw[tl];refine z7 (s':=do let d<-Deferred.ofValue (ak id (({fr with todo:=.inRangeFunc l::k,defers:=mk++fr.defers}:ah).eval g)) ((#[Value.func (.yield l) #[] #[]]:Array af).map (ak id));invoke d.target d.args) ?_ C.1 ?_ ?_ h2
     .refine⟨λx s=>?_,λd D=>?_,ok.kind,λA x s=>?_,ok.last,ok.calm⟩
      .rcases cm.1 s with rfl|s
       .rfl
       .exact ok.items x (by rw[J];exact fJ _ s)
      .rcases kf.1 D with D|D
       .exact hb.2 d D
       .exact ok.defers d D
      .rcases cm.1 s with rfl|s
       .rfl
       .exact ok.round A x (by rw[J];exact fJ _ s)
     .unfold Deferred.ofValue;cases ({fr with todo:=.inRangeFunc l::k,defers:=mk++fr.defers}:ah).eval g with
      |func fn a b=>exact wn hf fn b _
      |nilFunc=>exact oQ (α:=Next) .nilDeref
      |_=>exact AI (α:=Deferred) _ _
     .refine aE.bind (rQ _ _) ?_;rintro d _ ⟨rfl,D⟩;exact ns n I d.target D d.args
def WP(fn t):NF ⟨T,F⟩ (results fn t):=by
 unfold results;refine NF.bind (Gl (λr=>?_) _) λ_=>NF.pure _;cases r with
 |tmp t=>exact NF.pure _
 |cell a t=>exact NF.bind (oP _) λ_=>Ax _ _
def Wn(e:Twin T F F E)(cT:ib T F)(t)(d:fG t=true)(a):NF ⟨T,F⟩ (invoke t a):=by
 cases t with
 |nil=>exact oQ (α:=Next) .nilDeref
 |builtin b g t c=>exact a8i (by cases b<;>first|exact d|rfl) _ _ _ _
 |fn f c=>exact wn (wg e cT) f c a
 |collected r=>exact NF.stuck _
 |coroexit c=>cases d
def Sv{c}[Decidable c]{x y x' a}(b:GT Z K x x')(d:GT Z K y a):GT Z K (if c then x else y) (if c then x' else a):=by
 split
 .exact b
 .exact d
def Ss(m:Twin T F F E)(cT:ib T F)(ok:cJ T.globals.size fr)(f:cO T.globals.size u)(hF:bK Z K w u){d}(p:fG d.target=true):GT Z K (callDeferred ⟨T,F⟩ fr cs none d u) (callDeferred ⟨T,F⟩ fr cs none d w):=by
 have g:Fit T id:=⟨λa b h=>h,λ_ _=>rfl,m.zero⟩;have i:=ns (F:=F) (F':=F) g m d.target p d.args;have q:=(kG _ _ u #[] i f).2;unfold callDeferred;refine Sv ii ?_
 .rcases n:(invoke d.target d.args).runT ⟨T,F⟩ u #[]with⟨r,j⟩;rw[n]at q;by_cases l:Yields r
  .obtain⟨A,v,s,t⟩:=a5U _ w u #[] (Wn m cT d.target p d.args) hF r j n l;rw[v];cases r with
   |ok a u1=>obtain⟨b,y⟩:=qw _ _ u #[] i f a u1 j n;dsimp only[jl];refine vK ?_ λe o=>(t e (fd o)).resolve_left (by simp);cases a<;>first|exact e9 s|exact y.elim
   |halt h u1=>
    cases h<;>first|exact l.elim|skip
    dsimp only[jl];refine vK ?_ λe o=>(t e (fd o)).resolve_left (by simp);exact e9 s
  .intro a b c d z;exfalso;cases r with
   |ok a u1=>exact l trivial
   |halt h u1=>cases h<;>first|exact l trivial|(cases z;done)|(obtain⟨x,k⟩|k:=q<;>cases k)
def Fa(t:Twin T F F E)(cT:ib T F)(ok:cJ T.globals.size fr)(g:cO T.globals.size u)(o:cs≠[])(hF:bK Z K w u):GT Z K (stepG ⟨T,F⟩ true (an fr cs) u) (stepG ⟨T,F⟩ true (an fr cs) w):=by
 by_cases p:fr.mode=.run
 .rw[ip p,ip p];exact Su t cT ok g o hF
 .rw[j4 p,j4 p];unfold unwind;rcases i:fr.defers with _|⟨d,z⟩
  .dsimp only;cases B:fr.mode with
   |run=>exact ii
   |panicking M=>
    dsimp only;split
    .exact ii
    .rcases cs with _|⟨c,A⟩
     .exact absurd rfl o
     .exact e9 hF
   |returning=>
    dsimp only;split
    .exact Aa ok.kind o hF
    .rename_i C D;refine vL (WP C fr.tmps) hF (k:=λr=>match r with
      | .ok v w=>doReturn ⟨T,F⟩ true fr cs none v w
      | .halt (.stuck s) w=>.ended (.stuck s (fr.pos ⟨T,F⟩)) w
      | .halt _ w=>.ended (.stuck "return: the result variables cannot be read" (fr.pos ⟨T,F⟩)) w) (λr H j b=>?_) λr y j=>?_
     .cases r with
      |ok a e=>exact Aa ok.kind o b
      |halt h e=>cases h<;>exact ii
     .cases r with
      |ok a e=>exact absurd trivial j
      |halt h e=>cases h<;>exact ii
  .have m:=ok.defers d (by rw[i];exact ga);have q:cJ T.globals.size {fr with defers:=z}:=⟨ok.items,λx I=>ok.defers x (by rw[i];exact fJ _ I),ok.kind,ok.round,ok.last,ok.calm⟩;obtain⟨J,L⟩:=d;have n:=Ss (cs:=cs) t cT q g hF m;cases J<;>first|exact n|skip
   dsimp only;rename_i l;refine vL (W5 l) hF (k:=λr=>match r with
    | .ok f w=>.go {frame:={fr with defers:=f++z},callers:=cs,status:=.running,dying:=none} w
    | .halt _ w=>.ended (.stuck "the deferred calls of a range-over-func loop have been taken" (fr.pos ⟨T,F⟩)) w) (λr H j b=>?_) λr y j=>?_
   .cases r with
    |ok a e=>exact e9 b
    |halt h e=>exact ii
   .cases r with
    |ok a e=>exact absurd trivial j
    |halt h e=>exact ii
end
end Go.Mir
end
section
namespace Go.Mir
def re(w:aa)(τ:Nat->Question->Nat)(d:Nat):aa:={w with tape:=τ,drawn:=d}
structure a5T (T:Tables) (D:Nat->Prop) (w:aa) (fr:ah) (gs:List ah):Prop where
 heap:dh T.globals.size D id w w
 low:∀b,b<T.globals.size+1->D b
 all:cO T.globals.size w
 ok:cJ T.globals.size fr
 cF:∀x∈gs,cJ T.globals.size x
 aZ:∀f,aQ D id f->fr=aR f fr/\gs=gs.map (aR f)
section
variable{T:Tables}{F:Array Func}{E:bc->Prop}{D:Nat->Prop}{w w':aa}{fr fr' trap:ah}{gs gs':List ah}{es:Array aJ}
def a5T.re(L:a5T T D w fr gs)(τ:Nat->Question->Nat)(d:Nat):a5T T D (re w τ d) fr gs:=⟨L.heap.same rfl rfl,L.low,L.all,L.ok,L.cF,L.aZ⟩
def a5T.rel(L:a5T T D w fr gs)(trap τ d):Rel T [trap] D id w (Mir.re w τ d) fr gs fr (gs++[trap]):=
 ⟨L.heap.same rfl rfl,rfl,λb c=>⟨L.low b c,rfl⟩,L.all,L.ok,L.cF,λf a=>⟨(L.aZ f a).1,by rw[<-(L.aZ f a).2]⟩⟩
def jA{a b}{x:ah}(h:a++[x]=b++[x]):a=b:=a6o h
def Ai(I:trap.mode=.returning)(S:Twin T F F (λ_=>False))(L:a5T T D w fr gs)(U:stepG ⟨T,F⟩ true (an fr (gs++[trap])) w=.go (an fr' (gs'++[trap])) w' es)(τ d)(V:∀i,w.drawn+i<w'.drawn->τ (d+i)=w.tape (w.drawn+i)):∃p j,stepG ⟨T,F⟩ true (an fr (gs++[trap])) (re w τ d)=.go (an fr' (gs'++[trap])) (re w' τ (d+j)) p/\w'.drawn=w.drawn+j/\∃o,a5T T o w' fr' gs':=by
 have R:=L.rel trap τ d;obtain⟨o,g,H,p,rg,O,k,X⟩|⟨_,t,Y,_⟩:=tF (main:=true) (below:=[]) (up I) S R U (λi W=>V i W)
 .rcases X with⟨Z,ab,ad,P,hg,rfl,l⟩|⟨_,_,_,_,_,_,_,_,J,_⟩
  .obtain⟨rfl,q⟩:=ej hg;have q:=jA q;subst q;have r:∀b,o b->g b=b:=by
    intro b c;obtain n|n:=k.gr.sJ b c
    .rw[(k.more b n).2];rfl
    .have:(re w τ d).heap.size=w.heap.size:=rfl;omega
   have s:∀f,aQ o id f->aQ o g f:=λf v=>⟨λb c=>by rw[r b c];exact v.on b c,v.inj⟩;have m:aQ o g id:=s id ⟨λ_ _=>rfl,λ_ _ h=>h⟩;have y:=l.aZ id m;rw[qo]at y;have z:gs'.map (aR id)=gs':=by have:aR id=id:=funext qo;rw[this];simp
   rw[z]at y;have K:H.heap.size=w'.heap.size:=by have n:=k.gr.grow;have Q:(re w τ d).heap.size=w.heap.size:=rfl;omega
   have u:H.heap=w'.heap:=by
    apply a6C;intro b;by_cases c:o b
    .have:=l.heap.obj id m b c;rw[r b c]at this;rw[this];cases w'.heap[b]? <;>simp[qp]
    .by_cases A:b<w.heap.size
     .have B: ¬D b:=λh=>c (k.more b h).1;rw[k.frame b A (λx hx e=>B (e▸hx)),k.gr.xH b A B];rfl
     .by_cases C:b<w'.heap.size
      .exact absurd (k.gr.wb b (by omega) C) c
      .rw[a6H (by omega),a6H (by omega)]
   obtain⟨j,M,N⟩:=k.drawn;have hv:H=re w' τ (d+j):=by have n:=k.tape;have Q:=k.os;have h3:=k.output;have h4:=k.mV;have h5:=k.po;obtain⟨vh,vt,vd,vo,vu⟩:=H;simp only[Mir.re]at*;subst u n M;rw[Q,h3,h4,h5]
   subst hv;rw[y.1,y.2]at O;refine⟨p,j,O,N,o,⟨dh.mk l.heap.lt (λb c=>l.heap.lt b c) (λa b _ _ h=>h) (λf v b c=>?_) l.heap.ok,λb c=>(l.low b c).1,l.all,l.ok,l.cF,λf v=>?_⟩⟩
   .have:=l.heap.obj f (s f v) b c;rw[r b c]at this;exact this
   .have n:=l.aZ f (s f v);rw[y.1,y.2]at n;exact⟨n.1,jA n.2⟩
  .exact J.1.elim
 .have:=(ej Y).2;simp at this
end
def aB(P:ay):ah:={fn:=P.funcs.size,tmps:=#[],todo:=[.call {target:=.nil,args:=#[]} false "fmt's door" #[]],defers:=[],mode:=.returning,kind:=.normal,roundOf:=none}
inductive Fin (P:ay) (trap:ah) (Stop:ah->List ah->aa->Prop):ah->List ah->aa->Prop
 |stop {fr:ah} {gs:List ah} {w:aa}:Stop fr gs w->Fin P trap Stop fr gs w
 |step {fr:ah} {gs:List ah} {w:aa} (nf:(Nat->Question->Nat)->Nat->ah) (ng:(Nat->Question->Nat)->Nat->List ah) (nw:(Nat->Question->Nat)->Nat->aa) (ne:(Nat->Question->Nat)->Nat->Array aJ)
  (h:∀τ d,stepG P true (an fr (gs++[trap])) (re w τ d)=.go (an (nf τ d) (ng τ d++[trap])) (nw τ d) (ne τ d)) (ih:∀τ d,Fin P trap Stop (nf τ d) (ng τ d) (nw τ d)):Fin P trap Stop fr gs w
section
variable{P:ay}{fr fr':ah}{cs al:List ah}{w w':aa}{es:Array aJ}
def sE(h:stepG P true (an fr cs) w=.go (an fr' al) w' es):step P (lone fr cs w)=.next (lone fr' al w'):=by refine step_lone_go ?_;have:stepG P true {frame:=fr,callers:=cs,status:=.running,dying:=none} w=.go (an fr' al) w' es:=h;rw[this];rfl
def oN{o}(h:stepG P true (an fr cs) w=.ended o w' es):step P (lone fr cs w)=.ended o w':=by refine step_lone_ended ?_;have:stepG P true {frame:=fr,callers:=cs,status:=.running,dying:=none} w=.ended o w' es:=h;rw[this];rfl
def mJ(h:lone fr cs w=lone fr' al w'):fr=fr'/\cs=al/\w=w':=by simp only[lone,Machine.mk.injEq,Array.mk.injEq,f9,Goroutine.mk.injEq,and_true]at h;exact⟨h.2.1,h.2.2,h.1⟩
def A4(d:P.inits.idxOf? P.funcs.size=none){t}(h:mo (aB P) t):∃o e es,stepG P true (an t []) w=.ended o e es:=by
 have a:P.funcs[P.funcs.size]?=none:=a6H (aF _);have ret:∀t:ah,t.mode=.returning->t.defers=[]->t.fn=P.funcs.size->t.kind=.normal->∃o e es,stepG P true (an t []) w=.ended o e es:=by intro t b f c g;rw[j4 (by rw[b];simp)];unfold unwind;rw[f];dsimp only;rw[b];dsimp only;rw[c,a];dsimp only;simp only[doReturn,g,c,d];exact⟨_,_,_,rfl⟩
 obtain rfl|⟨x,rfl⟩|⟨ch,rfl⟩:=h
 .exact ret _ rfl rfl rfl rfl
 .obtain⟨b,f,c,g,_⟩:=EO (aB P) x;exact ret _ (by rw[c];rfl) (by rw[f];rfl) (by rw[b];rfl) (by rw[g];rfl)
 .have i:((aB P).raise ch).mode=.panicking ch:=rfl;rw[j4 (by rw[i];simp)];unfold unwind;have j:((aB P).raise ch).defers=[]:=rfl;rw[j];dsimp only;rw[i];dsimp only;have k:((aB P).raise ch).catches P=true:=by unfold Frame.catches;have l:((aB P).raise ch).fn=P.funcs.size:=rfl;have m:((aB P).raise ch).todo=[.call {target:=.nil,args:=#[]} false "fmt's door" #[]]:=rfl;rw[l,a,m];dsimp only;decide+kernel
  rw[k];exact⟨_,_,_,rfl⟩
end
section
variable{T:Tables}{F:Array Func}{D:Nat->Prop}{w:aa}{fr:ah}{gs:List ah}
def Rp{trap}(a:trap.mode=.returning)(f:Twin T F F (λ_=>False))(L:a5T T D w fr gs){g' w' es}(g:stepG ⟨T,F⟩ true (an fr (gs++[trap])) w=.go g' w' es):(∃fr' b,g'=an fr' (b++[trap]))\/∃t,g'=an t []/\mo trap t:=by
 obtain⟨_,_,_,_,_,_,_,h⟩|⟨_,t,j,k⟩:=tF (main:=true) (below:=[]) (up a) f (L.rel trap w.tape w.drawn) g (λi _=>rfl)
 .rcases h with⟨c,d,_,_,l,_⟩|⟨_,_,_,_,_,_,_,_,e,_⟩
  .exact .inl ⟨c,d,l⟩
  .exact e.1.elim
 .exact .inr ⟨t,j,k⟩
theorem xd{P}:∀n k m a,runN P n m=.next a->runN P (n+k) m=runN P k a
 |0,k,m,a,h=>by simp only[runN,Stepped.next.injEq]at h;rw[h,dG]
 |n+1,k,m,a,h=>by
  rw[a6G];simp only[runN]at h⊢;cases b:step P m with
  |next c=>rw[b]at h;exact xd n k c a h
  |ended o w=>rw[b]at h;cases h
def At(T:Tables)(F:Array Func)(trap:ah)(Stop:ah->List ah->aa->Prop)(a:ah)(b:List ah)(d:aa)(k:Nat)(fr:ah)(gs:List ah)(w:aa)(σ:Nat->Question->Nat)(e:Nat):Prop:=
 ∀τ:Nat->Question->Nat,(∀i,i<e->τ i=σ i)->runN ⟨T,F⟩ k (lone a (b++[trap]) (re d τ 0))=.next (lone fr (gs++[trap]) (re w τ e))/\
  ∀n,n<k->∀fr' c w',runN ⟨T,F⟩ n (lone a (b++[trap]) (re d τ 0))=.next (lone fr' (c++[trap]) w')->¬Stop fr' c w'
def Mu(z:Twin T F F (λ_=>False))(H:T.inits.idxOf? F.size=none){Stop}(A:∀fr gs w τ d,Stop fr gs (re w τ d)->Stop fr gs w){s u I}(ht:∀τ,∃n fr' b w',runN ⟨T,F⟩ n (lone s (u++[aB ⟨T,F⟩]) (re I τ 0))=.next (lone fr' (b++[aB ⟨T,F⟩]) w')/\Stop fr' b w'){k σ e}(hA:At T F (aB ⟨T,F⟩) Stop s u I k fr gs w σ e)(L:a5T T D w fr gs)(hn: ¬Fin ⟨T,F⟩ (aB ⟨T,F⟩) Stop fr gs w):∃fr' b w' σ' e',(¬Fin ⟨T,F⟩ (aB ⟨T,F⟩) Stop fr' b w'/\(∃J,a5T T J w' fr' b)/\At T F (aB ⟨T,F⟩) Stop s u I (k+1) fr' b w' σ' e')/\e<=e'/\∀i,i<e->σ' i=σ i:=by
 have r:(aB ⟨T,F⟩).mode=.returning:=rfl;have B: ¬Stop fr gs w:=λh=>hn (.stop h);have f:∀τ d,∃fr' b w' es,stepG ⟨T,F⟩ true (an fr (gs++[aB ⟨T,F⟩])) (re w τ d)=.go (an fr' (b++[aB ⟨T,F⟩])) w' es:=by
  intro τ d;obtain⟨g,c⟩:=hA (λi=>if i<e then σ i else τ (d+(i - e))) (λi v=>by simp[v]);obtain⟨n,K,M,N,m,O⟩:=ht (λi=>if i<e then σ i else τ (d+(i - e)));have ab:k<n:=by
   obtain h|h|h:=Nat.lt_trichotomy n k
   .exact absurd O (c n h K M N m)
   .subst h;rw[g]at m;simp only[Stepped.next.injEq]at m;obtain⟨rfl,p,rfl⟩:=mJ m;have p:=jA p;subst p;exact absurd (A _ _ _ _ _ O) B
   .exact h
  have a:=xd k (n - k) _ _ g;rw[show k+(n - k)=(n - k - 1+1)+k by omega,a8e _ k,show k+(n - k - 1+1)=n by omega,m]at a;rw[show n - k=(n - k - 1)+1 by omega]at a;simp only[runN]at a;have x:=L.re (λi=>if i<e then σ i else τ (d+(i - e))) e;obtain⟨f1,c1,w2,es2,l⟩|⟨o,w2,es2,C⟩:=IZ (cs:=gs++[aB ⟨T,F⟩]) z x.ok x.all (by simp)
  .rcases Rp r z x l with⟨f2,g2,p⟩|⟨t,p,E⟩
   .rw[p]at l;obtain⟨Q,j,R,_,_⟩:=Ai r z x l τ d (λi _=>by
     simp only[Mir.re];rw[if_neg (by omega)];congr 1;omega)
    exact⟨f2,g2,_,_,R⟩
   .exfalso;obtain⟨rfl,rfl⟩:=ej p;rw[sE l]at a;obtain⟨o,w3,Q,S⟩:=A4 (P:=⟨T,F⟩) (w:=w2) H E;dsimp only at a;rcases hk:n - k - 1 with _|q
    .rw[hk]at a;simp only[runN,Stepped.next.injEq]at a;have:=(mJ a).2.1;simp at this
    .rw[hk]at a;simp only[runN,oN S]at a;cases a
  .exfalso;rw[oN C]at a;cases a
 have:∃τ d fr' b w' es,stepG ⟨T,F⟩ true (an fr (gs++[aB ⟨T,F⟩])) (re w τ d)=.go (an fr' (b++[aB ⟨T,F⟩])) w' es/\¬Fin ⟨T,F⟩ (aB ⟨T,F⟩) Stop fr' b w':=by refine fx λU=>hn ?_;refine .step (λτ d=>(f τ d).choose) (λτ d=>(f τ d).choose_spec.choose) (λτ d=>(f τ d).choose_spec.choose_spec.choose) (λτ d=>(f τ d).choose_spec.choose_spec.choose_spec.choose) (λτ d=>(f τ d).choose_spec.choose_spec.choose_spec.choose_spec) λτ d=>?_;refine fx λhf=>U ⟨τ,d,_,_,_,_,(f τ d).choose_spec.choose_spec.choose_spec.choose_spec,hf⟩
 obtain⟨V,y,fr',b,w',ad,l,W⟩:=this;have x:=L.re V y;obtain⟨_,j,_,hj,J,L'⟩:=Ai r z x l V y (λi _=>rfl);refine⟨fr',b,w',λi=>if i<e then σ i else V (y+(i - e)),e+j,⟨W,⟨J,L'⟩,λτ hτ=>?_⟩,by omega,λi v=>by simp[v]⟩;obtain⟨g,c⟩:=hA τ (λi v=>by rw[hτ i (by omega)];simp[v]);obtain⟨es2,j2,R,X,_⟩:=Ai r z x l τ e (λi v=>by
  have ae:y+i<w'.drawn:=v;simp only[Mir.re]at hj⊢;rw[hτ (e+i) (by omega)];dsimp only;rw[if_neg (by omega)];congr 1;omega)
 have Y:j2=j:=by have m:w'.drawn=y+j:=hj;have O:w'.drawn=y+j2:=X;omega
 subst Y;have Z:stepG ⟨T,F⟩ true (an fr (gs++[aB ⟨T,F⟩])) (re w τ e)=.go (an fr' (b++[aB ⟨T,F⟩])) (re w' τ (e+j2)) es2:=R;refine⟨?_,λn ag f1 g1 N m=>?_⟩
 .rw[xd k 1 _ _ g];simp only[runN,sE Z]
 .rcases a8g n k with h|h
  .exact c n h f1 g1 N m
  .have:n=k:=by omega
   subst this;rw[g]at m;simp only[Stepped.next.injEq]at m;obtain⟨rfl,p,rfl⟩:=mJ m;have p:=jA p;subst p;exact λh=>B (A _ _ _ _ _ h)
def Cq(B:Twin T F F (λ_=>False))(o:T.inits.idxOf? F.size=none){Stop}(p:∀fr gs w τ d,Stop fr gs (re w τ d)->Stop fr gs w)(L:a5T T D w fr gs)(u:∀τ,∃n fr' g w',runN ⟨T,F⟩ n (lone fr (gs++[aB ⟨T,F⟩]) (re w τ 0))=.next (lone fr' (g++[aB ⟨T,F⟩]) w')/\Stop fr' g w'):Fin ⟨T,F⟩ (aB ⟨T,F⟩) Stop fr gs w:=by
 refine fx λC=>?_;let f:=ah×List ah×aa×(Nat->Question->Nat)×Nat;let Ok:Nat->f->Prop:=λk s=> ¬Fin ⟨T,F⟩ (aB ⟨T,F⟩) Stop s.1 s.2.1 s.2.2.1/\(∃E,a5T T E s.2.2.1 s.1 s.2.1)/\At T F (aB ⟨T,F⟩) Stop fr gs w k s.1 s.2.1 s.2.2.1 s.2.2.2.1 s.2.2.2.2;have h0:Ok 0 (fr,gs,w,λ_ _=>0,0):=⟨C,⟨D,L⟩,λτ _=>⟨rfl,λn h=>absurd h (a6u n)⟩⟩;have b:∀k (s:{s:f // Ok k s}),∃v:{s:f // Ok (k+1) s},s.1.2.2.2.2<=v.1.2.2.2.2/\∀i,i<s.1.2.2.2.2->v.1.2.2.2.1 i=s.1.2.2.2.1 i:=by rintro k ⟨⟨x,y,z,σ,e⟩,q,⟨V,H⟩,r⟩;obtain⟨I,J,K,M,N,t,O,Q⟩:=Mu B o p u r H q;exact⟨⟨⟨I,J,K,M,N⟩,t⟩,O,Q⟩
 obtain⟨a,l⟩:∃a:∀k,{s:f // Ok k s},∀k,(a k).1.2.2.2.2<=(a (k+1)).1.2.2.2.2/\∀i,i<(a k).1.2.2.2.2->(a (k+1)).1.2.2.2.1 i=(a k).1.2.2.2.1 i:=
  ⟨λk=>Nat.rec ⟨_,h0⟩ (λk s=>(b k s).choose) k,λk=>(b k _).choose_spec⟩
 have c:∀k j,(a k).1.2.2.2.2<=(a (k+j)).1.2.2.2.2/\∀i,i<(a k).1.2.2.2.2->(a (k+j)).1.2.2.2.1 i=(a k).1.2.2.2.1 i:=by
  intro k j;induction j with
  |zero=>exact⟨aF _,λ_ _=>rfl⟩
  |succ j A=>have:=l (k+j);exact⟨dF A.1 this.1,λi m=>by rw[show k+(j+1)=k+j+1 by omega,this.2 i (by omega),A.2 i m]⟩
 obtain⟨τ,R⟩:∃τ:Nat->Question->Nat,∀k i,i<(a k).1.2.2.2.2->τ i=(a k).1.2.2.2.1 i:=by
  refine⟨λi=> @dite _ (∃k,i<(a k).1.2.2.2.2) (Classical.propDecidable _) (λh=>(a h.choose).1.2.2.2.1 i) (λ_ _=>0),λk i m=>?_⟩;have hex:∃k,i<(a k).1.2.2.2.2:=⟨k,m⟩;dsimp only;rw[dif_pos hex];have S:=hex.choose_spec;obtain h|h:=Nat.le_total k hex.choose
  .have:=(c k (hex.choose - k)).2 i m;rw[show k+(hex.choose - k)=hex.choose by omega]at this;exact this
  .have:=(c hex.choose (k - hex.choose)).2 i S;rw[show hex.choose+(k - hex.choose)=k by omega]at this;exact this.symm
 obtain⟨n,x,y,z,q,U⟩:=u τ;have r:=(a (n+1)).2.2.2;exact(r τ (R (n+1))).2 n (kj n) x y z q U
end
end Go.Mir
end
