import Derived.Test.YtdnpeefnobjfaaaGreatDoorK01
set_option maxRecDepth 100000
set_option maxHeartbeats 4000000
set_option linter.all false
section
namespace Go.Mir
def gy(w v:aa)(n:Nat):Prop:=∀i,w.drawn+i<n->v.tape (v.drawn+i)=w.tape (w.drawn+i)
def fH{α:Type}:Result α->aa
 | .ok _ w=>w
 | .halt _ w=>w
def Mc{α}:∀(a:Ask α) (w:aa),w.drawn<=(w.ask a).2.drawn:=by
 intro a;induction a with
 |done a=>intro w;exact aF _
 |ask c b k d=>
  intro w;simp only[World.ask];split
  .exact d _ _
  .exact dF (a7e _) (d _ {w with drawn:=w.drawn+1})
def a1G(c)(w:aa):w.drawn<=(w.sys c).2.drawn:=by
 have:=Mc (Kernel.perform c w.os) w;unfold World.sys;split
 .exact aF _
 .rename_i r b d _ a;rw[a]at this;exact this
def QT{P}{w f:aa}{a v b t}(h:w.farStore P a v b=.ok (f,t)):f.drawn=w.drawn:=by
 simp only[World.farStore]at h;split at h
 .rename_i d u g;cases c:w.viewStore P d u a v b with
  |error e=>rw[c]at h;cases h
  |ok r=>
   rw[c]at h;cases h;unfold World.viewStore at c;simp only[bind,Except.bind]at c;split at c
   .cases c
   .split at c
    .cases c
    .split at c
     .split at c
      .cases c
      .split at c
       .cases c
       .cases c;rfl
     .cases c
 .cases h
def H3{P α}:∀(s:Sem α) (w) (es),w.drawn<=(fH (s.runT P w es).1).drawn:=by
 intro s;induction s with
 |pure a=>intros;exact aF _
 |load m a k b=>
  intro w es;simp only[Sem.runT];split
  .exact b _ _ _
  .split
   .exact b _ _ _
   .exact aF _
 |store m a v k b=>
  intro w es;have e:(∀c,v≠Value.agg c)->(∀c,v≠Value.tuple c)->w.drawn<=(fH (Sem.runT P (.store m a v k) w es).1).drawn:=by
   intro f g;have i:Sem.runT P (.store m a v k) w es=match w.cell? a with
     |some _=>if w.frozen? a then (.halt (.unsupported (.unsafePointer "a write to bytes that a string shares")) w,es)else k.runT P (w.setCell a v) (es.push ⟨.cell a,true,m==.atomic⟩)
     |none=>match w.farStore P a v (m==.atomic)with
      | .ok (w,d)=>k.runT P w (es++d.toArray.map (⟨.cell ·,true,m==.atomic⟩))
      | .error h=>(.halt h w,es):=by
    cases v<;>first|rfl|exact absurd rfl (f _)|exact absurd rfl (g _)
   rw[i];split
   .split
    .exact aF _
    .exact b (w.setCell a v) _
   .cases j:w.farStore P a v (m==.atomic)with
    |ok q=>obtain⟨l,t⟩:=q;have:=b l (es++t.toArray.map (⟨.cell ·,true,m==.atomic⟩));rw[QT j]at this;exact this
    |error h=>exact aF _
  cases v<;>first|exact aF _|exact e (by simp) (by simp)
 |new o k b=>intro w es;exact b _ {w with heap:=w.heap.push o} _
 |shape r k b=>intro w es;exact b _ _ _
 |freeze a n k b=>
  intro w es;have:=b (w.freeze a n) es;have p:(w.freeze a n).drawn=w.drawn:=by unfold World.freeze;split<;>rfl
  rw[p]at this;exact this
 |frozen a k b=>intro w es;exact b _ _ _
 |getObj r k b=>intro w es;simp only[Sem.runT];split<;>first|exact aF _|exact b _ _ _
 |setObj r o k b=>intro w es;simp only[Sem.runT];split<;>first|exact aF _|exact b {w with heap:=w.heap.setIfInBounds r o} _
 |choose q k b=>
  intro w es;simp only[Sem.runT];split
  .exact b _ _ _
  .exact dF (a7e _) (b _ {w with drawn:=w.drawn+1} _)
 |sys c k b=>intro w es;exact dF (a1G c w) (b _ (w.sys c).2 _)
 |program k b=>intro w es;exact b _ _ _
 |mark m k b=>intro w es;exact b _ _
 |halt h=>intros;exact aF _
structure Grown (D D':Nat->Prop) (b1:Nat->Nat) (w w' v v':aa):Prop where
 grow:v'.heap.size+w.heap.size=w'.heap.size+v.heap.size
 xH:∀c,c<w.heap.size->¬D c->w'.heap[c]?=w.heap[c]?
 wb:∀b,w.heap.size<=b->b<w'.heap.size->D' b
 sJ:∀b,D' b->D b\/(w.heap.size<=b/\b1 b+w.heap.size=b+v.heap.size)
def Grown.still{D aj w w' v v'}(a:w'.heap.size=w.heap.size)(d:v'.heap.size=v.heap.size)(e:∀c,¬D c->w'.heap[c]?=w.heap[c]?):Grown D D aj w w' v v':=
 ⟨by rw[a,d,a8e],λc _ h=>e c h,λb f g=>by omega,λ_ h=>.inl h⟩
structure a5J (D D':Nat->Prop) (aj b1:Nat->Nat) (w w' v v':aa) (u u':Array aJ):Prop where
 more:∀b,D b->D' b/\b1 b=aj b
 new:∀b,D' b->D b\/(w.heap.size<=b/\v.heap.size<=b1 b)
 size:v.heap.size<=v'.heap.size
 nS:w.heap.size<=w'.heap.size
 frame:∀c,c<v.heap.size->(∀b,D b->aj b≠c)->v'.heap[c]?=v.heap[c]?
 tape:v'.tape=v.tape
 os:v'.os=v.os
 output:v'.output=v.output
 nT:w'.tape=w.tape
 mV:w'.os=w.os
 po:w'.output=w.output
 drawn:∃j,v'.drawn=v.drawn+j/\w'.drawn=w.drawn+j
 ev:∀f,aQ D' b1 f->u'=u.map (cz f)
 gr:Grown D D' b1 w w' v v'
 qu:∀e∈u,∀m,e.loc=.mark m->oU m=true
 lw:∀e∈u',mK v'.heap.size e
section
variable{D D' b5:Nat->Prop}{aj b1 b2:Nat->Nat}{w w' b3 v v' b4:aa}{u u' x x':Array aJ}
def a5J.refl:a5J D D aj aj w w v v #[] #[]:=
 ⟨λb a=>⟨a,rfl⟩,λb a=>.inl a,aF _,aF _,λ_ _ _=>rfl,rfl,rfl,rfl,rfl,rfl,rfl,⟨0,rfl,rfl⟩,λ_ _=>by simp,Grown.still rfl rfl λ_ _=>rfl,by simp,by simp⟩
def a5J.trans(h:a5J D D' aj b1 w w' v v' u u')(k:a5J D' b5 b1 b2 w' b3 v' b4 x x'):a5J D b5 aj b2 w b3 v b4 (u++x) (u'++x') where
 more b hb:=⟨(k.more b (h.more b hb).1).1,by rw[(k.more b (h.more b hb).1).2,(h.more b hb).2]⟩
 new b hb:=by
  have h1:=h.size;have h2:=h.nS;obtain hb'|hb':=k.new b hb
  .rcases h.new b hb' with hb''|hb''
   .exact .inl hb''
   .exact .inr ⟨hb''.1,by rw[(k.more b hb').2];exact hb''.2⟩
  .exact .inr ⟨by omega,by omega⟩
 size:=dF h.size k.size
 nS:=dF h.nS k.nS
 frame c hc hn:=by
  rw[k.frame c (cG hc h.size) ?_,h.frame c hc hn];intro b hb e;obtain hb'|hb':=h.new b hb
  .exact hn b hb' (by rw[<-(h.more b hb').2];exact e)
  .omega
 tape:=k.tape.trans h.tape
 os:=k.os.trans h.os
 output:=k.output.trans h.output
 nT:=k.nT.trans h.nT
 mV:=k.mV.trans h.mV
 po:=k.po.trans h.po
 drawn:=by obtain⟨i,h1,h2⟩:=h.drawn;obtain⟨j,k1,k2⟩:=k.drawn;exact⟨i+j,by omega,by omega⟩
 ev f hf:=by rw[k.ev f hf,h.ev f (hf.less k.more),iM]
 gr:=by
  have g1:=h.gr.grow;have g2:=k.gr.grow;refine⟨by omega,λc hc hn=>?_,λb h1 h2=>?_,λb hb=>?_⟩
  .rw[k.gr.xH c (cG hc h.nS) ?_,h.gr.xH c hc hn];intro hd;obtain h1|h1:=h.gr.sJ c hd
   .exact hn h1
   .omega
  .by_cases hb:b<w'.heap.size
   .exact(k.more b (h.gr.wb b h1 hb)).1
   .exact k.gr.wb b (by omega) h2
  .rcases k.gr.sJ b hb with h1|h1
   .rcases h.gr.sJ b h1 with h2|h2
    .exact .inl h2
    .exact .inr ⟨h2.1,by rw[(k.more b h1).2];exact h2.2⟩
   .have:=h.nS;exact .inr ⟨by omega,by omega⟩
 qu e he:=(l8.1 he).elim (h.qu e) (k.qu e)
 lw e he:=(l8.1 he).elim (λq=>(h.lw e q).mono k.size) (k.lw e)
end
def zE{a:Array Obj}{y b c}(h:b≠c):(a.modify b y)[c]?=a[c]? :=by rw[j7];simp[h]
section
variable{lk:Prop}{lz:Nat->Obj->Prop}{T:Tables}{F F':Array Func}{α β:Type}
def a0p{R:(Nat->Nat)->α->β->Prop}:∀s s' D aj w v w' es A p a,cL lk lz T.globals.size D aj w v->gy w v w'.drawn->v.os=w.os->(∀f,aQ D aj f->aE ⟨T,F⟩ ⟨T,F'⟩ f (R f) s s')->s.runT ⟨T,F⟩ w es=(.ok a w',A)->∃(D':Nat->Prop) (b1:Nat->Nat) (b:β) (v':aa) (u u':Array aJ),s'.runT ⟨T,F'⟩ v p=(.ok b v',p++u')/\A=es++u/\cL lk lz T.globals.size D' b1 w' v'/\(∀f,aQ D' b1 f->R f a b)/\a5J D D' aj b1 w w' v v' u u':=by
 intro s;induction s with
 |pure a0=>intro s' D aj w v w' es A p a h N E I t;have C:=I _ (aN h 0);cases s'<;>simp only[aE]at C;rename_i b0;simp only[Sem.runT,gQ,Result.ok.injEq]at t;obtain⟨⟨rfl,rfl⟩,rfl⟩:=t;exact⟨D,aj,b0,v,#[],#[],by simp[Sem.runT],by simp,h,I,a5J.refl⟩
 |load m ad k S=>
  intro s' D aj w v w' es A p a h N E I t;have C:=I _ (aN h 0);cases s'<;>simp only[aE]at C;rename_i M l O;obtain⟨rfl,_,_⟩:=C;have W:∀f,aQ D aj f->l=aH f ad:=λf d=>(I f d).2.1;have Q:D ad.block:=k7 h (c:=l.block) λf d=>by rw[W f d];rfl
  have X:=λf d=>CC (a:=ad) (f:=f) h d Q;simp only[Sem.runT]at t;cases Y:w.cell? ad with
  |none=>
   rw[Y]at t;simp only[World.farLoad]at t;cases ho:w.heap[ad.block]? with
   |none=>simp[ho]at t
   |some o=>
    cases o<;>simp only[ho]at t<;>try(cases t;done)
    rename_i at_ u;cases hv:w.viewLoad ⟨T,F⟩ at_ u ad (M==.atomic)with
    |error e=>rw[hv]at t;cases t
    |ok q=>
     obtain⟨x,B⟩:=q;rw[hv]at t;dsimp only at t;have K:=λf d=>h.live f d Q (by rw[ho];simp[dead]);rw[ho]at K;simp only[Option.map_some,ct]at K;have ag:D at_.block:=k7 h (c:=(aH (λb=> @ite _ (D b) (Classical.propDecidable _) (aj b) (v.heap.size+0+b)) at_).block) λf d=>by have U:=K f d;rw[K _ (aN h 0)]at U;simp only[cw,Obj.view.injEq]at U;rw[U.1];rfl
     have al:=λf d=>a3h (F:=F) (F':=F') (f:=f) h d ag hv;obtain⟨D',b1,b,v',u1,av,Z,V,h3,h4,L⟩:=S x (O x) D aj w v w' (es++B.toArray.map (⟨.cell ·,false,M==.atomic⟩)) A (p++(B.map (aH (λb=> @ite _ (D b) (Classical.propDecidable _) (aj b) (v.heap.size+0+b)))).toArray.map (⟨.cell ·,false,M==.atomic⟩)) a h N E
      (λf d=>by
       have:=(I f d).2.2 x;rw[(al f d).2]at this;exact this) t
     refine⟨D',b1,b,v',B.toArray.map (⟨.cell ·,false,M==.atomic⟩)++u1,(B.map (aH (λb=> @ite _ (D b) (Classical.propDecidable _) (aj b) (v.heap.size+0+b)))).toArray.map (⟨.cell ·,false,M==.atomic⟩)++av,?_,by rw[V,<-fQ],h3,h4,?_⟩
     .have e2:=X _ (aN h 0);rw[<-W _ (aN h 0),Y]at e2;have e3:=K _ (aN h 0);have e4:l.block=aj ad.block:=by rw[W _ (aN h 0)];exact(aN h 0).on _ Q
      have e5:=(al _ (aN h 0)).1;rw[<-W _ (aN h 0)]at e5;simp only[Sem.runT,e2,kl,World.farLoad,e4,e3,e5];rw[Z,<-fQ]
     .refine a5J.trans ?_ L;refine⟨λb J=>⟨J,rfl⟩,λb J=>.inl J,aF _,aF _,λ_ _ _=>rfl,rfl,rfl,rfl,rfl,rfl,rfl,⟨0,rfl,rfl⟩,λf d=>?_,Grown.still rfl rfl λ_ _=>rfl,by intro e H;simp at H;first|(subst H;simp;done)|(obtain⟨_,_,rfl⟩:=H;simp;done),λe H=>by obtain⟨y,hy,rfl⟩:=l9.1 H;exact a3g (al _ (aN h 0)).1 y (by simpa using hy)⟩;have e6:=(al f d).1;have e7:=(al _ (aN h 0)).1;have e8:aH f at_=aH (λb=> @ite _ (D b) (Classical.propDecidable _) (aj b) (v.heap.size+0+b)) at_:=by have U:=K f d;rw[K _ (aN h 0)]at U;simp only[cw,Obj.view.injEq]at U;exact U.1.symm
      rw[e8,<-W f d,W _ (aN h 0),e7]at e6;simp only[a6t,gQ,true_and]at e6;rw[e6];simp[cz,cX,a7b]
  |some x=>
   rw[Y]at t;obtain⟨D',b1,b,v',u,u',Z,V,h3,h4,L⟩:=S x (O (ak (λb=> @ite _ (D b) (Classical.propDecidable _) (aj b) (v.heap.size+0+b)) x)) D aj w v w' (es.push ⟨.cell ad,false,M==.atomic⟩) A (p.push ⟨.cell l,false,M==.atomic⟩) a h N E
    (λf d=>by
     have U:=X f d;rw[<-W f d]at U;have e2:=X _ (aN h 0);rw[<-W _ (aN h 0),U,Y]at e2;simp only[Option.map_some,cw]at e2;rw[<-e2];exact(I f d).2.2 x) t
   refine⟨D',b1,b,v',#[⟨.cell ad,false,M==.atomic⟩]++u,#[⟨.cell l,false,M==.atomic⟩]++u',?_,by rw[V,<-fQ,jE],h3,h4,?_⟩
   .simp only[Sem.runT];have e2:=X _ (aN h 0);rw[<-W _ (aN h 0),Y]at e2;rw[e2];simp only[Option.map_some];rw[Z,<-fQ,jE]
   .refine a5J.trans ?_ L;exact⟨λb J=>⟨J,rfl⟩,λb J=>.inl J,aF _,aF _,λ_ _ _=>rfl,rfl,rfl,rfl,rfl,rfl,rfl,⟨0,rfl,rfl⟩,λf d=>by simp[cz,cX,<-W f d],Grown.still rfl rfl λ_ _=>rfl,by intro e H;simp at H;first|(subst H;simp;done)|(obtain⟨_,_,rfl⟩:=H;simp;done),λe H=>by simp at H;subst H;exact CB (w:=v) (a:=l) (x:=ak _ x) (by rw[W _ (aN h 0),X _ (aN h 0),Y];rfl)⟩
 |store m ad x k S=>
  intro s' D aj w v w' es A p a h N E I t;have C:=I _ (aN h 0);cases s'<;>simp only[aE]at C;rename_i M l x' O;obtain⟨rfl,_,_,_⟩:=C;have W:∀f,aQ D aj f->l=aH f ad:=λf d=>(I f d).2.1;have ex:∀f,aQ D aj f->x'=ak f x:=λf d=>(I f d).2.2.1;have Q:D ad.block:=k7 h (c:=l.block) λf d=>by rw[W f d];rfl
  have J:l.block=aj ad.block:=by rw[W _ (aN h 0)];exact(aN h 0).on _ Q
  have X:=CC (a:=ad) h (aN h 0) Q;have hz:=EZ (a:=ad) h (aN h 0) Q;rw[<-W _ (aN h 0)]at X hz;have aP:(∀c,x≠.agg c)/\∀c,x≠.tuple c:=by constructor<;>rintro c rfl<;>simp[Sem.runT]at t
  have bd:(∀c,x'≠.agg c)/\∀c,x'≠.tuple c:=by have e:=ex _ (aN h 0);obtain⟨Z,V⟩:=aP;constructor<;>rintro c rfl<;>cases x<;>simp_all
  have bp:Sem.runT ⟨T,F⟩ (.store M ad x k) w es=match w.cell? ad with
    |some _=>if w.frozen? ad then (.halt (.unsupported (.unsafePointer "a write to bytes that a string shares")) w,es)else k.runT ⟨T,F⟩ (w.setCell ad x) (es.push ⟨.cell ad,true,M==.atomic⟩)
    |none=>match w.farStore ⟨T,F⟩ ad x (M==.atomic)with
     | .ok (w,B)=>k.runT ⟨T,F⟩ w (es++B.toArray.map (⟨.cell ·,true,M==.atomic⟩))
     | .error h=>(.halt h w,es):=by
   cases x<;>first|rfl|exact absurd rfl (aP.1 _)|exact absurd rfl (aP.2 _)
  have ar:Sem.runT ⟨T,F'⟩ (.store M l x' O) v p=match v.cell? l with
    |some _=>if v.frozen? l then (.halt (.unsupported (.unsafePointer "a write to bytes that a string shares")) v,p)else O.runT ⟨T,F'⟩ (v.setCell l x') (p.push ⟨.cell l,true,M==.atomic⟩)
    |none=>match v.farStore ⟨T,F'⟩ l x' (M==.atomic)with
     | .ok (w,B)=>O.runT ⟨T,F'⟩ w (p++B.toArray.map (⟨.cell ·,true,M==.atomic⟩))
     | .error h=>(.halt h v,p):=by
   cases x'<;>first|rfl|exact absurd rfl (bd.1 _)|exact absurd rfl (bd.2 _)
  rw[bp]at t;cases Y:w.cell? ad with
  |none=>
   rw[Y]at t;simp only[World.farStore]at t;cases ho:w.heap[ad.block]? with
   |none=>simp[ho]at t
   |some o=>
    cases o<;>simp only[ho]at t<;>try(cases t;done)
    rename_i at_ u;cases hv:w.viewStore ⟨T,F⟩ at_ u ad x (M==.atomic)with
    |error e=>rw[hv]at t;cases t
    |ok q=>
     obtain⟨w1,B⟩:=q;rw[hv]at t;dsimp only at t;have K:=λf d=>h.live f d Q (by rw[ho];simp[dead]);rw[ho]at K;simp only[Option.map_some,ct]at K;have g:∀f,aQ D aj f->aH (λb=> @ite _ (D b) (Classical.propDecidable _) (aj b) (v.heap.size+0+b)) at_=aH f at_:=by intro f d;have U:=K f d;rw[K _ (aN h 0)]at U;simp only[cw,Obj.view.injEq]at U;exact U.1
     have ag:D at_.block:=k7 h (c:=(aH (λb=> @ite _ (D b) (Classical.propDecidable _) (aj b) (v.heap.size+0+b)) at_).block) λf d=>by rw[g f d];rfl
     obtain⟨v1,t1,bl,br,bs,⟨ow,ae⟩,⟨ov,ab⟩⟩:=a3k (F:=F) (F':=F') h ag hv g W ex;have bw:(aH (λb=> @ite _ (D b) (Classical.propDecidable _) (aj b) (v.heap.size+0+b)) at_).block=aj at_.block:=(aN h 0).on _ ag;obtain⟨D',b1,b,v',u1,av,Z,V,h3,h4,L⟩:=S O D aj w1 v1 w' (es++B.toArray.map (⟨.cell ·,true,M==.atomic⟩)) A (p++t1.toArray.map (⟨.cell ·,true,M==.atomic⟩)) a br (by rw[ae,ab];exact N) (by rw[ae,ab];exact E)
      (λf d=>(I f d).2.2.2) t
     refine⟨D',b1,b,v',B.toArray.map (⟨.cell ·,true,M==.atomic⟩)++u1,t1.toArray.map (⟨.cell ·,true,M==.atomic⟩)++av,?_,by rw[V,<-fQ],h3,h4,?_⟩
     .rw[ar,X,Y];have e3:=K _ (aN h 0);simp only[kl,World.farStore,J,e3,bl];rw[Z,<-fQ]
     .refine a5J.trans ?_ L;refine⟨λb J=>⟨J,rfl⟩,λb J=>.inl J,by rw[ab];simp,by rw[ae];simp,λc _ hn=>?_,by rw[ab],by rw[ab],by rw[ab],by rw[ae],by rw[ae],by rw[ae],⟨0,by rw[ab];rfl,by rw[ae];rfl⟩,λf d=>?_,Grown.still (by rw[ae];simp) (by rw[ab];simp) λc X=>by rw[ae];simp only[];rw[di];intro e;exact X (e▸ag),by intro e H;simp at H;first|(subst H;simp;done)|(obtain⟨_,_,rfl⟩:=H;simp;done),λe H=>by obtain⟨y,hy,rfl⟩:=l9.1 H;have:=a3j bl y (by simpa using hy);rw[ab];simpa[mK]using this⟩
      .rw[ab];simp only[];rw[di];rw[bw];exact hn _ ag
      .rw[bs f d];simp[cz,cX,a7b]
  |some y=>
   simp only[Y]at t;by_cases bn:w.frozen? ad=true
   .simp[bn]at t
   .have au:w.frozen? ad=false:=by simpa using bn
    simp only[au,dj,if_false]at t;obtain⟨D',b1,b,v',u,u',Z,V,h3,h4,L⟩:=S O D aj (w.setCell ad x) (v.setCell l x') w' (es.push ⟨.cell ad,true,M==.atomic⟩) A (p.push ⟨.cell l,true,M==.atomic⟩) a (h.setCell Q W ex) N E (λf d=>(I f d).2.2.2) t;refine⟨D',b1,b,v',#[⟨.cell ad,true,M==.atomic⟩]++u,#[⟨.cell l,true,M==.atomic⟩]++u',?_,by rw[V,<-fQ,jE],h3,h4,?_⟩
    .rw[ar,X,Y,hz,au];simp only[Option.map_some,dj,if_false];rw[Z,<-fQ,jE]
    .refine a5J.trans ?_ L;exact⟨λb J=>⟨J,rfl⟩,λb J=>.inl J,by simp[World.setCell],by simp[World.setCell],λc _ hn=>by simp only[World.setCell];exact zE (by rw[J];exact hn _ Q),rfl,rfl,rfl,rfl,rfl,rfl,⟨0,rfl,rfl⟩,λf d=>by simp[cz,cX,<-W f d],Grown.still (by simp[World.setCell]) (by simp[World.setCell]) λc X=>by simp only[World.setCell];exact zE λe=>X (e▸Q),by intro e H;simp at H;first|(subst H;simp;done)|(obtain⟨_,_,rfl⟩:=H;simp;done),λe H=>by simp at H;subst H;have:=CB (w:=v) (a:=l) (by rw[X,Y];rfl);simpa[mK,World.setCell]using this⟩
 |new o k S=>
  intro s' D aj w v w' es A p a h N E I t;have C:=I _ (aN h 0);cases s'<;>simp only[aE]at C;rename_i o' O;have eo:∀f,aQ D aj f->o'=ct f o:=λf d=>(I f d).1;have hm:∀b,D b->rh D w.heap.size b/\jJ aj w.heap.size v.heap.size b=aj b:=λb J=>⟨.inl J,h.kept b J⟩;simp only[Sem.runT]at t;obtain⟨D',b1,b,v',u,u',Z,V,h3,h4,L⟩:=S w.heap.size (O v.heap.size) (rh D w.heap.size) (jJ aj w.heap.size v.heap.size) {w with heap:=w.heap.push o} {v with heap:=v.heap.push o'} w' es A p a (h.new eo C.2.1) N E
   (λf d=>by
    have e:=d.on w.heap.size (.inr rfl);simp only[jJ,if_true]at e;have:=(I f (d.less hm)).2.2 w.heap.size;rw[e]at this;exact this) t
  refine⟨D',b1,b,v',u,u',by simp only[Sem.runT];exact Z,V,h3,h4,?_⟩;have:=a5J.trans (D:=D) (aj:=aj) (w:=w) (v:=v) (w':={w with heap:=w.heap.push o}) (v':={v with heap:=v.heap.push o'}) (u:=#[]) (u':=#[]) ⟨hm,λb J=>J.elim .inl λe=>.inr ⟨by omega,by simp[jJ,e]⟩,by simp,by simp,λc X _=>by simp[a7M X],rfl,rfl,rfl,rfl,rfl,rfl,⟨0,rfl,rfl⟩,λ_ _=>by simp,⟨by simp;omega,λc X _=>by simp only[];rw[a7M X];exact(eF X).symm,λb Z V=>by simp at V;exact .inr (by omega),λb J=>J.elim .inl λe=>.inr ⟨by omega,by simp[jJ,e];omega⟩⟩,by simp,by simp⟩ L;simpa using this
 |shape r k S=>intro s' D aj w v w' es A p a h N E I t;have C:=I _ (aN h 0);cases s'<;>simp only[aE]at C;rename_i r' O;have er:∀f,aQ D aj f->r'=f r:=λf d=>(I f d).1;have Q:D r:=k7 h er;have hs:=a1a h (aN h 0) Q;rw[<-er _ (aN h 0)]at hs;simp only[Sem.runT]at t⊢;rw[hs];exact S _ (O (w.shape? r)) D aj w v w' es A p a h N E (λf d=>(I f d).2 _) t
 |freeze ad n k S=>
  intro s' D aj w v w' es A p a h N E I t;have C:=I _ (aN h 0);cases s'<;>simp only[aE]at C;rename_i l n' O;obtain⟨_,rfl,_⟩:=C;have W:∀f,aQ D aj f->l=aH f ad:=λf d=>(I f d).1;have Q:D ad.block:=k7 h (c:=l.block) λf d=>by rw[W f d];rfl
  have J:l.block=aj ad.block:=by rw[W _ (aN h 0)];exact(aN h 0).on _ Q
  simp only[Sem.runT]at t⊢;have g:∀(w:aa) (ad:ap),(w.freeze ad n').tape=w.tape/\(w.freeze ad n').drawn=w.drawn/\(w.freeze ad n').os=w.os/\(w.freeze ad n').output=w.output/\(w.freeze ad n').heap.size=w.heap.size/\∀c,c≠ad.block->(w.freeze ad n').heap[c]?=w.heap[c]? :=by
   intro w ad;unfold World.freeze;split
   .exact⟨rfl,rfl,rfl,rfl,rfl,λ_ _=>rfl⟩
   .exact⟨rfl,rfl,rfl,rfl,by simp,λc X=>zE (Ne.symm X)⟩
  obtain⟨D',b1,b,v',u,u',Z,V,h3,h4,L⟩:=S O D aj (w.freeze ad n') (v.freeze l n') w' es A p a (h.freeze Q n' W) (λi hi=>by rw[(g w ad).2.1]at hi;rw[(g v l).1,(g w ad).1,(g v l).2.1,(g w ad).2.1];exact N i hi) (by rw[(g v l).2.2.1,(g w ad).2.2.1];exact E) (λf d=>(I f d).2.2) t;refine⟨D',b1,b,v',u,u',Z,V,h3,h4,?_⟩;have:=a5J.trans (D:=D) (aj:=aj) (w:=w) (v:=v) (u:=#[]) (u':=#[]) ⟨λb J=>⟨J,rfl⟩,λb J=>.inl J,by rw[(g v l).2.2.2.2.1];exact aF _,by rw[(g w ad).2.2.2.2.1];exact aF _,λc _ hn=>(g v l).2.2.2.2.2 c (by rw[J];exact(hn _ Q).symm),(g v l).1,(g v l).2.2.1,(g v l).2.2.2.1,(g w ad).1,(g w ad).2.2.1,(g w ad).2.2.2.1,⟨0,(g v l).2.1,(g w ad).2.1⟩,λ_ _=>by simp,Grown.still (g w ad).2.2.2.2.1 (g v l).2.2.2.2.1 λc X=>(g w ad).2.2.2.2.2 c λe=>X (e▸Q),by simp,by simp⟩ L;simpa using this
 |frozen ad k S=>
  intro s' D aj w v w' es A p a h N E I t;have C:=I _ (aN h 0);cases s'<;>simp only[aE]at C;rename_i l O;have W:∀f,aQ D aj f->l=aH f ad:=λf d=>(I f d).1;have Q:D ad.block:=k7 h (c:=l.block) λf d=>by rw[W f d];rfl
  have hz:=EZ (a:=ad) h (aN h 0) Q;rw[<-W _ (aN h 0)]at hz;simp only[Sem.runT]at t⊢;rw[hz];exact S _ (O (w.frozen? ad)) D aj w v w' es A p a h N E (λf d=>(I f d).2 _) t
 |getObj r k S=>
  intro s' D aj w v w' es A p a h N E I t;have C:=I _ (aN h 0);cases s'<;>simp only[aE]at C;rename_i r' O;have er:∀f,aQ D aj f->r'=f r:=λf d=>(I f d).1;have Q:D r:=k7 h er;have hp:r'=aj r:=by rw[er _ (aN h 0)];exact(aN h 0).on _ Q
  obtain⟨hd,o,bo,hk⟩|ba:=a8f (w.heap[r]?=some dead/\∃o,v.heap[aj r]?=some o/\p6 o)
  .have ao:Sem.runT ⟨T,F⟩ (k dead) w (es.push ⟨.obj r,false,false⟩)=(.ok a w',A):=by simpa only[Sem.runT,hd,dead,Obj.isChan]using t
   obtain⟨D',b1,b,v',u,u',Z,V,h3,h4,L⟩:=S dead (O o) D aj w v w' (es.push ⟨.obj r,false,false⟩) A (p.push ⟨.obj r',false,false⟩) a h N E (λf d=>(I f d).2.2 o hk) ao;refine⟨D',b1,b,v',#[⟨.obj r,false,false⟩]++u,#[⟨.obj r',false,false⟩]++u',?_,by rw[V,<-fQ,jE],h3,h4,?_⟩
   .rw[<-fQ,<-jE,<-Z];simp only[Sem.runT,hp,bo];cases o<;>first|exact hk.elim|rfl
   .refine a5J.trans ?_ L;exact⟨λb J=>⟨J,rfl⟩,λb J=>.inl J,aF _,aF _,λ_ _ _=>rfl,rfl,rfl,rfl,rfl,rfl,rfl,⟨0,rfl,rfl⟩,λf d=>by simp[cz,cX,<-er f d],Grown.still rfl rfl λ_ _=>rfl,by intro e H;simp at H;subst H;simp,λe H=>by simp at H;subst H;show r'<_;rw[hp];exact(bW.1 bo).1⟩
  have ho:=λf d=>((h.jn f d r Q).resolve_right λq=>ba ⟨q.1,q.2.choose,q.2.choose_spec.1,q.2.choose_spec.2.1⟩).1;cases Y:w.heap[r]? with
  |none=>simp[Sem.runT,Y]at t
  |some o=>
   have aq:∀c e z,o≠.cells c e z:=by rintro c e z rfl;simp[Sem.runT,Y]at t
   have bb:∀f,(ct f o).isChan=o.isChan:=λf=>by cases o<;>rfl
   have ao:Sem.runT ⟨T,F⟩ (k o) w (es.push ⟨.obj r,false,o.isChan⟩)=(.ok a w',A):=by cases o<;>first|exact absurd rfl (aq _ _ _)|(simp only[Sem.runT,Y]at t;exact t)
   have U:=ho _ (aN h 0);rw[Y]at U;obtain⟨D',b1,b,v',u,u',Z,V,h3,h4,L⟩:=S o (O (ct (λb=> @ite _ (D b) (Classical.propDecidable _) (aj b) (v.heap.size+0+b)) o)) D aj w v w' (es.push ⟨.obj r,false,o.isChan⟩) A (p.push ⟨.obj r',false,o.isChan⟩) a h N E
    (λf d=>by
     have e2:=ho f d;rw[Y,U]at e2;simp only[Option.map_some,cw]at e2;rw[e2];exact(I f d).2.1 o (h.ok r o Q Y)) ao
   refine⟨D',b1,b,v',#[⟨.obj r,false,o.isChan⟩]++u,#[⟨.obj r',false,o.isChan⟩]++u',?_,by rw[V,<-fQ,jE],h3,h4,?_⟩
   .rw[<-fQ,<-jE,<-Z];have hh:=bb (λb=> @ite _ (D b) (Classical.propDecidable _) (aj b) (v.heap.size+0+b));simp only[Option.map_some]at U;simp only[Sem.runT,hp,U];revert hh;generalize ct (λb=> @ite _ (D b) (Classical.propDecidable _) (aj b) (v.heap.size+0+b)) o=o2 at*;intro hh;have:∀c e z,o2≠.cells c e z:=by rintro c e z rfl;have:=U;rw[<-hp]at this;have e3:=ho _ (aN h 0);rw[Y,<-hp,this]at e3;cases o<;>simp[ct]at e3;exact aq _ _ _ rfl
    cases o2<;>first|exact absurd rfl (this _ _ _)|(simp only[hh])
   .refine a5J.trans ?_ L;exact⟨λb J=>⟨J,rfl⟩,λb J=>.inl J,aF _,aF _,λ_ _ _=>rfl,rfl,rfl,rfl,rfl,rfl,rfl,⟨0,rfl,rfl⟩,λf d=>by simp[cz,cX,<-er f d],Grown.still rfl rfl λ_ _=>rfl,by intro e H;simp at H;first|(subst H;simp;done)|(obtain⟨_,_,rfl⟩:=H;simp;done),λe H=>by simp at H;subst H;show r'<_;rw[hp];exact(bW.1 U).1⟩
 |setObj r o k S=>
  intro s' D aj w v w' es A p a h N E I t;have C:=I _ (aN h 0);cases s'<;>simp only[aE]at C;rename_i r' o' O;have er:∀f,aQ D aj f->r'=f r:=λf d=>(I f d).1;have eo:∀f,aQ D aj f->o'=ct f o:=λf d=>(I f d).2.1;have Q:D r:=k7 h er;have hp:r'=aj r:=by rw[er _ (aN h 0)];exact(aN h 0).on _ Q
  have e0:=h.jn _ (aN h 0) r Q;have bb:o'.isChan=o.isChan:=by rw[eo _ (aN h 0)];cases o<;>rfl
  cases Y:w.heap[r]? with
  |none=>simp[Sem.runT,Y]at t
  |some o0=>
   have aq:∀c e z,o0≠.cells c e z:=by rintro c e z rfl;simp[Sem.runT,Y]at t
   have ao:Sem.runT ⟨T,F⟩ k {w with heap:=w.heap.setIfInBounds r o} (es.push ⟨.obj r,true,o.isChan⟩)=(.ok a w',A):=by cases o0<;>first|exact absurd rfl (aq _ _ _)|(simp only[Sem.runT,Y]at t;exact t)
   obtain⟨o1,U,bx⟩:∃o1,v.heap[aj r]?=some o1/\∀c e z,o1≠.cells c e z:=by
    obtain⟨e0,_⟩|⟨_,o1,U,hk,_⟩:=e0
    .rw[Y]at e0;exact⟨_,e0,λc e z q=>by cases o0<;>first|exact aq _ _ _ rfl|(simp[ct]at q;done)⟩
    .exact⟨o1,U,λc e z q=>by subst q;exact hk⟩
   obtain⟨D',b1,b,v',u,u',Z,V,h3,h4,L⟩:=S O D aj {w with heap:=w.heap.setIfInBounds r o} {v with heap:=v.heap.setIfInBounds r' o'} w' (es.push ⟨.obj r,true,o.isChan⟩) A (p.push ⟨.obj r',true,o'.isChan⟩) a (h.setObj Q er eo C.2.2.1) N E (λf d=>(I f d).2.2.2) ao;refine⟨D',b1,b,v',#[⟨.obj r,true,o.isChan⟩]++u,#[⟨.obj r',true,o'.isChan⟩]++u',?_,by rw[V,<-fQ,jE],h3,h4,?_⟩
   .rw[<-fQ,<-jE,<-Z];cases o1<;>first|exact absurd rfl (bx _ _ _)|simp only[Sem.runT,hp,U]
   .refine a5J.trans ?_ L;exact⟨λb J=>⟨J,rfl⟩,λb J=>.inl J,by simp,by simp,λc _ hn=>by simp only[];rw[di];rw[hp];exact hn _ Q,rfl,rfl,rfl,rfl,rfl,rfl,⟨0,rfl,rfl⟩,λf d=>by simp[cz,cX,<-er f d,bb],Grown.still (by simp) (by simp) λc X=>by simp only[];rw[di];intro e;exact X (e▸Q),by intro e H;simp at H;first|(subst H;simp;done)|(obtain⟨_,_,rfl⟩:=H;simp;done),λe H=>by simp at H;subst H;have:=(bW.1 U).1;simpa[mK,hp]using this⟩
 |choose q k S=>
  intro s' D aj w v w' es A p a h N E I t;have C:=I _ (aN h 0);cases s'<;>simp only[aE]at C;rename_i q' O;obtain⟨rfl,_⟩:=C;simp only[Sem.runT]at t⊢;by_cases hq:q'.forced=true
  .simp only[hq,if_true]at t⊢;exact S _ (O 0) D aj w v w' es A p a h N E (λf d=>(I f d).2 _) t
  .have bA:q'.forced=false:=by simpa using hq
   simp only[bA,dj,if_false]at t⊢;have et:v.tape v.drawn q'=w.tape w.drawn q':=congrFun (N 0 (by
    have hd:=H3 (P:=⟨T,F⟩) (k (q'.cut (w.tape w.drawn q'))) {w with drawn:=w.drawn+1} es;rw[t]at hd;simp only[fH]at hd;omega)) q'
   rw[et];obtain⟨D',b1,b,v',u,u',Z,V,h3,h4,L⟩:=S _ (O (q'.cut (w.tape w.drawn q'))) D aj {w with drawn:=w.drawn+1} {v with drawn:=v.drawn+1} w' es A p a (h.same rfl rfl) (λi hi=>by have:=N (i+1) (by simp only at hi;omega);simp only[lG,a8e 1 i]at this⊢;exact this) E (λf d=>(I f d).2 _) t;refine⟨D',b1,b,v',u,u',Z,V,h3,h4,?_⟩;obtain⟨j,j1,j2⟩:=L.drawn;exact⟨L.more,L.new,L.size,L.nS,L.frame,L.tape,L.os,L.output,L.nT,L.mV,L.po,⟨j+1,by simp only at j1;omega,by simp only at j2;omega⟩,L.ev,⟨L.gr.grow,L.gr.xH,L.gr.wb,L.gr.sJ⟩,L.qu,L.lw⟩
 |sys c k S=>intro s' D aj w v w' es A p a h N E I t;have C:=I _ (aN h 0);cases s'<;>simp only[aE]at C;rename_i c' O;obtain⟨rfl,rfl,_⟩:=C;have hs:∀x:aa,x.sys .env=(.strings x.os.env,x):=λx=>rfl;simp only[Sem.runT,hs]at t⊢;rw[E];obtain⟨D',b1,b,v',u,u',Z,V,h3,h4,L⟩:=S _ (O (.strings w.os.env)) D aj w v w' (es.push ⟨.output,true,false⟩) A (p.push ⟨.output,true,false⟩) a h N E (λf d=>(I f d).2.2 _) t;refine⟨D',b1,b,v',#[⟨.output,true,false⟩]++u,#[⟨.output,true,false⟩]++u',by rw[Z,<-fQ,jE],by rw[V,<-fQ,jE],h3,h4,?_⟩;refine a5J.trans ?_ L;exact⟨λb J=>⟨J,rfl⟩,λb J=>.inl J,aF _,aF _,λ_ _ _=>rfl,rfl,rfl,rfl,rfl,rfl,rfl,⟨0,rfl,rfl⟩,λf d=>by simp[cz,cX],Grown.still rfl rfl λ_ _=>rfl,by intro e H;simp at H;first|(subst H;simp;done)|(obtain⟨_,_,rfl⟩:=H;simp;done),λe H=>by simp at H;subst H;trivial⟩
 |program k S=>intro s' D aj w v w' es A p a h N E I t;have C:=I _ (aN h 0);cases s'<;>simp only[aE]at C;rename_i O;simp only[Sem.runT]at t⊢;exact S ⟨T,F⟩ (O ⟨T,F'⟩) D aj w v w' es A p a h N E (λf d=>I f d) t
 |mark m k S=>
  intro s' D aj w v w' es A p a h N E I t;have C:=I _ (aN h 0);cases s'<;>simp only[aE]at C;rename_i M O;simp only[Sem.runT]at t⊢;obtain⟨D',b1,b,v',u,u',Z,V,h3,h4,L⟩:=S O D aj w v w' (es.push ⟨.mark m,false,true⟩) A (p.push ⟨.mark M,false,true⟩) a h N E (λf d=>(I f d).2) t;refine⟨D',b1,b,v',#[⟨.mark m,false,true⟩]++u,#[⟨.mark M,false,true⟩]++u',by rw[Z,<-fQ,jE],by rw[V,<-fQ,jE],h3,h4,?_⟩;refine a5J.trans ?_ L;exact⟨λb J=>⟨J,rfl⟩,λb J=>.inl J,aF _,aF _,λ_ _ _=>rfl,rfl,rfl,rfl,rfl,rfl,rfl,⟨0,rfl,rfl⟩,λf d=>by simp[cz,cX,(I f d).1.1],Grown.still rfl rfl λ_ _=>rfl,by
   intro e H;simp at H;subst H;have hq:=C.1.2;intro M bB;cases bB;exact hq,λe H=>by simp at H;subst H;trivial⟩
 |halt h0=>intro s' D aj w v w' es A p a h N E I t;simp[Sem.runT]at t
end
structure Fit (T:Tables) (f:Nat->Nat):Prop where
 inj:∀a b,f a=f b->a=b
 low:∀b,b<T.globals.size+1->f b=b
 zero:∀t i v,T.info? t=some i->i.zero=some v->bu v=true
abbrev SE(T:Tables)(F F':Array Func)(f:Nat->Nat){α β}(R:α->β->Prop)(s:Sem α)(s':Sem β):Prop:=aE ⟨T,F⟩ ⟨T,F'⟩ f R s s'
def aC{α β:Type}(g:α->β)(a:α)(b:β):Prop:=b=g a
variable{T:Tables}{F F':Array Func}{f:Nat->Nat}
@[simp] theorem wT(a):(aH f a).off=a.off:=rfl
@[simp] theorem Ba(a):(aH f a).spot=a.spot:=rfl
@[simp] theorem qn(a):(aH f a).block=f a.block:=rfl
def kP(a n):(aH f a).add n=aH f (a.add n):=by unfold Addr.add aH;split<;>rfl
def A9(h:Fit T f)(a b):(aH f a==aH f b)=(a==b):=by
 have:(aH f a=aH f b)↔a=b:=by
  constructor
  .intro e;cases a;cases b;simp only[aH,Addr.mk.injEq]at e⊢;exact⟨h.inj _ _ e.1,e.2⟩
  .rintro rfl;rfl
 rw[ma];simp[this]
def oe(h:Fit T f)(a b):(f a==f b)=(a==b):=by have:f a=f b↔a=b:=⟨h.inj _ _,λe=>e▸rfl⟩;rw[ma];simp[this]
def eI{α β}{R:α->β->Prop}{k a}(h:SE T F F' f R (k ⟨T,F⟩) (a ⟨T,F'⟩)):SE T F F' f R (program>>=k) (program>>=a):=h
def Eb(t):SE T F F' f (λi j=>j=i/\T.info? t=some i) (typeInfo t) (typeInfo t):=by
 refine eI ?_;change SE T F F' f (λi j=>j=i/\T.info? t=some i) (match T.info? t with|some i=>pure i|none=>stuck "no such type") (match T.info? t with|some i=>pure i|none=>stuck "no such type");cases T.info? t
 .exact aD _ _
 .exact aE.pure ⟨rfl,rfl⟩
def fi(t):SE T F F' f Eq (typeInfo t) (typeInfo t):=(Eb t).mono λ_ _ h=>h.1.symm
def cH(t):SE T F F' f Eq (underlying t) (underlying t):=by
 refine eI ?_;change SE T F F' f Eq (match Program.underlying ⟨T,F⟩ t with|some d=>pure d|none=>stuck "no such type") (match Program.underlying ⟨T,F⟩ t with|some d=>pure d|none=>stuck "no such type");cases Program.underlying ⟨T,F⟩ t
 .exact aD _ _
 .exact aE.pure rfl
def fW(t):SE T F F' f Eq (Go.sizeOf t) (Go.sizeOf t):=(fi t).bind λ_ _ e=>e▸aE.pure rfl
def lM(h:Fit T f)(t):SE T F F' f (λa b=>b=a/\bu a=true) (zeroValue t) (zeroValue t):=by
 refine(Eb t).bind ?_;rintro _ i ⟨rfl,c⟩;cases d:i.zero with
 |none=>exact aX _ _
 |some v=>exact aE.pure ⟨rfl,h.zero t i v c d⟩
def bq{α β R c c'}[Decidable c][Decidable c']{x y:Sem α}{x' b:Sem β}(d:c↔c')(e:c->SE T F F' f R x x')(g: ¬c->SE T F F' f R y b):SE T F F' f R (if c then x else y) (if c' then x' else b):=by
 by_cases h:c
 .simp only[h,d.1 h,if_true];exact e h
 .have a: ¬c':=λa=>h (d.2 a);simp only[h,a,if_false];exact g h
def uP(m a):SE T F F' f (aC (ak f)) (load a m) (load (aH f a) m):=⟨rfl,rfl,λ_=>rfl⟩
def rR(m a v):SE T F F' f Eq (store a v m) (store (aH f a) (ak f v) m):=⟨rfl,rfl,rfl,rfl⟩
def pN{o:Obj}(h:eM T.globals.size o)(a:o≠dead:=by simp[dead]):SE T F F' f (aC f) (newObj o) (newObj (ct f o)):=⟨rfl,⟨h,a⟩,λ_=>rfl⟩
def jL(r):SE T F F' f Eq (shape r) (shape (f r)):=⟨rfl,λ_=>rfl⟩
def mD(a):SE T F F' f Eq (frozen a) (frozen (aH f a)):=⟨rfl,λ_=>rfl⟩
def PC(a n):SE T F F' f Eq (freeze a n) (freeze (aH f a) n):=⟨rfl,rfl,rfl⟩
def mE(r):SE T F F' f (λa b=>(b=ct f a/\eM T.globals.size a)\/a=dead/\p6 b) (getObj r) (getObj (f r)):=⟨rfl,λ_ h=>.inl ⟨rfl,h⟩,λ_ h=>.inr ⟨rfl,h⟩⟩
def uS(r:Nat){o:Obj}(h:eM T.globals.size o)(a:o≠dead:=by simp[dead]):SE T F F' f Eq (setObj r o) (setObj (f r) (ct f o)):=⟨rfl,rfl,⟨h,a⟩,rfl⟩
def iU(q):SE T F F' f Eq (choose q) (choose q):=⟨rfl,λ_=>rfl⟩
def yW{m}(h:oU m=true):SE T F F' f Eq (mark m) (mark (jU f m)):=⟨⟨rfl,h⟩,rfl⟩
def oy{α β}{R:α->β->Prop}(v v')(h:v'=ak f v):SE T F F' f R (goPanic v) (goPanic v'):=by rw[h];exact a0M v
def yN(t):SE T F F' f Eq (elemOf t) (elemOf t):=by refine(cH t).bind ?_;rintro d _ rfl;cases d<;>first|exact aE.pure rfl|exact aD _ _
def nu(e cs):SE T F F' f (aC (aH f)) (newRow e cs) (newRow e (cs.map (ak f))):=by refine(pN (o:=.cells cs e) trivial).bind ?_;rintro r _ rfl;exact aE.pure rfl
def pO(e v):SE T F F' f (aC (aH f)) (newVar e v) (newVar e (ak f v)):=by have:=nu (T:=T) (F:=F) (F':=F') (f:=f) e v.cells;rw[<-rq]at this;exact this
def gE(h:Fit T f){α β R}(e):SE T F F' f R (runtimePanic (α:=α) e) (runtimePanic (α:=β) e):=by
 refine eI ?_;have b:f T.globals.size=T.globals.size:=h.low _ (by omega);cases e<;>try exact oy _ _ (by simp[strVal,typeHandle,aH,b];done)
 .rename_i i c a m;refine(yN _).bind ?_;rintro e _ rfl;refine aE.bind (R:=aC (aH f)) ?_ ?_
  .have:=pO (T:=T) (F:=F) (F':=F') (f:=f) e (.agg #[(match i with|some t=>typeHandle ⟨T,F⟩ t|none=>.pointer none),(match c with|some t=>typeHandle ⟨T,F⟩ t|none=>.pointer none),typeHandle ⟨T,F⟩ a,strVal m]);cases i<;>cases c<;>simpa[typeHandle,aH,b,strVal]using this
  .rintro x _ rfl;exact oy _ _ (by simp)
 .refine(yN _).bind ?_;rintro e _ rfl;refine aE.bind (R:=aC (aH f)) ?_ ?_
  .have:=pO (T:=T) (F:=F) (F':=F') (f:=f) e (.agg #[]);simpa using this
  .rintro x _ rfl;exact oy _ _ (by simp)
def rJ(h:Fit T f){α β R}(k x y c):SE T F F' f R (boundsPanic (α:=α) k x y c) (boundsPanic (α:=β) k x y c):=by
 unfold boundsPanic;dsimp only;split
 .exact⟨rfl,λn=>gE h (.bounds (IntKind.i64.wrap x) y (n==1) c)⟩
 .exact gE h (.bounds (IntKind.i64.wrap x) y (k !=IntKind.u64) c)
def uI(n):SE T F F' f Eq (askRoom n) (askRoom n):=by
 unfold askRoom;split
 .exact yW (m:=.noRoom) rfl
 .exact aE.pure rfl
def DK(t):SE T F F' f Eq (isAgg t) (isAgg t):=by refine(cH t).bind ?_;rintro d _ rfl;cases d<;>exact aE.pure rfl
theorem DL(a):∀n i b,SE T F F' f (aC (Array.map (ak f))) (loadCellsFrom a i n b) (loadCellsFrom (aH f a) i n (b.map (ak f)))
 |0,_,_=>aE.pure rfl
 |n+1,i,b=>by
  refine aE.bind (R:=aC (ak f)) ?_ ?_
  .rw[kP];exact uP _ _
  .rintro v _ rfl;have:=DL a n (i+1) (b.push v);rw[a7U]at this;exact this
def uQ(a n):SE T F F' f (aC (Array.map (ak f))) (loadCells a n) (loadCells (aH f a) n):=by have:=DL (T:=T) (F:=F) (F':=F') (f:=f) a n 0 #[];simpa[loadCells]using this
theorem oA(a):∀c i,SE T F F' f Eq (storeCells a c i) (storeCells (aH f a) (c.map (ak f)) i)
 |[],_=>aE.pure rfl
 |v::b,i=>by refine aE.bind (R:=Eq) ?_ λ_ _ _=>oA a b (i+1);rw[kP];exact rR _ _ _
def nt(t a):SE T F F' f (aC (ak f)) (loadVar t a) (loadVar t (aH f a)):=by
 refine(DK t).bind ?_;rintro b _ rfl;cases b
 .exact uP _ _
 .refine(fW t).bind ?_;rintro n _ rfl;refine(uQ a n).bind ?_;rintro c _ rfl;exact aE.pure (by simp[aC])
def uV(t a v):SE T F F' f Eq (storeVar t a v) (storeVar t (aH f a) (ak f v)):=by
 refine(fW t).bind ?_;rintro n _ rfl;have b:(ak f v).cells.size=v.cells.size:=by rw[rq];simp
 have:=oA (T:=T) (F:=F) (F':=F') (f:=f) a v.cells.toList 0;rw[<-iZ,<-rq]at this;by_cases h:v.cells.size=n
 .simp[b,h];exact this
 .simp[b,h];exact aD _ _
def Am(cs:Array af)(i j):(cs.map (ak f)).extract i j=(cs.extract i j).map (ak f):=by simp
def kr(t cs a):SE T F F' f (aC (ak f)) (part t cs a) (part t (cs.map (ak f)) a):=by
 refine(DK t).bind ?_;rintro b _ rfl;cases b
 .simp only[dj,if_false,fp];cases cs[a]?
  .exact aD _ _
  .exact aE.pure rfl
 .refine(fW t).bind ?_;rintro n _ rfl;exact aE.pure (by simp[aC])
def uH(v):SE T F F' f Eq (asIntOf v) (asIntOf (ak f v)):=by
 cases v<;>simp[asIntOf]<;>try exact aD _ _
 .exact aE.pure rfl
 .rename_i a;cases a<;>simp<;>first|exact aD _ _|exact aX _ _
def pM(v):SE T F F' f Eq (asInt v) (asInt (ak f v)):=(uH v).bind λ_ _ e=>e▸aE.pure rfl
def Dt(v):SE T F F' f Eq (asBool v) (asBool (ak f v)):=by cases v<;>simp[asBool]<;>first|exact aD _ _|exact aE.pure rfl
def Pj(v):SE T F F' f (aC (Array.map (ak f))) (asAgg v) (asAgg (ak f v)):=by cases v<;>simp[asAgg]<;>first|exact aD _ _|exact aE.pure rfl
def mC(h:Fit T f)(v):SE T F F' f (aC (aH f)) (asAddr v) (asAddr (ak f v)):=by
 cases v<;>simp[asAddr]<;>try exact aD _ _
 rename_i a;cases a
 .exact gE h _
 .exact aE.pure rfl
def rS(v):SE T F F' f (aC (aH f)) (Instr.sureAddr v) (Instr.sureAddr (ak f v)):=by
 cases v<;>simp[Instr.sureAddr]<;>try exact aD _ _
 rename_i a;cases a
 .exact aD _ _
 .exact aE.pure rfl
variable{T:Tables}{F F':Array Func}{f:Nat->Nat}
theorem A6{α β}(a)(g:α->Sem β):(Pure.pure a>>=g)=g a:=rfl
def ax{α β R}{a:α}{b:β}(h:R a b):SE T F F' f R (pure a) (pure b):=h
def Pe(h:Fit T f)(t):SE T F F' f (aC (ak f)) (Instr.alloc t true (.tuple #[])) (Instr.alloc t true (.tuple #[])):=by refine(lM h t).bind ?_;rintro _ z ⟨rfl,b⟩;have:=pO (T:=T) (F:=F) (F':=F') (f:=f) t z;rw[lq f z b]at this;refine aE.bind this ?_;rintro a _ rfl;exact ax (by simp[aC])
def Pm(t v):SE T F F' f (aC (ak f)) (Instr.box t v) (Instr.box t (ak f v)):=by refine(pO t v).bind ?_;rintro a _ rfl;exact ax (by simp[aC])
def yV(t v):SE T F F' f (aC (ak f)) (Instr.loadAt t v) (Instr.loadAt t (ak f v)):=by refine(rS v).bind ?_;rintro a _ rfl;exact nt t a
def P7(t v x):SE T F F' f Eq (Instr.storeAt t v x) (Instr.storeAt t (ak f v) (ak f x)):=by refine(rS v).bind ?_;rintro a _ rfl;exact uV t a x
def Ro(c:List (af×Nat))(a):∀cs:Array af,(c.foldl (λcs x=>cs.setIfInBounds (a+x.2) x.1) cs).map (ak f)=(c.map λx=>(ak f x.1,x.2)).foldl (λcs x=>cs.setIfInBounds (a+x.2) x.1) (cs.map (ak f)):=by
 induction c with
 |nil=>intro cs;rfl
 |cons x c b=>intro cs;simp only[a6D,cA];rw[b,a5K]
theorem zx(a):∀d b,Instr.fill a (b.map (ak f)) (d.map λx=>(x.1,ak f x.2))=(Instr.fill a b d).map (Array.map (ak f))
 |[],b=>rfl
 |(i,v)::c,b=>by
  simp only[cA,Instr.fill];cases a i with
  |none=>rfl
  |some p=>
   obtain⟨g,e⟩:=p;simp only[rq,kK];split
   .rfl
   .rw[<-zx a c];congr 1;simp only[<-a6E];rw[Ro];congr 1;apply List.ext_getElem?;intro j;simp[a7b]
theorem nN:LawfulMonad Sem:=by
 have c:∀{α:Type} (x:Sem α),x.bind Sem.pure=x:=by intro α x;induction x<;>simp only[Sem.bind]<;>first|(congr 1;funext v;rename_i b;exact b v)|simp_all
 have d:∀{α β γ:Type} (x:Sem α) (g:α->Sem β) (k:β->Sem γ),(x.bind g).bind k=x.bind λa=>(g a).bind k:=by intro α β γ x g k;induction x<;>simp only[Sem.bind]<;>first|(congr 1;funext v;rename_i b;exact b v)|simp_all
 exact LawfulMonad.mk' Sem (λx=>c x) (λ_ _=>rfl) (λx g k=>d x g k)
def PM(c:List Field):SE T F F' f Eq (c.mapM λd=>do pure (d.offset,<-Go.sizeOf d.type)) (c.mapM λd=>do pure (d.offset,<-Go.sizeOf d.type)):=by
 have:=nN;induction c with
 |nil=>simp only[a8b];exact ax rfl
 |cons x l e=>
  simp only[a7V];refine aE.bind (R:=Eq) ?_ ?_
  .refine(fW _).bind ?_;rintro n _ rfl;exact ax rfl
  .rintro a _ rfl;refine aE.bind (R:=Eq) e ?_;rintro b _ rfl;exact ax rfl
def PN(b:Array Field):SE T F F' f Eq (b.mapM λc=>do pure (c.offset,<-Go.sizeOf c.type)) (b.mapM λc=>do pure (c.offset,<-Go.sizeOf c.type)):=by have:=nN;simp only[a6U];refine(PM b.toList).bind ?_;rintro a _ rfl;exact ax rfl
def An{z:Array af}(h:∀x∈z,bu x=true):z.map (ak f)=z:=iF λx a=>lq f x (h x a)
def nk{v}(h:bu v=true):v.cells.map (ak f)=v.cells:=by rw[<-rq,lq f v h]
def Pn(h:Fit T f)(t c):SE T F F' f (aC (ak f)) (Instr.build t c) (Instr.build t (c.map λx=>(x.1,ak f x.2))):=by
 refine(lM h t).bind ?_;rintro _ z ⟨rfl,j⟩;refine(cH t).bind ?_;rintro d _ rfl;have g:∀a:Nat->Option (Nat×Nat),Instr.fill a z.cells (c.map λx=>(x.1,ak f x.2)).toList=(Instr.fill a z.cells c.toList).map (Array.map (ak f)):=by intro a;rw[<-zx,nk j,iZ]
 cases d<;>try exact aD _ _
 .rename_i n e;refine(fW e).bind ?_;rintro s _ rfl;rw[g];cases Instr.fill (λi=>some (i*s,s)) z.cells c.toList
  .exact aD _ _
  .exact ax (by simp[aC])
 .rename_i b;refine(PN b).bind ?_;rintro k _ rfl;rw[g];cases Instr.fill (k[·]?) z.cells c.toList
  .exact aD _ _
  .exact ax (by simp[aC])
def Ms{z:Array af}(h:z.map (ak f)=z)(j:Nat):ak f (z[j]!)=z[j]! :=by
 by_cases a:j<z.size
 .have:(z.map (ak f))[j]'(by simpa using a)=z[j]:=by simp only[h]
  rw[Array.getElem_map]at this;rw[getElem!_pos z j a];exact this
 .rw[getElem!_neg z j a];simp[default,instInhabitedValue.default]
def A8{z:Array af}(h:z.map (ak f)=z)(n):((Array.range n).map (λi=>z[i%z.size]!)).map (ak f)=(Array.range n).map (λi=>z[i%z.size]!):=by rw[a6P];congr 1;funext i;exact Ms h _
def Po(h:Fit T f)(t len g):SE T F F' f (aC (ak f)) (Instr.buildSlice t len g) (Instr.buildSlice t len (g.map λx=>(x.1,ak f x.2))):=by
 refine(cH t).bind ?_;rintro d _ rfl;cases d<;>try exact aD _ _
 rename_i e;refine(fW e).bind ?_;rintro s _ rfl;have k:∀z:Array af,z.map (ak f)=z->Instr.fill (λi=>some (i*s,s)) ((Array.range (len*s)).map (λi=>z[i%z.size]!)) (g.map λx=>(x.1,ak f x.2)).toList=(Instr.fill (λi=>some (i*s,s)) ((Array.range (len*s)).map (λi=>z[i%z.size]!)) g.toList).map (Array.map (ak f)):=by intro z j;rw[<-zx,A8 j,iZ]
 have c:∀z:Array af,z.map (ak f)=z->SE T F F' f (aC (ak f))
   (match Instr.fill (λi=>some (i*s,s)) ((Array.range (len*s)).map (λi=>z[i%z.size]!)) g.toList with|some b=>(do let a<-newRow e b;pure (Value.slice (some a) len len))|x=>stuck "buildSlice: a part of the wrong size")
   (match Instr.fill (λi=>some (i*s,s)) ((Array.range (len*s)).map (λi=>z[i%z.size]!)) (g.map λx=>(x.1,ak f x.2)).toList with|some b=>(do let a<-newRow e b;pure (Value.slice (some a) len len))|x=>stuck "buildSlice: a part of the wrong size"):=by
  intro z j;rw[k z j];cases Instr.fill (λi=>some (i*s,s)) ((Array.range (len*s)).map (λi=>z[i%z.size]!)) g.toList with
  |none=>exact aD _ _
  |some l=>refine(nu e l).bind ?_;rintro a _ rfl;exact ax (by simp[aC])
 dsimp only;refine bq bv (λ_=>aX _ _) λ_=>?_;refine bq bv (λ_=>c #[] (by simp)) λ_=>?_;refine(lM h e).bind ?_;rintro _ z ⟨rfl,j⟩;exact c z.cells (nk j)
def uX(r):SE T F F' f (aC (Option.map λx=>(aH f x.1,x.2))) (viewAt r) (viewAt (f r)):=by
 refine(jL r).bind ?_;rintro s _ rfl;cases s with
 |some x=>exact ax rfl
 |none=>
  refine(mE r).bind ?_;rintro o a (⟨rfl,c⟩|⟨rfl,b⟩);rotate_left
  .cases a<;>first|exact b.elim|exact ax rfl
  cases o<;>exact ax rfl
def rP(a):SE T F F' f Eq (noView a) (noView (aH f a)):=by
 refine(uX a.block).bind ?_;rintro s _ rfl;cases s
 .exact ax rfl
 .exact aX _ _
def ou(a):SE T F F' f Eq (byteOf a) (byteOf (aH f a)):=by
 unfold byteOf;rw[Ba];cases a.spot with
 |some s=>exact ax rfl
 |none=>
  refine eI ?_;refine(rP a).bind ?_;rintro _ _ _;refine(jL a.block).bind ?_;rintro s _ rfl;cases s with
  |none=>exact aD _ _
  |some x=>
   obtain⟨e,n⟩:=x;dsimp only;refine bq bv (λ_=>ax rfl) λ_=>?_;have c:=un (T:=T) (F:=F) (F':=F') (Program.depth ⟨T,F⟩) e (a.off%Program.cellsOf ⟨T,F⟩ e);cases d:byteOfCell ⟨T,F⟩ (Program.depth ⟨T,F⟩) e (a.off%Program.cellsOf ⟨T,F⟩ e)with
   |none=>exact aD _ _
   |some b=>rw[d]at c;change byteOfCell ⟨T,F'⟩ (Program.depth ⟨T,F'⟩) e ((aH f a).off%Program.cellsOf ⟨T,F'⟩ e)=_ at c;simp only[c];exact ax rfl
def PW(a c b):SE T F F' f (aC (aH f)) (partAt a c b) (partAt (aH f a) c b):=by refine(ou a).bind ?_;rintro x _ rfl;refine(ou {block:=a.block,off:=a.off+c}).bind ?_;rintro y _ rfl;refine ax ?_;simp only[aC];split<;>rfl
def yP(a b):SE T F F' f (aC (aH f)) (fieldPlace a b) (fieldPlace (aH f a) b):=by refine(fW _).bind ?_;rintro s _ rfl;refine bq bv (λ_=>PW a _ _) λ_=>?_;exact ax (by simp[aC,kP])
def PA(t v i):SE T F F' f (aC (ak f)) (Instr.fieldAt t v i) (Instr.fieldAt t (ak f v) i):=by
 refine(cH t).bind ?_;rintro d _ rfl;cases d<;>try exact aD _ _
 rename_i c;dsimp only;cases c[i]? with
 |none=>exact aD _ _
 |some e=>refine(rS v).bind ?_;rintro a _ rfl;refine(yP a e).bind ?_;rintro b _ rfl;exact ax (by simp[aC])
def Pz(t v i):SE T F F' f (aC (ak f)) (Instr.field t v i) (Instr.field t (ak f v) i):=by
 refine(cH t).bind ?_;rintro d _ rfl;cases d<;>try exact aD _ _
 rename_i b;dsimp only;cases b[i]? with
 |none=>exact aD _ _
 |some c=>refine(Pj v).bind ?_;rintro a _ rfl;exact kr _ _ _
end Go.Mir
end
