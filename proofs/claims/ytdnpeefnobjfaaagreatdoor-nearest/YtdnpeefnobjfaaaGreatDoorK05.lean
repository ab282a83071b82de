import Derived.Control
import Derived.Test.YtdnpeefnobjfaaaGreatDoorK04
set_option maxRecDepth 100000
set_option maxHeartbeats 4000000
set_option linter.all false
section
namespace Go.Mir
variable{lk:Prop}{lz:Nat->Obj->Prop}{T:Tables}{F F':Array Func}{E:bW->Prop}{cs:List ah}{trap:ah}{below:List ah}{main:Bool}{D:Nat->Prop}{ai f:Nat->Nat}{w v:aa}{fr:ah}{gs:List ah}{m:ah}{rcs:List ah}
def ij{P fr cs w}(a:fr.mode=.run):stepG P main (am fr cs) w=stepG.exec P main true fr cs none w:=by simp[am,stepG,a]
def kw{P fr cs w}(a:fr.mode≠.run):stepG P main (am fr cs) w=unwind P main fr cs none w:=by cases h:fr.mode<;>simp_all [am,stepG]
theorem iU.after{e a g i u u'}(k:a9o D e ai a w g v i u u'){g' w' es j}(h:iU lk lz T F F' E cs trap below e a g i g' w' es j):iU lk lz T F F' E cs trap below D ai w v g' w' (u++es) (j.after u'):=by obtain⟨l,b,n,c,rg,rfl,d,o⟩:=h;exact⟨l,b,n,u'++c,rg,rfl,k.trans d,o⟩
def Fy{P b fr cs x w w' g' es}(h:doReturn P b fr cs none x w=.go g' w' es):w'=w:=by
 unfold doReturn at h
 grind
def WT(p:∀M,trap.mode=.panicking M->∀e∈M,e.recovered=false)(Q:Twin T F F' E)(R:e9 lk lz T cs D ai w v fr gs m rcs)(j:Option Code)(S:j=none\/j=some .ret\/∃id,j=some (.exit id)){l:Nat}(hl:fr.roundOf=some l)
  {g':aw} {w':aa} {es:Array aT}
  (g:(GStep.after (seen ⟨T,F⟩ fr.fn ((Instr.endRound l j).runT ⟨T,F⟩ w #[]).2)<|match ((Instr.endRound l j).runT ⟨T,F⟩ w #[]).1 with
   | .ok v w=>doReturn ⟨T,F⟩ true fr (gs++trap::below) none v w
   | .halt _ w=>.ended (.stuck "range over a function: no such loop" (fr.pos ⟨T,F⟩)) w)=.go g' w' es) (U:gG w v w'.drawn):
  ∀k,m.roundOf=some k->(iU lk lz T F F' E cs trap below D ai w v g' w' es (GStep.after (seen ⟨T,F'⟩ m.fn ((Instr.endRound k j).runT ⟨T,F'⟩ v #[]).2)<|match ((Instr.endRound k j).runT ⟨T,F'⟩ v #[]).1 with
   | .ok x v=>doReturn ⟨T,F'⟩ main m rcs none x v
   | .halt _ v=>.ended (.stuck "range over a function: no such loop" (m.pos ⟨T,F'⟩)) v))\/(gs=[]/\∃t,g'=am t below/\ny trap t):=by
 intro k q;have h0:=R.aX _ (aL R.heap 0);have s:m.fn=fr.fn:=by rw[h0.1];rfl
 have V:∀f,aQ D ai f->aB ⟨T,F⟩ ⟨T,F'⟩ f (aN (al f)) (Instr.endRound l j) (Instr.endRound k j):=by
  intro f u;have W:=(R.aX f u).1;have:k=f l:=by
   rw[W]at q
   grind[aO]
  rw[this];refine RS l j λc y=>?_;obtain rfl|rfl|⟨id,rfl⟩:=S
  .cases y
  .cases y;exact⟨rfl,rfl⟩
  .cases y;exact⟨rfl,rfl⟩
 rcases i:(Instr.endRound l j).runT ⟨T,F⟩ w #[]with⟨r,X⟩;rw[i]at g;have z:gG w v (fK r).drawn:=by
  obtain⟨A,N⟩:=pS g;cases r with
  |ok a n=>rw[<-Fy N];exact U
  |halt h n=>cases N
 obtain⟨a,n,rfl,O,d,b,P,Y,B,Z,ha,hR,C⟩|⟨x,n,rfl,_⟩|⟨h,n,rfl,H⟩:=od R.heap R.os R.all V i (λ_=>z)
 .have R1:e9 lk lz T cs O d n P fr gs m rcs:=R.next C Z ha R.ok R.bQ λf u=>R.aX f (u.less C.more)
  rw[B,s];dsimp at g⊢;cases I:doReturn ⟨T,F⟩ true fr (gs++trap::below) none a n with
  |go g1 w2 A=>
   rw[I]at g;simp[GStep.after]at g;obtain⟨rfl,rfl,rfl⟩:=g;obtain⟨J,K,L,o,rfl,rfl,rfl,hq,R2⟩|hp:=Dh (main:=main) (F':=F') p R1 hR I
   .refine .inl ?_;rw[hq];exact iU.after (C.seen Q fr.fn) ⟨O,d,P,#[],_,rfl,a9o.refl,.inl ⟨J,K,L,o,rfl,rfl,R2⟩⟩
   simp_all
  |_=>rw[I]at g;simp[GStep.after]at g
 all_goals grind[GStep.after]
def vW(fr:ah)(g l):resolve fr.eval {callee:=.value g,args:=#[.const (.func (.yield l) #[] #[])],argTypes:=#[]} 0=Deferred.ofValue (fr.eval g) #[.func (.yield l) #[] #[]]:=by simp[resolve,Frame.eval]
def Tn(bO:∀ch,trap.mode=.panicking ch->∀e∈ch,e.recovered=false)(tw:Twin T F F' E)(R:e9 lk lz T cs D ai w v fr gs m rcs)(hm:fr.mode=.run){g' w' es}(n:stepG.exec ⟨T,F⟩ true true fr (gs++trap::below) none w=.go g' w' es)(M:gG w v w'.drawn):iU lk lz T F F' E cs trap below D ai w v g' w' es (stepG ⟨T,F'⟩ main (am m rcs) v)\/(gs=[]/\∃t,g'=am t below/\ny trap t):=by
 have h0:=R.aX _ (aL R.heap 0);have ad:m.fn=fr.fn:=by rw[h0.1];rfl
 have Z:m.mode=.run:=by rw[h0.1];simp[aO,hm,dZ]
 have S:∀f,aQ D ai f->Fit T f:=λf u=>oW tw R.low u;have H:∀ar:ah,bJ T.globals.size ar->(∀f,stepG.exec ⟨T,F'⟩ main true (aO f fr) (gs.map (aO f)++cs) none v=.go (am (aO f ar) (gs.map (aO f)++cs)) v #[])->g'=am ar (gs++trap::below)->w'=w->es=#[]->
   iU lk lz T F F' E cs trap below D ai w v g' w' es (stepG ⟨T,F'⟩ main (am m rcs) v):=by
  intro ar bP hq hg hw he;subst hg hw he;refine a5V R bP λf=>?_;rw[ij (by simp[aO,hm,dZ])];exact hq f
 have lv:∀j:Option Code,(j=none\/j=some .ret\/∃id,j=some (.exit id))->
   (match fr.roundOf with
    |none=>if (j matches none|some .ret)then GStep.go (am {fr with mode:=.returning} (gs++trap::below)) w #[]else .ended (.stuck "exit, goto: no such block or label" (fr.pos ⟨T,F⟩)) w
    |some l=>(GStep.after (seen ⟨T,F⟩ fr.fn ((Instr.endRound l j).runT ⟨T,F⟩ w #[]).2)<|match ((Instr.endRound l j).runT ⟨T,F⟩ w #[]).1 with
     | .ok v w=>doReturn ⟨T,F⟩ true fr (gs++trap::below) none v w
     | .halt _ w=>.ended (.stuck "range over a function: no such loop" (fr.pos ⟨T,F⟩)) w))=.go g' w' es->
   stepG.exec ⟨T,F'⟩ main true m rcs none v=(match m.roundOf with
    |none=>if (j matches none|some .ret)then GStep.go (am {m with mode:=.returning} rcs) v #[]else .ended (.stuck "exit, goto: no such block or label" (m.pos ⟨T,F'⟩)) v
    |some l=>(GStep.after (seen ⟨T,F'⟩ m.fn ((Instr.endRound l j).runT ⟨T,F'⟩ v #[]).2)<|match ((Instr.endRound l j).runT ⟨T,F'⟩ v #[]).1 with
     | .ok x v=>doReturn ⟨T,F'⟩ main m rcs none x v
     | .halt _ v=>.ended (.stuck "range over a function: no such loop" (m.pos ⟨T,F'⟩)) v))->
   iU lk lz T F F' E cs trap below D ai w v g' w' es (stepG ⟨T,F'⟩ main (am m rcs) v)\/(gs=[]/\∃t,g'=am t below/\ny trap t):=by
  intro j hj O bc;rw[ij Z,bc];cases K:fr.roundOf with
  |none=>
   have U:m.roundOf=none:=by rw[h0.1];simp[aO,K]
   rw[K]at O;rw[U];dsimp at O⊢;cases br:(match j with|none=>true|some .ret=>true|_=>false)with
   |false=>rw[br]at O;simp at O
   |true=>rw[br]at O;simp only[if_true,GStep.go.injEq]at O⊢;obtain⟨rfl,rfl,rfl⟩:=O;refine .inl ⟨D,ai,v,#[],_,rfl,a9o.refl,.inl ⟨{fr with mode:=.returning},gs,{m with mode:=.returning},rcs,by rw[K],by rw[U],R.next a9o.refl R.heap R.all ⟨R.ok.items,R.ok.defers,R.ok.kind,R.ok.round,λh=>(h K).elim,λc h=>by simp at h⟩ R.bQ λf u=>?_⟩⟩;have C:=R.aX f u;exact⟨by rw[C.1];rfl,C.2⟩
  |some l=>
   have U:m.roundOf=some ((ag D ai (v.heap.size+0)) l):=by rw[h0.1];simp[aO,K]
   rw[K]at O;have:=WT (main:=main) bO tw R j hj K O M _ U;rw[U];exact this
 rcases p:fr.todo with _|⟨i,k⟩
 .apply lv none (.inl rfl)
  .rw[<-n];unfold stepG.exec;simp only[p];rfl
  .have A:m.todo=[]:=by rw[h0.1];simp[aO,p]
   unfold stepG.exec;simp only[A];rfl
 .have B:cZ T.globals.size i=true:=R.ok.items i (by rw[p];exact jg);have J:fr.roundOf≠none->gO i=true:=λQ=>R.ok.round Q i (by rw[p];exact jg);have A:∀f,aQ D ai f->m.todo=cg f i::k.map (cg f):=λf u=>by rw[(R.aX f u).1];simp[aO,p]
  have V:∀x∈k,x∈k\/(cZ T.globals.size x=true/\(fr.roundOf≠none->gO x=true)):=λx hx=>.inl hx;have one:∀(x:Item),cZ T.globals.size x=true->(fr.roundOf≠none->gO x=true)->∀y∈x::k,y∈k\/(cZ T.globals.size y=true/\(fr.roundOf≠none->gO y=true)):=by
   intro x C I y W;obtain rfl|W:=dj.1 W
   .exact .inr ⟨C,I⟩
   .exact .inl W
  have ae:∀(x z:Item),cZ T.globals.size x=true->(fr.roundOf≠none->gO x=true)->cZ T.globals.size z=true->(fr.roundOf≠none->gO z=true)->∀y∈x::z::k,y∈k\/(cZ T.globals.size y=true/\(fr.roundOf≠none->gO y=true)):=by
   intro x z C I h3 h4 y W;obtain rfl|W:=dj.1 W
   .exact .inr ⟨C,I⟩
   .exact one z h3 h4 y W
  cases i with
  |inBlock id=>unfold stepG.exec at n;simp only[p,GStep.go.injEq]at n;exact .inl (H {fr with todo:=k} (R.ok.drop p V) (λf=>by unfold stepG.exec;simp[aO,p,cg,am]) n.1.symm n.2.1.symm n.2.2.symm)
  |inScope c=>unfold stepG.exec at n;simp only[p,GStep.go.injEq]at n;exact .inl (H {fr with todo:=k} (R.ok.drop p V) (λf=>by unfold stepG.exec;simp[aO,p,cg,am]) n.1.symm n.2.1.symm n.2.2.symm)
  |inLoop c=>unfold stepG.exec at n;simp only[p,GStep.go.injEq]at n;exact .inl (H {fr with todo:=.code c:: .inLoop c::k} (R.ok.drop p (ae _ _ B J B J)) (λf=>by unfold stepG.exec;simp[aO,p,cg,am]) n.1.symm n.2.1.symm n.2.2.symm)
  |inRangeFunc l=>unfold stepG.exec at n;simp only[p]at n;cases n
  |call d a b c=>simp[cZ]at B
  |extern r a=>simp[cZ]at B
  |beginRound=>
   rw[ij Z];unfold stepG.exec at n⊢;rw[A _ (aL R.heap 0)];simp[p,cg]at n⊢;refine .inl (Az tw R (λf u=>?_) n M);have C:=(R.aX f u).1;have K:m.roundOf=fr.roundOf.map f:=by rw[C];rfl
   rw[K];cases fr.roundOf with
   |none=>exact aC _ _
   |some l=>apply aB.bind (A8 (S f u) l);rintro _ _ _;exact ax rfl
  |endRangeFunc l=>
   rw[ij Z];have hE:∀f,aQ D ai f->aB ⟨T,F⟩ ⟨T,F'⟩ f (λa b=>b=a/\∀c,a=some c->cF T.globals.size c=true/\dW c=true) (Instr.endLoop l) (Instr.endLoop ((ag D ai (v.heap.size+0)) l)):=by intro f u;have C:=A f u;rw[A _ (aL R.heap 0)]at C;simp only[cg,iq,Item.endRangeFunc.injEq]at C;rw[C.1];exact FL (S f u) l
   unfold stepG.exec at n⊢;rw[A _ (aL R.heap 0)];simp only[p,cg]at n⊢;rcases N:(Instr.endLoop l).runT ⟨T,F⟩ w #[]with⟨r,bR⟩;rw[N]at n;have bd:gG w v (fK r).drawn:=by
    obtain⟨bs,I⟩:=pS n;cases r with
    |ok a w1=>simp only[GStep.go.injEq]at I;rw[<-I.2.1]at M;exact M
    |halt h w1=>cases h<;>simp only[GStep.go.injEq,reduceCtorEq]at I;rw[<-I.2.1]at M;exact M
   obtain⟨a,w1,rfl,D',L,b,v1,bw,ao,hh,ha,hR,Y⟩|⟨x,w1,rfl,D',L,x',v1,bw,ao,hh,ha,hR,Y⟩|⟨h,w1,rfl,ap⟩:=od R.heap R.os R.all hE N (λ_=>bd)
   .rw[ao,ad];simp only[GStep.after,GStep.go.injEq,b0E]at n⊢;obtain⟨rfl,rfl,rfl⟩:=n;have bS:=hR _ (aL hh 0);obtain⟨rfl,aP⟩:=bS;refine .inl ⟨D',L,v1,_,_,rfl,by simpa using Y.seen tw fr.fn,.inl ⟨{fr with todo:=(b.map Item.code).toList++k},gs,_,_,rfl,rfl,R.next Y hh ha (R.ok.drop p ?_) R.bQ λf u=>?_⟩⟩
    .intro y W;obtain W|W:=oy.1 W
     .cases b with
      |none=>simp at W
      |some c=>simp at W;subst W;exact .inr ⟨(aP c rfl).1,λ_=>(aP c rfl).2⟩
     .exact .inl W
    .have C:=R.aX f (u.less Y.more);refine⟨?_,C.2⟩;have I:=A f (u.less Y.more);have h3:=A _ (aL R.heap 0);rw[I]at h3;simp only[iq]at h3;rw[<-h3.2,C.1];cases b<;>simp[aO,cg]
   .rw[ao,ad];simp[GStep.after]at n⊢;obtain⟨rfl,rfl,rfl⟩:=n;refine .inl ⟨D',L,v1,_,_,rfl,by simpa using Y.seen tw fr.fn,.inl ⟨fr.raise [{v:=x,recovered:=false}],gs,_,_,rfl,rfl,R.next Y hh ha (R.ok.raise a9i) R.bQ λf u=>?_⟩⟩;have C:=R.aX f (u.less Y.more);rw[hR f u,<-y7];exact⟨by rw[C.1];rfl,C.2⟩
   .exfalso;cases h<;>simp[fi]at ap<;>simp[GStep.after]at n
  |inRegion ops todo=>
   cases todo with
   |nil=>unfold stepG.exec at n;simp only[p,GStep.go.injEq]at n;exact .inl (H {fr with todo:=k} (R.ok.drop p V) (λf=>by unfold stepG.exec;simp[aO,p,cg,am]) n.1.symm n.2.1.symm n.2.2.symm)
   |cons j ba=>
    unfold stepG.exec at n;simp[p]at n;have bT:∀f,((ops[j]?).map (Region.wanted · (yielded ops (aO f fr).tmps))).getD false=((ops[j]?).map (Region.wanted · (yielded ops fr.tmps))).getD false:=by
     intro f;have:yielded ops (aO f fr).tmps=yielded ops fr.tmps:=by funext q;exact Md ops fr.tmps q
     rw[this]
    cases bl:((ops[j]?).map (Region.wanted · (yielded ops fr.tmps))).getD false with
    |false=>
     simp only[bl,d8,if_false,GStep.go.injEq]at n;refine .inl (H (fr.finish undef) (R.ok.finish undef) (λf=>?_) n.1.symm n.2.1.symm n.2.2.symm);have hu:al f undef=undef:=by simp[undef]
     unfold stepG.exec;have e1:(aO f fr).todo=.inRegion ops (j::ba)::k.map (cg f):=by simp[aO,p,cg]
     simp only[e1,bT,bl,d8,if_false];rw[<-oV,hu];rfl
    |true=>
     simp[bl]at n;rw[ij Z];unfold stepG.exec;have e1:m.todo=.inRegion ops (j::ba)::k.map (cg (ag D ai (v.heap.size+0))):=A _ (aL R.heap 0);have e2:((ops[j]?).map (Region.wanted · (yielded ops m.tmps))).getD false=true:=by simp_all
     simp[e1,e2];unfold stepG.oper at n⊢;have e3:fr.oper?=ops[j]? :=by simp[Frame.oper?,p]
     have e4:m.oper?=ops[j]? :=by simp[Frame.oper?,e1]
     rw[e3]at n;rw[e4];cases ho:ops[j]? with
     |none=>rw[ho]at n;cases n
     |some o=>
      rw[ho]at n;have aq:o∈ops:=ou ho;have bx:ie T.globals.size o.op=true:=by simp only[cZ]at B;rw[oq]at B;obtain⟨q,hq,rfl⟩:=fT.1 aq;exact B q hq
      have ab:∀{X:Type} (ro:Option Nat) (a:Nat->Call->X) (b:X),(ro=none\/fr.roundOf≠none)->(match ro,o.op with|some l,.defer c=>a l c|_,_=>b)=b:=by
       intro X ro a b K;cases ro with
       |none=>rfl
       |some l=>
        cases bU:o.op<;>try rfl
        exfalso;have Q:fr.roundOf≠none:=by obtain h|h:=K;cases h;exact h
        have:=J Q;simp only[gO]at this;simp at this;obtain⟨q,hq,rfl⟩:=fT.1 aq;have h5:=this q hq;rw[bU]at h5;simp at h5
      have bV:stepG.apply ⟨T,F⟩ true fr (gs++trap::below) none (execOp fr.eval o) w=.go g' w' es:=by rw[<-n];exact(ab fr.roundOf (λl c=>stepG.apply ⟨T,F⟩ true fr (gs++trap::below) none (do Instr.deferInRound l (<-resolve fr.eval c o.type);pure .skip) w) _ (by cases h:fr.roundOf<;>simp)).symm
      have bc:∀(X:GStep),X=stepG.apply ⟨T,F'⟩ true m rcs none (execOp m.eval o) v->iU lk lz T F F' E cs trap below D ai w v g' w' es X:=by intro X hX;rw[hX];refine Az tw R (λf u=>?_) bV M;have C:=(R.aX f u).1;refine xH (S f u) tw (λx hx=>?_) o bx;rw[C];exact xT f (S f u).low fr x hx
      refine .inl (bc _ ?_);have bA:m.roundOf=none\/fr.roundOf≠none:=by rw[h0.1];cases h:fr.roundOf<;>simp[aO,h]
      exact ab m.roundOf (λl c=>stepG.apply ⟨T,F'⟩ true m rcs none (do Instr.deferInRound l (<-resolve m.eval c o.type);pure .skip) v) _ bA
  |code c=>
   simp[cZ]at B;cases c with
   |skip=>unfold stepG.exec at n;simp only[p,GStep.go.injEq]at n;exact .inl (H {fr with todo:=k} (R.ok.drop p V) (λf=>by unfold stepG.exec;simp[aO,p,cg,am]) n.1.symm n.2.1.symm n.2.2.symm)
   |label l=>unfold stepG.exec at n;simp only[p,GStep.go.injEq]at n;exact .inl (H {fr with todo:=k} (R.ok.drop p V) (λf=>by unfold stepG.exec;simp[aO,p,cg,am]) n.1.symm n.2.1.symm n.2.2.symm)
   |refuse y=>unfold stepG.exec at n;simp only[p]at n;cases n
   |goto l=>simp[cF]at B
   |seq a b=>
    simp[cF]at B;have au:fr.roundOf≠none->dW a=true/\dW b=true:=λQ=>by have:=J Q;simpa[gO,dW]using this
    unfold stepG.exec at n;simp only[p,GStep.go.injEq]at n;exact .inl (H {fr with todo:=.code a:: .code b::k} (R.ok.drop p (ae _ _ B.1 (λQ=>(au Q).1) B.2 (λQ=>(au Q).2))) (λf=>by unfold stepG.exec;simp[aO,p,cg,am]) n.1.symm n.2.1.symm n.2.2.symm)
   |block id a=>unfold stepG.exec at n;simp only[p,GStep.go.injEq]at n;exact .inl (H {fr with todo:=.code a:: .inBlock id::k} (R.ok.drop p (ae _ _ B J rfl (λ_=>rfl))) (λf=>by unfold stepG.exec;simp[aO,p,cg,am]) n.1.symm n.2.1.symm n.2.2.symm)
   |loop a=>unfold stepG.exec at n;simp only[p,GStep.go.injEq]at n;exact .inl (H {fr with todo:=.code a:: .inLoop a::k} (R.ok.drop p (ae _ _ B J B J)) (λf=>by unfold stepG.exec;simp[aO,p,cg,am]) n.1.symm n.2.1.symm n.2.2.symm)
   |scope a=>unfold stepG.exec at n;simp only[p,GStep.go.injEq]at n;exact .inl (H {fr with todo:=.code a:: .inScope a::k} (R.ok.drop p (ae _ _ B J B J)) (λf=>by unfold stepG.exec;simp[aO,p,cg,am]) n.1.symm n.2.1.symm n.2.2.symm)
   |ret=>
    apply lv (some .ret) (.inr (.inl rfl))
    .rw[<-n];unfold stepG.exec;simp only[p];rfl
    .have s:=A _ (aL R.heap 0);simp only[cg]at s;unfold stepG.exec;simp only[s];rfl
   |exit id=>
    cases hex:exitTo id k with
    |some k'=>unfold stepG.exec at n;simp only[p,hex,Option.elim_some,GStep.go.injEq]at n;exact .inl (H {fr with todo:=k'} (R.ok.drop p λx hx=>.inl (Bu id k k' hex x hx)) (λf=>by unfold stepG.exec;simp[aO,p,cg,am,Bv,hex]) n.1.symm n.2.1.symm n.2.2.symm)
    |none=>
     apply lv (some (.exit id)) (.inr (.inr ⟨id,rfl⟩))
     .rw[<-n];unfold stepG.exec;simp only[p,hex,Option.elim_none];rfl
     .have s:=A _ (aL R.heap 0);simp only[cg]at s;unfold stepG.exec;simp only[s,Bv,hex,mu,Option.elim_none];rfl
   |cond x a b=>
    simp[cF]at B;have au:fr.roundOf≠none->dW a=true/\dW b=true:=λQ=>by have:=J Q;simpa[gO,dW]using this
    unfold stepG.exec at n;simp[p]at n;cases he:fr.eval x with
    |bool t=>
     rw[he]at n;simp only[GStep.go.injEq]at n;rw[ij Z];have s:=A _ (aL R.heap 0);simp only[cg]at s;have av:m.eval x=.bool t:=by rw[h0.1,xT _ (S _ (aL R.heap 0)).low fr x B.1.1,he];simp
     unfold stepG.exec;simp only[s,av];obtain⟨rfl,rfl,rfl⟩:=n;refine .inl ⟨D,ai,v,#[],_,rfl,a9o.refl,.inl ⟨{fr with todo:=.code (if t then a else b)::k},gs,_,_,rfl,rfl,R.next a9o.refl R.heap R.all (R.ok.drop p (one _ (by cases t<;>simp[cZ,B.1.2,B.2]) (λQ=>by cases t<;>simp[gO,au Q]))) R.bQ λf u=>?_⟩⟩;have C:=R.aX f u;refine⟨?_,C.2⟩;have I:=A f u;rw[s,]at I;simp only[cg,iq,true_and]at I;rw[I,C.1];simp[aO,cg]
    |_=>rw[he]at n;cases n
   |region id ops bB=>
    unfold stepG.exec at n;simp only[p]at n;cases bB with
    |false=>simp only[Bool.not_false,if_true,GStep.go.injEq]at n;exact .inl (H {fr with todo:=.inRegion ops (List.range ops.size)::k} (R.ok.drop p (one _ B (λQ=>J Q))) (λf=>by unfold stepG.exec;simp[aO,p,cg,am]) n.1.symm n.2.1.symm n.2.2.symm)
    |true=>rw[ij Z];have s:=A _ (aL R.heap 0);simp only[cg]at s;unfold stepG.exec;simp only[s];have hc:∀(P:aA) (x:aa) (q:bW),(choose (.order q id)).run P x=.ok (x.tape x.drawn (.order q id)) {x with drawn:=x.drawn+1}:=λP x q=>rfl;simp only[b0M,d8,if_false,hc,ad,GStep.go.injEq]at n⊢;obtain⟨rfl,rfl,rfl⟩:=n;have bX:v.tape v.drawn (.order fr.fn id)=w.tape w.drawn (.order fr.fn id):=congrFun (M 0 a9i) _;rw[bX];have Y:a9o D D ai ai w {w with drawn:=w.drawn+1} v {v with drawn:=v.drawn+1} #[] #[]:=⟨λb hb=>⟨hb,rfl⟩,λb hb=>.inl hb,az _,az _,λ_ _ _=>rfl,rfl,rfl,rfl,rfl,rfl,rfl,⟨1,rfl,rfl⟩,λ_ _=>a9i,Grown.still rfl rfl λ_ _=>rfl,a9i,a9i⟩;have hh:cw lk lz T.globals.size D ai {w with drawn:=w.drawn+1} {v with drawn:=v.drawn+1}:=R.heap.same rfl rfl;refine .inl ⟨D,ai,{v with drawn:=v.drawn+1},#[],_,rfl,Y,.inl ⟨{fr with todo:=.inRegion ops (Region.schedule (Tables.follows T .mixedOrders) ops (w.tape w.drawn (.order fr.fn id)))::k},gs,_,_,rfl,rfl,R.next Y hh R.all (R.ok.drop p (one _ B (λQ=>J Q))) R.bQ λf u=>?_⟩⟩;have C:=R.aX f u;refine⟨?_,C.2⟩;have I:=A f u;rw[s]at I;simp only[cg,iq,true_and]at I;rw[I,C.1];simp[aO,cg]
   |rangeFunc g ps a b=>
    simp[cF]at B;rw[ij Z];have s:=A _ (aL R.heap 0);simp only[cg]at s;unfold stepG.exec at n⊢;simp only[p,s,ad]at n⊢;have hE:∀f,aQ D ai f->aB ⟨T,F⟩ ⟨T,F'⟩ f (λx y=>y=(f x.1,x.2.map (dv f))/\∀d∈x.2,fI d.target=true) (Instr.enterLoop fr.fn fr.tmps ps a b fr.roundOf) (Instr.enterLoop fr.fn m.tmps ps a b m.roundOf):=by intro f u;have C:=(R.aX f u).1;rw[C];exact xF fr.fn fr.tmps ps a b ⟨B.1.1.1.2,B.1.2⟩ ⟨B.1.1.2,B.2⟩ fr.roundOf
    rcases N:(Instr.enterLoop fr.fn fr.tmps ps a b fr.roundOf).runT ⟨T,F⟩ w #[]with⟨r,bR⟩;rw[N]at n;have bd:gG w v (fK r).drawn:=by
     obtain⟨bs,I⟩:=pS n;cases r with
     |ok a w1=>
      obtain⟨l,mk⟩:=a;dsimp at I;have bn:Fit T id:=⟨λa b h=>h,λ_ _=>rfl,tw.zero⟩;have bb:=(lD _ _ w #[] (xF (T:=T) (F:=F) (F':=F') (f:=id) fr.fn fr.tmps ps _ _ ⟨B.1.1.1.2,B.1.2⟩ ⟨B.1.1.2,B.2⟩ fr.roundOf) R.all).1;rw[N]at bb;rw[vW]at I;have b0:SE T F F' id (RN F T.globals.size id) (do let d<-Deferred.ofValue (({fr with todo:=.inRangeFunc l::k,defers:=mk++fr.defers}:ah).eval g) #[.func (.yield l) #[] #[]];invoke d.target d.args) (do let d<-Deferred.ofValue (al id (({fr with todo:=.inRangeFunc l::k,defers:=mk++fr.defers}:ah).eval g)) ((#[Value.func (.yield l) #[] #[]]:Array aj).map (al id));invoke d.target d.args):=by apply aB.bind (uD _ _);rintro d _ ⟨rfl,hd⟩;exact oP bn tw d.target hd d.args
      rcases bC:(do let d<-Deferred.ofValue (({fr with todo:=.inRangeFunc l::k,defers:=mk++fr.defers}:ah).eval g) #[.func (.yield l) #[] #[]];invoke d.target d.args:Sem Next).runT ⟨T,F⟩ w1 #[]with⟨r2,b2⟩;have bF:=(lD _ _ w1 #[] b0 bb).2;have bG:=Ki (P:=⟨T,F⟩) (do let d<-Deferred.ofValue (({fr with todo:=.inRangeFunc l::k,defers:=mk++fr.defers}:ah).eval g) #[.func (.yield l) #[] #[]];invoke d.target d.args:Sem Next) w1 #[];rw[bC]at bF bG;have ne:=tw.early;have b1:=AA bC bF I;rw[b1]at bG;exact λi B=>M i (by simp[fK]at B;omega)
     |halt h w1=>cases I
    obtain⟨⟨l,mk⟩,w1,rfl,D',L,⟨l',bI⟩,v1,bw,ao,hh,ha,hR,Y⟩|⟨x,w1,rfl,_⟩|⟨h,w1,rfl,ap⟩:=od R.heap R.os R.all hE N (λ_=>bd)
    .rw[ao];dsimp only at n⊢;have R1:e9 lk lz T cs D' L w1 v1 {fr with todo:=.inRangeFunc l::k,defers:=mk++fr.defers} gs {m with todo:=.inRangeFunc l'::k.map (cg (ag D ai (v.heap.size+0))),defers:=bI++m.defers} rcs:=by
      refine R.next Y hh ha ?_ R.bQ λf u=>?_
      .refine⟨λx hx=>?_,λd hd=>?_,R.ok.kind,λQ x hx=>?_,R.ok.last,R.ok.calm⟩
       .rcases dj.1 hx with rfl|hx
        .rfl
        .exact R.ok.items x (by rw[p];exact kL _ hx)
       .rcases oy.1 hd with hd|hd
        .exact(hR _ (aL hh 0)).2 d hd
        .exact R.ok.defers d hd
       .rcases dj.1 hx with rfl|hx
        .rfl
        .exact R.ok.round Q x (by rw[p];exact kL _ hx)
      .have C:=R.aX f (u.less Y.more);refine⟨?_,C.2⟩;have I:=A f (u.less Y.more);rw[s]at I;simp only[cg,iq,true_and]at I;have h3:=(hR f u).1;simp at h3;rw[I,h3.1,h3.2,C.1];simp[aO,cg]
     cases bo:stepG.apply ⟨T,F⟩ true {fr with todo:=.inRangeFunc l::k,defers:=mk++fr.defers} (gs++trap::below) none (do let d<-resolve ({fr with todo:=.inRangeFunc l::k,defers:=mk++fr.defers}:ah).eval {callee:=.value g,args:=#[.const (.func (.yield l) #[] #[])],argTypes:=#[]} 0;invoke d.target d.args) w1 with
     |go g1 w2 bs=>
      rw[bo]at n;simp[GStep.after]at n;obtain⟨rfl,rfl,rfl⟩:=n;have:=Az (s':=do let d<-resolve ({m with todo:=.inRangeFunc l'::k.map (cg (ag D ai (v.heap.size+0))),defers:=bI++m.defers}:ah).eval {callee:=.value g,args:=#[.const (.func (.yield l') #[] #[])],argTypes:=#[]} 0;invoke d.target d.args) tw R1 (λf u=>?_) bo (M.behind Y)
      .rw[ad]at this;exact .inl (iU.after (Y.seen tw fr.fn) this)
      .have bN:=oW tw R1.low u;have C:=(R1.aX f u).1;have h3:=(hR f u).1;simp at h3;have av:=xT f bN.low ({fr with todo:=.inRangeFunc l::k,defers:=mk++fr.defers}:ah) g B.1.1.1.1;rw[<-C]at av;have bp:=uD (T:=T) (F:=F) (F':=F') (f:=f) (({fr with todo:=.inRangeFunc l::k,defers:=mk++fr.defers}:ah).eval g) #[.func (.yield l) #[] #[]];rw[<-av]at bp;have W:(#[Value.func (.yield l) #[] #[]]:Array aj).map (al f)=#[Value.func (.yield l') #[] #[]]:=by simp[jK,h3.1]
       rw[W]at bp;rw[vW,vW];apply aB.bind bp;rintro d _ ⟨rfl,hd⟩;exact oP bN tw d.target hd d.args
     |_=>rw[bo]at n;simp[GStep.after]at n
    .simp[GStep.after]at n
    .simp[GStep.after]at n
def Qs(Z:Twin T F F' E)(R:e9 lk lz T cs D ai w v fr gs m rcs){d d'}(hd:fI d.target=true)(ab:∀f,aQ D ai f->d'=dv f d){g' w' es}(p:callDeferred ⟨T,F⟩ fr (gs++trap::below) none d w=.go g' w' es)(H:gG w v w'.drawn):iU lk lz T F F' E cs trap below D ai w v g' w' es (callDeferred ⟨T,F'⟩ m rcs none d' v):=by
 have h0:=R.aX _ (aL R.heap 0);have ap:m.fn=fr.fn:=by rw[h0.1];rfl
 have hE:∀f,aQ D ai f->aB ⟨T,F⟩ ⟨T,F'⟩ f (RN F T.globals.size f) (invoke d.target d.args) (invoke d'.target d'.args):=by intro f o;rw[ab f o];exact oP (oW Z R.low o) Z d.target hd d.args
 by_cases hn:d.target=.nil/\∃ch,fr.mode=.panicking ch
 .exfalso;obtain⟨u,ch,s⟩:=hn;unfold callDeferred at p;simp[u,s]at p
 .have aq:=ab _ (aL R.heap 0);unfold callDeferred at p⊢;rw[if_neg (by
   intro hc;apply hn;cases u:d.target<;>cases s:fr.mode<;>simp_all)]at p
  rw[if_neg (by
   intro hc;apply hn;rw[aq,h0.1]at hc;cases u:d.target<;>cases s:fr.mode<;>simp_all [dv,ja,aO,dZ])]
  rw[ap];rcases K:(invoke d.target d.args).runT ⟨T,F⟩ w #[]with⟨r,bc⟩;rw[K]at p;have ar:tY r->gG w v (fK r).drawn:=by
   intro o;obtain⟨bd,s⟩:=pS p;cases r with
   |ok a w1=>
    have:w'=w1:=by
     cases a with
     |alone on x=>cases on<;>simp at s
     |coroswitch c e=>cases e<;>simp at s
     |recover=>dsimp at s;split at s<;>(simp only[GStep.go.injEq]at s;exact s.2.1.symm)
     |_=>first|(simp only[GStep.go.injEq]at s;exact s.2.1.symm)|(simp at s;done)
    rw[this]at H;exact H
   |halt h w1=>
    obtain⟨x,rfl⟩|o:=o
    .simp only[GStep.go.injEq]at s;rw[<-s.2.1]at H;exact H
    .exfalso;cases h<;>simp[fi]at o<;>simp at s
  obtain⟨a,w1,rfl,C,j,b,L,au,S,I,M,X,z⟩|⟨x,w1,rfl,C,j,x',L,au,S,I,M,X,z⟩|⟨h,w1,rfl,U⟩:=od R.heap R.os R.all hE K ar
  .have q:=z.seen Z fr.fn;have n:∀f,aQ C j f->m=aO f fr/\rcs=gs.map (aO f)++cs:=λf o=>R.aX f (o.less z.more);have A:=X _ (aL I 0);rw[S];have bb:∀b',(∀c k sv wr,b'≠Next.callThen c k sv wr)->True:=λ_ _=>trivial;cases a with
   |value x=>simp only[RN]at A;subst A;simp[GStep.after]at p⊢;obtain⟨rfl,rfl,rfl⟩:=p;exact⟨C,j,L,_,_,rfl,by simpa using q,.inl ⟨fr,gs,m,rcs,rfl,rfl,R.next z I M R.ok R.bQ n⟩⟩
   |skip=>simp[RN]at A;subst A;simp[GStep.after]at p⊢;obtain⟨rfl,rfl,rfl⟩:=p;exact⟨C,j,L,_,_,rfl,by simpa using q,.inl ⟨fr,gs,m,rcs,rfl,rfl,R.next z I M R.ok R.bQ n⟩⟩
   |defer x=>simp only[RN]at A;obtain⟨rfl,_⟩:=A;simp[GStep.after]at p⊢;obtain⟨rfl,rfl,rfl⟩:=p;exact⟨C,j,L,_,_,rfl,by simpa using q,.inl ⟨fr,gs,m,rcs,rfl,rfl,R.next z I M R.ok R.bQ n⟩⟩
   |enter g N=>
    simp only[RN]at A;obtain⟨rfl,fn,c,B,t⟩:=A;simp only[GStep.after,GStep.go.injEq,b0E]at p⊢;obtain⟨rfl,rfl,rfl⟩:=p;by_cases hg:E g
    .refine⟨C,j,L,_,_,rfl,by simpa using q,.inr ⟨g,N,.deferred,_,fr,gs,m,rcs,⟨hg,.inr rfl⟩,rfl,rfl,λf o=>?_,R.next z I M R.ok R.bQ n⟩⟩;have:=(X f o).1;simp only[Next.enter.injEq,true_and]at this;exact this
    .let ⟨fn',hf',hres,_,_,_,av⟩:=Z.each g fn B;obtain⟨c1,c2,J,bl,ad,V⟩|⟨J,_⟩|⟨J,_⟩:=av
     .have ae:=V hg;subst ae;have aP:c1=c:=by rw[t]at J;exact(db J).symm
      subst aP;refine⟨C,j,L,_,_,rfl,by simpa using q,.inl ⟨Frame.enter ⟨T,F⟩ g N .deferred,fr::gs,_,_,rfl,rfl,R.next z I M ?_ ?_ λf o=>?_⟩⟩
      .refine⟨λi O=>?_,λd hd=>by simp[Frame.enter]at hd,.inr rfl,λh=>by simp[Frame.enter]at h,λh=>by simp[Frame.enter]at h,λc h=>by simp[Frame.enter]at h⟩;simp[Frame.enter,B,t]at O;subst O;exact ad
      .intro y W;obtain rfl|W:=dj.1 W
       .exact R.ok
       .exact R.bQ y W
      .have u:=n f o;have Y:=(X f o).1;simp only[Next.enter.injEq,true_and]at Y;refine⟨?_,by rw[u.1,u.2];rfl⟩;rw[Y];simp only[Frame.enter,aO,B,hf',bY,kO,b0c,t,dq,lH,cg,dZ,mu,pG];congr 1;rw[jV];congr 1;rw[b0Z];simp[undef]
     all_goals simp_all
   |round l g ao ba body=>
    simp only[RN]at A;obtain⟨rfl,P,Q⟩:=A;simp only[GStep.after,GStep.go.injEq,b0E]at p⊢;obtain⟨rfl,rfl,rfl⟩:=p;refine⟨C,j,L,_,_,rfl,by simpa using q,.inl ⟨Frame.round l g ao ba body .deferred,fr::gs,_,_,rfl,rfl,R.next z I M ?_ ?_ λf o=>?_⟩⟩
    .refine⟨λi O=>?_,λd hd=>by simp[Frame.round]at hd,.inr rfl,λ_ i O=>?_,λ_=>by simp[Frame.round],λc h=>by simp[Frame.round]at h⟩
     .simp[Frame.round]at O;obtain rfl|rfl|rfl:=O
      .exact P.1
      .rfl
      .exact Q.1
     .simp[Frame.round]at O;obtain rfl|rfl|rfl:=O
      .exact P.2
      .rfl
      .exact Q.2
    .intro y W;obtain rfl|W:=dj.1 W
     .exact R.ok
     .exact R.bQ y W
    .have u:=n f o;have Y:=(X f o).1;simp only[Next.round.injEq,and_true,true_and]at Y;refine⟨?_,by rw[u.1,u.2];rfl⟩;rw[Y.1,Y.2];rfl
   |_=>exact A.elim
  .have q:=z.seen Z fr.fn;have n:∀f,aQ C j f->m=aO f fr/\rcs=gs.map (aO f)++cs:=λf o=>R.aX f (o.less z.more);rw[S];simp[GStep.after]at p⊢;obtain⟨rfl,rfl,rfl⟩:=p;refine⟨C,j,L,_,_,rfl,by simpa using q,.inl ⟨fr.raise [{v:=x,recovered:=false}],gs,_,_,rfl,rfl,R.next z I M (R.ok.raise a9i) R.bQ λf o=>?_⟩⟩;have u:=n f o;rw[X f o,<-y7];exact⟨by rw[u.1];rfl,u.2⟩
  .exfalso;cases h<;>simp[fi]at U<;>simp[GStep.after]at p
variable{lk:Prop}{lz:Nat->Obj->Prop}{T:Tables}{F F':Array Func}{E:bW->Prop}{cs:List ah}{trap:ah}{below:List ah}{main:Bool}{D:Nat->Prop}{ai f:Nat->Nat}{w v:aa}{fr:ah}{gs:List ah}{m:ah}{rcs:List ah}
def a5A(ab:∀Q,trap.mode=.panicking Q->∀e∈Q,e.recovered=false)(Z:Twin T F F' E)(R:e9 lk lz T cs D ai w v fr gs m rcs)(hm:fr.mode≠.run){g' w' es}(g:unwind ⟨T,F⟩ true fr (gs++trap::below) none w=.go g' w' es)(L:gG w v w'.drawn):iU lk lz T F F' E cs trap below D ai w v g' w' es (unwind ⟨T,F'⟩ main m rcs none v)\/(gs=[]/\∃t,g'=am t below/\ny trap t):=by
 have h0:=R.aX _ (aL R.heap 0);have ad:m.fn=fr.fn:=by rw[h0.1];rfl
 have s:∀f,aQ D ai f->m.defers=fr.defers.map (dv f):=λf j=>by rw[(R.aX f j).1];rfl
 rcases l:fr.defers with _|⟨d,ds⟩
 .have av:m.defers=[]:=by rw[s _ (aL R.heap 0),l];rfl
  unfold unwind at g⊢;rw[l]at g;rw[av];dsimp only at g⊢;cases u:fr.mode with
  |run=>exact absurd u hm
  |panicking Q=>
   have z:∀f,aQ D ai f->m.mode=.panicking (Q.map (vT f)):=λf j=>by rw[(R.aX f j).1];simp[aO,u,dZ]
   rw[u]at g;rw[z _ (aL R.heap 0)];have aP:fr.catches ⟨T,F⟩=false:=by
    unfold Frame.catches;split
    .rename_i N;have:=R.ok.items _ (by rw[N];exact jg);simp[cZ]at this
    .rfl
   have ba:m.catches ⟨T,F'⟩=false:=by
    unfold Frame.catches;split
    .rename_i N;rw[h0.1]at N;simp only[aO]at N;rcases S:fr.todo with _|⟨i,k⟩
     .rw[S]at N;simp at N
     .have:=R.ok.items i (by rw[S];exact jg);rw[S]at N;cases i<;>simp[cg,cZ]at N this
    .rfl
   simp only[aP,ba,d8,if_false]at g⊢;cases gs with
   |nil=>refine .inr ⟨rfl,?_⟩;simp only[iu,GStep.go.injEq]at g;exact⟨_,g.1.symm,.inr (.inr ⟨Q,rfl⟩)⟩
   |cons c ae=>refine .inl ?_;rw[h0.2];simp only[fU,dq,GStep.go.injEq]at g⊢;obtain⟨rfl,rfl,rfl⟩:=g;refine⟨D,ai,v,#[],_,rfl,a9o.refl,.inl ⟨c.raise Q,ae,_,_,rfl,rfl,R.next a9o.refl R.heap R.all ((R.bQ c a9i).raise (R.ok.calm Q u)) (λx M=>R.bQ x (by simp[M])) λf j=>?_⟩⟩;have K:=R.aX f j;rw[h0.2]at K;simp only[dq,fU,iq]at K;have o:=z f j;rw[z _ (aL R.heap 0)]at o;simp only[FrameMode.panicking.injEq]at o;rw[K.2.1,o,y7];exact⟨rfl,K.2.2⟩
  |returning=>
   have z:m.mode=.returning:=by rw[h0.1];simp[aO,u,dZ]
   rw[u]at g;rw[z];dsimp only at g⊢;rw[ad];have O:∀f,aQ D ai f->m.tmps=fr.tmps.map (al f):=λf j=>by rw[(R.aX f j).1];rfl
   cases A:F[fr.fn]? with
   |none=>
    have B:F'[fr.fn]?=none:=by rw[Array.getElem?_eq_none_iff]at A⊢;rw[Z.size];exact A
    simp only[A,B]at g⊢;obtain⟨U,V,W,C,rfl,rfl,rfl,hq,R2⟩|hp:=Dh (main:=main) (F':=F') ab R (x':=m.tmps.getD 0 undef) (λf j=>by
     rw[O f j];simp only[io,ip];cases fr.tmps[0]? <;>simp[undef]) g
    .exact .inl ⟨D,ai,v,#[],_,hq,a9o.refl,.inl ⟨U,V,W,C,rfl,rfl,R2⟩⟩
    .exact .inr hp
   |some fn=>
    obtain⟨ao,B,ap,_⟩:=Z.each fr.fn fn A;simp only[A,B]at g⊢;have hE:∀f,aQ D ai f->aB ⟨T,F⟩ ⟨T,F'⟩ f (aN (al f)) (results fn fr.tmps) (results ao m.tmps):=by
     intro f j;have e1:results ao m.tmps=results fn m.tmps:=by unfold results;rw[ap]
     rw[e1,O f j];exact Ss (oW Z R.low j) fn fr.tmps
    rcases q:(results fn fr.tmps).runT ⟨T,F⟩ w #[]with⟨r,bb⟩;rw[q]at g;have X:gG w v (fK r).drawn:=by
     obtain⟨aq,o⟩:=pS g;cases r with
     |ok a H=>rw[<-Fy o];exact L
     |halt h H=>cases h<;>cases o
    obtain⟨a,H,rfl,D',p,b,v1,bc,Y,hh,ha,hR,P⟩|⟨x,H,rfl,_⟩|⟨h,H,rfl,I⟩:=od R.heap R.os R.all hE q (λ_=>X)
    .have R1:e9 lk lz T cs D' p H v1 fr gs m rcs:=R.next P hh ha R.ok R.bQ λf j=>R.aX f (j.less P.more)
     rw[Y];dsimp only at g⊢;cases hd:doReturn ⟨T,F⟩ true fr (gs++trap::below) none a H with
     |go g1 w2 aq=>
      rw[hd]at g;simp only[GStep.after,GStep.go.injEq]at g;obtain⟨rfl,rfl,rfl⟩:=g;obtain⟨U,V,W,C,rfl,rfl,rfl,hq,R2⟩|hp:=Dh (main:=main) (F':=F') ab R1 hR hd
      .refine .inl ?_;rw[hq];exact iU.after (P.seen Z fr.fn) ⟨D',p,v1,#[],_,rfl,a9o.refl,.inl ⟨U,V,W,C,rfl,rfl,R2⟩⟩
      .exact .inr hp
     |_=>rw[hd]at g;simp[GStep.after]at g
    .simp[GStep.after]at g
    .exfalso;cases h<;>simp[fi]at I<;>simp[GStep.after]at g
 .have ar:=R.ok.defers d (by rw[l];exact jg);have n:=s _ (aL R.heap 0);rw[l,dq]at n;have R1:e9 lk lz T cs D ai w v {fr with defers:=ds} gs {m with defers:=ds.map (dv (ag D ai (v.heap.size+0)))} rcs:=by
   refine R.next a9o.refl R.heap R.all ⟨R.ok.items,λx M=>R.ok.defers x (by rw[l];exact kL _ M),R.ok.kind,R.ok.round,R.ok.last,R.ok.calm⟩ R.bQ λf j=>?_
   have K:=R.aX f j;refine⟨?_,K.2⟩;have o:=s f j;rw[n,l,dq,iq]at o;rw[o.2,K.1];simp[aO]
  obtain⟨tg,au⟩:=d;by_cases J:∃b,tg=.collected b
  .obtain⟨bl,rfl⟩:=J;unfold unwind at g⊢;rw[l]at g;rw[n];simp only[dv,ja]at g⊢;rw[ad];have hE:∀f,aQ D ai f->aB ⟨T,F⟩ ⟨T,F'⟩ f (λx y=>y=x.map (dv f)/\∀d∈x,fI d.target=true) (Instr.takeDeferred bl) (Instr.takeDeferred ((ag D ai (v.heap.size+0)) bl)):=by intro f j;have o:=s f j;rw[n,l,dq,iq]at o;have h3:=o.1;simp only[dv,ja,Deferred.mk.injEq,Target.collected.injEq]at h3;rw[h3.1];exact SG bl
   rcases q:(Instr.takeDeferred bl).runT ⟨T,F⟩ w #[]with⟨r,bb⟩;rw[q]at g;have X:gG w v (fK r).drawn:=by
    obtain⟨aq,o⟩:=pS g;cases r with
    |ok a H=>simp only[GStep.go.injEq]at o;rw[<-o.2.1]at L;exact L
    |halt h H=>cases o
   obtain⟨a,H,rfl,D',p,b,v1,bc,Y,hh,ha,hR,P⟩|⟨x,H,rfl,_⟩|⟨h,H,rfl,I⟩:=od R.heap R.os R.all hE q (λ_=>X)
   .rw[Y];simp only[GStep.after,GStep.go.injEq,b0E]at g⊢;obtain⟨rfl,rfl,rfl⟩:=g;refine .inl ⟨D',p,v1,_,_,rfl,by simpa using P.seen Z fr.fn,.inl ⟨{fr with defers:=a++ds},gs,_,_,rfl,rfl,R.next P hh ha ⟨R.ok.items,λx M=>?_,R.ok.kind,R.ok.round,R.ok.last,R.ok.calm⟩ R.bQ λf j=>?_⟩⟩
    .rcases oy.1 M with M|M
     .exact(hR _ (aL hh 0)).2 x M
     .exact R.ok.defers x (by rw[l];exact kL _ M)
    .have K:=R.aX f (j.less P.more);refine⟨?_,K.2⟩;have o:=s f (j.less P.more);rw[n,l,dq,iq]at o;rw[o.2,(hR f j).1,K.1];simp[aO]
   .simp[GStep.after]at g
   .simp[GStep.after]at g
  .have e1:unwind ⟨T,F⟩ true fr (gs++trap::below) none w=callDeferred ⟨T,F⟩ {fr with defers:=ds} (gs++trap::below) none ⟨tg,au⟩ w:=by unfold unwind;rw[l];cases tg<;>first|rfl|exact absurd ⟨_,rfl⟩ J
   have e2:unwind ⟨T,F'⟩ main m rcs none v=callDeferred ⟨T,F'⟩ {m with defers:=ds.map (dv (ag D ai (v.heap.size+0)))} rcs none (dv (ag D ai (v.heap.size+0)) ⟨tg,au⟩) v:=by unfold unwind;rw[n];cases tg<;>first|rfl|exact absurd ⟨_,rfl⟩ J
   rw[e1]at g;rw[e2];refine .inl (Qs Z R1 ar (λf j=>?_) g L);have o:=s f j;rw[n,l,dq,iq]at o;exact o.1
def xb{trap:ah}(h:trap.mode=.returning):∀a,trap.mode=.panicking a->∀e∈a,e.recovered=false:=λa b=>by rw[h]at b;cases b
def wa(a:∀i,trap.mode=.panicking i->∀e∈i,e.recovered=false)(j:Twin T F F' E)(R:e9 lk lz T cs D ai w v fr gs m rcs){g' w' es}(c:stepG ⟨T,F⟩ true (am fr (gs++trap::below)) w=.go g' w' es)(b:gG w v w'.drawn):iU lk lz T F F' E cs trap below D ai w v g' w' es (stepG ⟨T,F'⟩ main (am m rcs) v)\/(gs=[]/\∃t,g'=am t below/\ny trap t):=by
 have h0:=R.aX _ (aL R.heap 0);by_cases d:fr.mode=.run
 .rw[ij d]at c;exact Tn a j R d c b
 .have g:m.mode≠.run:=by rw[h0.1];cases h:fr.mode<;>simp_all [aO,dZ]
  rw[kw d]at c;rw[kw g];exact a5A a j R d c b
theorem kq:∀v,al id v=v
 | .pointer a=>by cases a<;>simp[aG]
 | .slice a _ _=>by cases a<;>simp[aG]
 | .map r=>by cases r<;>simp
 | .chan r=>by cases r<;>simp
 | .func d a b=>by rw[mg,jp λx c=>kq x,jp λx c=>kq x];cases d<;>rfl
 | .iface t v=>by rw[ks,kq v]
 | .agg e=>by rw[iJ,jp λx c=>kq x]
 | .tuple e=>by rw[mh,jp λx c=>kq x]
 | .bool _=>a9i
 | .int _ _=>a9i
 | .float _ _=>a9i
 | .complex _ _ _=>a9i
 | .string _=>a9i
 | .nilFunc=>a9i
 | .nilIface=>a9i
termination_by v=>SizeOf.sizeOf v
theorem vV(a:Array aj):a.map (al id)=a:=jp λx _=>kq x
theorem zl(d):dv id d=d:=by obtain⟨t,a⟩:=d;simp only[dv,vV];cases t<;>simp[ja,vV];rename_i b _;cases b<;>rfl
def a1z(i):cg id i=i:=by cases i<;>simp[cg,zl,vV]
def pi(fr):aO id fr=fr:=by
 obtain⟨d,a,todo,defers,mode,b,f⟩:=fr;have g:todo.map (cg id)=todo:=by have:cg id=id:=funext a1z;rw[this];simp
 have h:defers.map (dv id)=defers:=by have:dv id=id:=funext zl;rw[this];simp
 have i:dZ id mode=mode:=by
  cases mode<;>simp[dZ];rename_i c;have:vT id=id:=funext λe=>by simp[vT,kq]
  rw[this];simp
 grind[aO,vV]
theorem a1C(e):qF id e=e:=by simp[qF,kq]
theorem qG(o):bu id o=o:=by
 cases o<;>simp[bu,vV,aG,pj]
 .grind[a1C]
 .rename_i a;cases a with
  |none=>rfl
  |some a=>have:dv id=id:=funext zl;simp[this]
 grind[zl]
def tk{P Q f α β R}:∀(s:Sem α) (s':Sem β) (w) (es),aB P Q f R s s'->cA P.globals.size w->∀a w' i,s.runT P w es=(.ok a w',i)->∃b,R a b:=by
 intro s;induction s with
 |pure a=>intro s' w es g h l w' i d;cases s'<;>simp[aB]at g;cases d;grind
 |load m a k j=>
  intro s' w es g h l w' i d;cases s'<;>simp[aB]at g
  grind[Sem.runT]
 |store m a v k j=>
  intro s' w es g h l w' i d;cases s'<;>simp[aB]at g;have D:cA P.globals.size (w.setCell a v):=h.modify λo z=>by cases o<;>exact z
  have B:(∀c,v≠Value.agg c)->(∀c,v≠Value.tuple c)->∃b,R l b:=by
   intro H I;have J:Sem.runT P (.store m a v k) w es=match w.cell? a with
     |some _=>if w.frozen? a then (.halt (.unsupported (.unsafePointer "a write to bytes that a string shares")) w,es)else k.runT P (w.setCell a v) (es.push ⟨.cell a,true,m==.atomic⟩)
     |none=>match w.farStore P a v (m==.atomic)with
      | .ok (w,p)=>k.runT P w (es++p.toArray.map (⟨.cell ·,true,m==.atomic⟩))
      | .error h=>(.halt h w,es):=by
    cases v<;>first|rfl|exact absurd rfl (H _)|exact absurd rfl (I _)
   rw[J]at d;split at d
   .grind
   .cases C:w.farStore P a v (m==.atomic)with
    |ok q=>
     obtain⟨K,t⟩:=q;rw[C]at d;have u:=(lD (P:=P) (Q:=Q) (f:=f) (R:=R) (.store m a v (.halt (.stuck "")):Sem α) (.store m (aG f a) (al f v) (.halt (.stuck "")):Sem β) w #[] ⟨rfl,rfl,rfl,aC _ _⟩ h).1;have L:Sem.runT P (.store m a v (.halt (.stuck "")):Sem α) w #[]=(.halt (.stuck "") K,#[]++t.toArray.map (⟨.cell ·,true,m==.atomic⟩)):=by
      have y:w.cell? a=none:=by assumption
      cases v<;>first|exact absurd rfl (H _)|exact absurd rfl (I _)|simp[Sem.runT,y,C]
     rw[L]at u;exact j _ _ _ g.2.2.2 u _ _ _ d
    |error e=>rw[C]at d;cases d
  cases v<;>first|(cases d;done)|exact B a9i a9i
 |new o k j=>
  intro s' w es g h l w' i d;cases s'<;>simp[aB]at g;refine j _ _ _ _ (g.2.2 _) ?_ _ _ _ d;intro b x A;rw[fB]at A;split at A
  .cases A;exact g.2.1.1
  .exact h b x A
 |shape r k j=>intro s' w es g h l w' i d;cases s'<;>simp[aB]at g;exact j _ _ _ _ (g.2 _) h _ _ _ d
 |freeze a n k j=>
  intro s' w es g h l w' i d;cases s'<;>simp[aB]at g;refine j _ _ _ g.2.2 ?_ _ _ _ d;unfold World.freeze;split
  .exact h
  .exact h.modify λo z=>by cases o<;>exact z
 |frozen a k j=>intro s' w es g h l w' i d;cases s'<;>simp only[aB]at g;exact j _ _ _ _ (g.2 _) h _ _ _ d
 |getObj r k j=>
  intro s' w es g h l w' i d;cases s'<;>simp[aB]at g;simp only[Sem.runT]at d;split at d
  .cases d
  .rename_i o _ z;exact j _ _ _ _ (g.2.1 _ (h _ _ z)) h _ _ _ d
  grind
 |setObj r o k j=>
  intro s' w es g h l w' i d;cases s'<;>simp[aB]at g;simp only[Sem.runT]at d;split at d
  .cases d
  .exact j _ _ _ g.2.2.2 (h.set g.2.2.1.1) _ _ _ d
  grind
 |choose q k j=>
  intro s' w es g h l w' i d;cases s'<;>simp[aB]at g;simp only[Sem.runT]at d;split at d
  .exact j _ _ _ _ (g.2 _) h _ _ _ d
  .exact j _ _ {w with drawn:=w.drawn+1} _ (g.2 _) h _ _ _ d
 |sys c k j=>intro s' w es g h l w' i d;cases s'<;>simp[aB]at g;obtain⟨rfl,_,M⟩:=g;exact j _ _ _ _ (M _) h _ _ _ d
 |program k j=>intro s' w es g h l w' i d;cases s'<;>simp[aB]at g;exact j _ _ _ _ g h _ _ _ d
 |mark m k j=>intro s' w es g h l w' i d;cases s'<;>simp[aB]at g;exact j _ _ _ g.2 h _ _ _ d
 |halt h0=>intro s' w es g h l w' i d;cases d
def nt(a b:ah):Prop:=b.fn=a.fn/\b.kind=a.kind/\b.roundOf=a.roundOf
def Ia(a x):nt a (a.finish x):=by unfold Frame.finish;split<;>exact⟨rfl,rfl,rfl⟩
def Ib(a b):nt a (a.raise b):=by unfold Frame.raise;split<;>exact⟨rfl,rfl,rfl⟩
def Ao(Q:Prop)(fr:ah)(cs:List ah)(a:ah)(c1:List ah):Prop:=
 (c1=cs/\nt fr a)\/(∃b,c1=b::cs/\nt fr b)\/∃c,cs=c::c1/\nt c a/\Q
def GE(Q:Prop)(fr:ah)(cs:List ah)(s:GStep):Prop:=(∃a b c d,s=.go (am a b) c d/\Ao Q fr cs a b)\/∃o c d,s=.ended o c d
section
variable{Q Q':Prop}{fr:ah}{cs:List ah}
theorem GE.after{s}(h:GE Q fr cs s)(u):GE Q fr cs (s.after u):=by
 obtain⟨a,b,c,d,rfl,h⟩|⟨a,b,c,rfl⟩:=h
 .exact .inl ⟨_,_,_,_,rfl,h⟩
 .exact .inr ⟨_,_,_,rfl⟩
def GE.less{fr2 s}(h:GE Q fr2 cs s)(f:nt fr fr2)(i:Q->Q'):GE Q' fr cs s:=by
 obtain⟨a,b,c,d,rfl,h⟩|h:=h
 .refine .inl ⟨_,_,_,_,rfl,?_⟩;obtain⟨g,e⟩|⟨j,g,e⟩|⟨c,g,e,k⟩:=h
  .exact .inl ⟨g,e.1.trans f.1,e.2.1.trans f.2.1,e.2.2.trans f.2.2⟩
  .exact .inr (.inl ⟨j,g,e.1.trans f.1,e.2.1.trans f.2.1,e.2.2.trans f.2.2⟩)
  .exact .inr (.inr ⟨c,g,e,i k⟩)
 .exact .inr h
def eK{a:ah}{c1:List ah}{w:aa}{es:Array aT}(h:Ao Q fr cs a c1:=by first|exact .inl ⟨rfl,rfl,rfl,rfl⟩|exact .inl ⟨rfl,Ia _ _⟩|exact .inl ⟨rfl,Ib _ _⟩|exact .inr (.inl ⟨_,rfl,rfl,rfl,rfl⟩)):GE Q fr cs (.go (am a c1) w es):=.inl ⟨_,_,_,_,rfl,h⟩
def UE{c}[Decidable c]{x y}(a:GE Q fr cs x)(b:GE Q fr cs y):GE Q fr cs (if c then x else y):=by
 grind
theorem gv{o w es}:GE Q fr cs (.ended o w es):=.inr ⟨_,_,_,rfl⟩
end
section
variable{T:Tables}{F:Array Func}{E:bW->Prop}{fr:ah}{cs:List ah}{w:aa}
def uV{P x}(a:fr.kind=.normal\/fr.kind=.deferred)(e:cs≠[]){Q}(b:Q):GE Q fr cs (doReturn P true fr cs none x w):=by
 obtain _|⟨c,d⟩:=cs
 .simp_all
 .rcases a with a|a
  .simp[doReturn,a];exact eK (.inr (.inr ⟨c,rfl,Ia _ _,b⟩))
  .simp[doReturn,a];exact eK (.inr (.inr ⟨c,rfl,by split<;>first|exact⟨rfl,rfl,rfl⟩|(split<;>exact⟨rfl,rfl,rfl⟩),b⟩))
def BZ[ne:nu ⟨T,F⟩](ok:bJ T.globals.size fr)(c:cA T.globals.size w){s s'}(i:SE T F F id (RN F T.globals.size id) s s'):GE False fr cs (stepG.apply ⟨T,F⟩ true fr cs none s w):=by
 have e:(fr.kind==CallKind.early)=false:=by obtain h|h:=ok.kind<;>rw[h]<;>rfl
 rcases f:s.runT ⟨T,F⟩ w #[]with⟨r,g⟩;have d:=(lD s s' w #[] i c).2;rw[f]at d;unfold stepG.apply;simp only[f,if_true,e,d8,if_false];refine GE.after ?_ _;cases r with
 |ok a j=>obtain⟨b,k⟩:=tk s s' w #[] i c a j g f;cases a<;>first|exact eK|exact k.elim
 |halt h j=>
  obtain⟨x,rfl⟩|d:=d
  .exact eK
  .cases h<;>simp[fi]at d
   .rename_i u;cases u<;>first|exact gv|exact .inr (ne.early _ _ _ _ _)
   .exact gv
def UD(J:Twin T F F E)(ok:bJ T.globals.size fr)(s:cA T.globals.size w)(M:cs≠[]):GE (fr.roundOf≠none) fr cs (stepG.exec ⟨T,F⟩ true true fr cs none w):=by
 have ne:=J.early;have n:Fit T id:=⟨λa b h=>h,λ_ _=>rfl,J.zero⟩;have N:∀(g:ah) x,kh T.globals.size x=true->g.eval x=al id (g.eval x):=λg x _=>(kq _).symm;unfold stepG.exec;rcases B:fr.todo with _|⟨i,k⟩
 .simp only;cases e:fr.roundOf with
  |none=>exact eK (.inl ⟨rfl,rfl,rfl,e.symm⟩)
  |some l=>
   refine GE.after ?_ _;split
   .exact uV ok.kind M a9i
   .exact gv
 .have p:cZ T.globals.size i=true:=ok.items i (by rw[B];exact jg);have O:fr.roundOf≠none->gO i=true:=λv=>ok.round v i (by rw[B];exact jg);simp only;cases i with
  |inBlock id=>exact eK
  |inScope c=>exact eK
  |inLoop c=>exact eK
  |inRangeFunc l=>exact gv
  |call d a b c=>simp[cZ]at p
  |extern r a=>simp[cZ]at p
  |beginRound=>
   refine GE.less (BZ (s':=(do fr.roundOf.elim (stuck "beginRound: no round") Instr.beginRound;pure .skip)) ok s ?_) ⟨rfl,rfl,rfl⟩ False.elim;cases fr.roundOf with
   |none=>exact aC _ _
   |some l=>apply aB.bind (A8 n l);rintro _ _ _;exact ax rfl
  |endRangeFunc l=>
   have K:=(lD (P:=⟨T,F⟩) (Q:=⟨T,F⟩) (Instr.endLoop l) (Instr.endLoop (id l)) w #[] (FL n l) s).2;refine GE.after ?_ _;rcases v:(Instr.endLoop l).runT ⟨T,F⟩ w #[]with⟨r,C⟩;rw[v]at K;dsimp only;cases r with
   |ok a L=>exact eK
   |halt h L=>
    obtain⟨x,rfl⟩|K:=K
    .exact eK
    .cases h<;>first|exact gv|(simp[fi]at K;done)
  |inRegion ops todo=>
   cases todo with
   |nil=>exact eK
   |cons j V=>
    dsimp only;split
    .unfold stepG.oper;have Z:fr.oper?=ops[j]? :=by simp[Frame.oper?,B]
     rw[Z];cases ho:ops[j]? with
     |none=>exact gv
     |some o=>
      have t:o∈ops:=ou ho;have D:ie T.globals.size o.op=true:=by simp only[cZ]at p;rw[oq]at p;obtain⟨q,R,rfl⟩:=fT.1 t;exact p q R
      have S:GE False fr cs (stepG.apply ⟨T,F⟩ true fr cs none (execOp fr.eval o) w):=BZ (s':=execOp fr.eval o) ok s (xH n J (λx u=>N fr x u) o D);dsimp only;split
      .rename_i l c e U;exfalso;have:=O (by rw[e];simp);simp only[gO]at this;simp at this;obtain⟨q,R,rfl⟩:=fT.1 t;have W:=this q R;rw[U]at W;simp at W
      .exact S.less ⟨rfl,rfl,rfl⟩ False.elim
    .exact eK
  |code c=>
   simp[cZ]at p;cases c with
   |skip=>exact eK
   |label l=>exact eK
   |refuse y=>exact gv
   |goto l=>simp[cF]at p
   |seq a b=>exact eK
   |block id a=>exact eK
   |loop a=>exact eK
   |scope a=>exact eK
   |ret=>
    dsimp only;cases e:fr.roundOf with
    |none=>dsimp only;split<;>first|exact eK (.inl ⟨rfl,rfl,rfl,e.symm⟩)|exact gv
    |some l=>
     refine GE.after ?_ _;split
     .exact uV ok.kind M a9i
     .exact gv
   |exit id=>
    dsimp only;cases exitTo id k with
    |some k'=>exact eK
    |none=>
     dsimp only[Option.elim_none];cases e:fr.roundOf with
     |none=>dsimp only;split<;>first|exact eK (.inl ⟨rfl,rfl,rfl,e.symm⟩)|exact gv
     |some l=>
      refine GE.after ?_ _;split
      .exact uV ok.kind M a9i
      .exact gv
   |cond x a b=>
    dsimp only;split
    .exact eK
    .exact gv
   |region id ops H=>
    cases H with
    |false=>exact eK
    |true=>exact eK
   |rangeFunc g X a b=>
    simp[cF]at p;have I:=xF (T:=T) (F:=F) (F':=F) (f:=id) fr.fn fr.tmps X a b ⟨p.1.1.1.2,p.1.2⟩ ⟨p.1.1.2,p.2⟩ fr.roundOf;have z:=lD _ _ w #[] I s;refine GE.after ?_ _;rcases v:(Instr.enterLoop fr.fn fr.tmps X a b fr.roundOf).runT ⟨T,F⟩ w #[]with⟨r,C⟩;rw[v]at z;dsimp only;cases r with
    |halt h L=>exact gv
    |ok q L=>
     obtain⟨_,hb⟩:=tk _ _ w #[] I s q L C v;obtain⟨l,Y⟩:=q;dsimp only;rw[vW];refine GE.less (fr2:={fr with todo:=.inRangeFunc l::k,defers:=Y++fr.defers}) (BZ (s':=do let d<-Deferred.ofValue (al id (({fr with todo:=.inRangeFunc l::k,defers:=Y++fr.defers}:ah).eval g)) ((#[Value.func (.yield l) #[] #[]]:Array aj).map (al id));invoke d.target d.args) ?_ z.1 ?_) ⟨rfl,rfl,rfl⟩ False.elim
     .refine⟨λx u=>?_,λd A=>?_,ok.kind,λv x u=>?_,ok.last,ok.calm⟩
      .rcases dj.1 u with rfl|u
       .rfl
       .exact ok.items x (by rw[B];exact kL _ u)
      .rcases oy.1 A with A|A
       .exact hb.2 d A
       .exact ok.defers d A
      .rcases dj.1 u with rfl|u
       .rfl
       .exact ok.round v x (by rw[B];exact kL _ u)
     .apply aB.bind (uD _ _);rintro d _ ⟨rfl,A⟩;exact oP n J d.target A d.args
def UC(j:Twin T F F E)(ok:bJ T.globals.size fr)(c:cA T.globals.size w){d}(n:fI d.target=true):GE False fr cs (callDeferred ⟨T,F⟩ fr cs none d w):=by
 have e:Fit T id:=⟨λa b h=>h,λ_ _=>rfl,j.zero⟩;have f:=oP (F:=F) (F':=F) e j d.target n d.args;have g:=(lD _ _ w #[] f c).2;unfold callDeferred;apply UE gv
 .rcases k:(invoke d.target d.args).runT ⟨T,F⟩ w #[]with⟨r,i⟩;rw[k]at g;dsimp;refine GE.after ?_ _;cases r with
  |ok a l=>obtain⟨b,o⟩:=tk _ _ w #[] f c a l i k;cases a<;>first|exact eK|exact o.elim
  |halt h l=>
   obtain⟨x,rfl⟩|g:=g
   .exact eK
   grind[gv,fi]
def Lj(j:Twin T F F E)(b:bJ T.globals.size fr)(f:cA T.globals.size w)(h:cs≠[]):GE (fr.roundOf≠none\/fr.mode≠.run/\fr.defers=[]) fr cs (stepG ⟨T,F⟩ true (am fr cs) w):=by
 by_cases k:fr.mode=.run
 .rw[ij k];exact(UD j b f h).less ⟨rfl,rfl,rfl⟩ .inl
 .rw[kw k];unfold unwind;rcases e:fr.defers with _|⟨d,n⟩
  .dsimp only;cases o:fr.mode with
   |run=>exact gv
   |panicking r=>
    dsimp only;split
    .exact gv
    .rcases cs with _|⟨c,l⟩
     .simp_all
     .exact eK (.inr (.inr ⟨c,rfl,Ib _ _,.inr ⟨a9i,by simp_all⟩⟩))
   |returning=>
    dsimp only;split
    .exact uV b.kind h (.inr ⟨a9i,by simp_all⟩)
    .refine GE.after ?_ _;split
     .exact uV b.kind h (.inr ⟨a9i,by simp_all⟩)
     .exact gv
     .exact gv
  .have g:=b.defers d (by rw[e];grind);have i:bJ T.globals.size {fr with defers:=n}:=⟨b.items,λx s=>b.defers x (by rw[e];simp_all),b.kind,b.round,b.last,b.calm⟩;obtain⟨p,q⟩:=d;have a:=UC (cs:=cs) j i f g;have a:=a.less (fr:=fr) (Q':=fr.roundOf≠none\/fr.mode≠.run/\fr.defers=[]) ⟨rfl,rfl,rfl⟩ False.elim;rw[e]at a;cases p<;>first|exact a|skip
   dsimp only;refine GE.after ?_ _;split
   .exact eK
   .exact gv
def Li(j:Twin T F F E)(k:bJ T.globals.size fr)(e:cA T.globals.size w)(l:cs≠[]):(∃f g i es,stepG ⟨T,F⟩ true (am fr cs) w=.go (am f g) i es)\/∃o i es,stepG ⟨T,F⟩ true (am fr cs) w=.ended o i es:=
 (Lj j k e l).imp (λ⟨a,b,c,d,h,_⟩=>⟨a,b,c,d,h⟩) id
end
end Go.Mir
end
section
namespace Go.Mir
open Go
variable{P:aA}{Z:Nat->Prop}{K:Nat->Obj}{w u u':aa}{fr fr':ah}{cs m:List ah}{es:Array aT}
theorem eM{P f es e}(h:e∈seen P f es):e∈es:=by
 unfold seen at h;dsimp at h;rw[<-b0i]at h;have a:∀(l:List aT) (q:Bool) (kept:Array aT),e∈(l.foldl (λ(x:Bool×Array aT) e=>match x with
   |(q,kept)=>match e.loc with
    | .mark (.extern f)=>((P.funcs[f]?).any (·.norace),kept)
    |_=>(q,if (q&& !e.sync)=true then kept else kept.push e)) (q,kept)).2->e∈kept\/e∈l:=by
  intro l;induction l with
  |nil=>simp_all
  |cons x l b=>
   intro q kept h;rw[b1s]at h;dsimp at h;split at h
   all_goals grind
 obtain h|h:=a _ _ _ h
 all_goals simp_all
def lY{g w w' es es'}(h:GStep.go g w es=.go (am fr cs) w' es'):g=am fr cs/\w=w'/\es=es':=by simp_all
def a4S[ne:nu P]{s}(A:fr.kind=.normal\/fr.kind=.deferred)(B:NF P s)(f:∀h u1,(s.runT P u #[]).1=.halt h u1->(∃x,h=.panic x)\/fi h=true)(k:∀d u1,(s.runT P u #[]).1≠.ok (.spawn d) u1)(hF:bj Z K w u)(b:stepG.apply P true fr cs none s u=.go (am fr' m) u' es):∃j,stepG.apply P true fr cs none s w=.go (am fr' m) j es/\bj Z K j u'/\∀e∈es,j4 Z e:=by
 have t:(fr.kind==CallKind.early)=false:=by obtain h|h:=A<;>rw[h]<;>rfl
 rcases y:s.runT P u #[]with⟨r,g⟩;rw[y]at f k;unfold stepG.apply at b⊢;simp only[y,if_true,t,d8,if_false]at b⊢;have l:Yields r->∃j,s.runT P w #[]=(jE j r,g)/\bj Z K j (fK r)/\∀e∈g,j4 Z e:=λC=>by obtain⟨j,n,c,p⟩:=a9B s w u #[] B hF r g y C;exact⟨j,n,c,λe z=>(p e z).resolve_left a9i⟩
 cases r with
 |ok a u1=>
  let ⟨w1,n,c,p⟩:=l trivial;simp only[n,jE,fK]at b c⊢;have i:∀e∈seen P fr.fn g++#[],j4 Z e:=λe z=>p e (eM (by simpa using z));cases a
  case value=>dsimp[GStep.after]at b⊢;obtain⟨q1,rfl,rfl⟩:=lY b;exact⟨w1,by rw[q1],c,i⟩
  case skip=>dsimp[GStep.after]at b⊢;obtain⟨q1,rfl,rfl⟩:=lY b;exact⟨w1,by rw[q1],c,i⟩
  case enter=>dsimp[GStep.after]at b⊢;obtain⟨q1,rfl,rfl⟩:=lY b;exact⟨w1,by rw[q1],c,i⟩
  case round=>dsimp[GStep.after]at b⊢;obtain⟨q1,rfl,rfl⟩:=lY b;exact⟨w1,by rw[q1],c,i⟩
  case defer=>dsimp[GStep.after]at b⊢;obtain⟨q1,rfl,rfl⟩:=lY b;exact⟨w1,by rw[q1],c,i⟩
  case callThen=>dsimp at b⊢;split at b<;>(dsimp[GStep.after]at b⊢;obtain⟨q1,rfl,rfl⟩:=lY b;exact⟨w1,by rw[q1],c,i⟩)
  case row=>dsimp at b⊢;split at b<;>(dsimp[GStep.after]at b⊢;obtain⟨q1,rfl,rfl⟩:=lY b;exact⟨w1,by rw[q1],c,i⟩)
  case stack=>dsimp at b⊢;split at b<;>(dsimp[GStep.after]at b⊢;obtain⟨q1,rfl,rfl⟩:=lY b;exact⟨w1,by rw[q1],c,i⟩)
  case recover=>dsimp at b⊢;split at b<;>(dsimp[GStep.after]at b⊢;obtain⟨q1,rfl,rfl⟩:=lY b;exact⟨w1,by rw[q1],c,i⟩)
  case spawn=>exact absurd rfl (k _ _)
  all_goals(dsimp[GStep.after]at b;cases b)
 |halt h u1=>
  obtain⟨x,rfl⟩|D:=f h u1 rfl
  .let ⟨w1,n,c,p⟩:=l trivial
   grind[jE,fK,eM,GStep.after]
  .exfalso;cases h<;>simp[fi]at D
   .rename_i v;cases v<;>first|(cases b;done)|(obtain⟨o,F,E,q⟩:=ne.early fr cs none (by assumption) u1;simp only[q,GStep.after]at b;cases b)
   .cases b
variable{P:aA}{Z:Nat->Prop}{K:Nat->Obj}{w u u':aa}{fr fr':ah}{cs m:List ah}{es:Array aT}
def Cx{o}(h:thin o):NF P (newObj o):=⟨h,λ_=>trivial⟩
def Ym(l):NF P (Instr.beginRound l):=by
 refine wg (l:=l) trivial (λo a=>by cases o<;>first|exact a.elim|trivial) λo=>?_;cases o with
 |loop r=>
  refine .inr ⟨_,_,rfl,trivial,?_⟩;show NF P (match r.state with| .ready=>_| .done=>_| .busy=>_| .exhausted=>_)
  grind[NF.pure,vH]
 |_=>exact .inl trivial
def Yz(l j):NF P (Instr.endRound l j):=by
 refine wg (l:=l) trivial (λo a=>by cases o<;>first|exact a.elim|trivial) λo=>?_;cases o with
 |loop r=>exact .inr ⟨_,_,rfl,trivial,NF.pure _⟩
 |_=>exact .inl trivial
def Yy(l):NF P (Instr.endLoop l):=by
 refine wg (l:=l) trivial (λo b=>by cases o<;>first|exact b.elim|trivial) λo=>?_;cases o with
 |loop r=>
  by_cases a:(r.state==.busy)=true
  .refine .inl ?_;show NF P (if r.state==.busy then _ else _);rw[if_pos a];simp_all
  .refine .inr ⟨.loop {r with state:=.exhausted},.pure r.pending,?_,trivial,trivial⟩;show(if r.state==.busy then _ else _)=_;rw[if_neg a];rfl
 |_=>exact .inl trivial
def Zj(l):NF P (Instr.takeDeferred l):=by
 refine wg (l:=l) trivial (λo a=>by cases o<;>first|exact a.elim|trivial) λo=>?_;cases o with
 |deferred c=>
  cases c with
  |none=>exact .inl trivial
  |some b=>exact .inr ⟨_,_,rfl,trivial,NF.pure _⟩
 |_=>exact .inl trivial
def YB(fn t c a b r):NF P (Instr.enterLoop fn t c a b r):=by
 unfold Instr.enterLoop;cases r with
 |none=>refine NF.bind (Cx trivial) λr=>NF.bind (NF.pure _) λq=>?_;exact NF.bind (Cx trivial) λ_=>NF.pure _
 |some l=>refine NF.bind (YM l) λr=>NF.bind (NF.pure _) λq=>?_;exact NF.bind (Cx trivial) λ_=>NF.pure _
def GT(Z:Nat->Prop)(K:Nat->Obj)(x y:GStep):Prop:=∀fr' m u' es,x=.go (am fr' m) u' es->∃a,y=.go (am fr' m) a es/\bj Z K a u'/\∀e∈es,j4 Z e
theorem fp{g}(h:bj Z K w u):GT Z K (.go g u) (.go g w):=by intro a b c d e;simp_all
def iH{o v es y}:GT Z K (.ended o v es) y:=by intro a b c d e;cases e
theorem yq{x y es}(h:GT Z K x y)(o:∀e∈es,j4 Z e):GT Z K (x.after es) (y.after es):=by
 intro a b c d f;cases x with
 |go g j i=>
  obtain⟨rfl,rfl,rfl⟩:=lY f;obtain⟨k,l,n,p⟩:=h a b j i rfl;refine⟨k,by rw[l];rfl,n,λe q=>?_⟩
  grind
 |_=>simp only[GStep.after]at f;cases f
def yr{α s}(t:NF P s)(hF:bj Z K w u){f}{k:Result α->GStep}(v:∀r j,Yields r->bj Z K j (fK r)->GT Z K (k r) (k (jE j r)))(l:∀r y,¬Yields r->GT Z K (k r) y):GT Z K (GStep.after (seen P f (s.runT P u #[]).2) (k (s.runT P u #[]).1)) (GStep.after (seen P f (s.runT P w #[]).2) (k (s.runT P w #[]).1)):=by
 rcases x:s.runT P u #[]with⟨r,n⟩;by_cases o:Yields r
 .grind[a9B,yq,eM]
 .intro a b c d h;exfalso;cases e:k r with
  |go g p i=>rw[e]at h;obtain⟨rfl,rfl,rfl⟩:=lY h;obtain⟨j,q,_⟩:=l r (.ended (.done undef) u #[]) o a b p i e;cases q
  |_=>rw[e]at h;simp only[GStep.after]at h;cases h
def B4{x}(b:fr.kind=.normal\/fr.kind=.deferred)(d:cs≠[])(hF:bj Z K w u):GT Z K (doReturn P true fr cs none x u) (doReturn P true fr cs none x w):=by
 obtain _|⟨c,a⟩:=cs
 .simp_all
 grind[doReturn,fp]
section
variable{T:Tables}{F:Array Func}{E:bW->Prop}{Z:Nat->Prop}{K:Nat->Obj}{w u u':aa}{fr fr':ah}{cs m:List ah}
structure iv (T:Tables) (F:Array Func):Prop where
 ext:∀(g:bW) (fn:Func) (e:Array aj->Sem aj),F[g]?=some fn->fn.body=none->Extern.find fn=some e->∀a,NF ⟨T,F⟩ (e a)
 eqs:∀t,Bm.contains t=true->mO ⟨T,F⟩ 4 t=true
 xn:∀s d,CI s d=true->rQ ⟨T,F⟩ s d=true
theorem yH(j:Twin T F F E)(cL:iv T F)(g args):NF ⟨T,F⟩ (callFunc g args):=by
 change NF ⟨T,F⟩ (match F[g]? with|none=>_|some h=>_);cases i:F[g]? with
 |none=>exact NF.stuck _
 |some h=>
  obtain⟨k,l,_,_,n,o,p⟩:=j.each g h i;dsimp;simp only[n,d8,if_false];obtain⟨c,r,a,d,_,_⟩|⟨a,rfl,f,e,b,s⟩|⟨a,d,f,b,q⟩:=p
  .simp_all[NF.pure]
  .simp only[a,b1c,if_true,f,b];exact NF.bind (IP _) λ_=>NF.bind (cL.ext g _ e i a b _) λ_=>NF.pure _
  .simp[a,f,b,q]
   grind[NF.bind,IP,NF.unsupported]
def Yi(cL:iv T F){G o}(h:ie G o=true):sP ⟨T,F⟩ o=true:=by
 simp only[ie,eO]at h;obtain⟨h0,h⟩:=h;clear h0;cases o<;>first|exact h|rfl|exact(Bool.false_ne_true h).elim|skip
 case binOp a t x y u=>
  simp only[sP,pI]at h⊢;obtain((h|h)|h)|h:=h
  .simp_all
  .exact .inl (.inl (.inr (cL.eqs t h)))
  all_goals simp_all
 case convert s d x=>exact cL.xn s d h
def B2[ne:nu ⟨T,F⟩](l:bJ T.globals.size fr)(e:cA T.globals.size u){s s'}(n:NF ⟨T,F⟩ s)(i:SE T F F id (RN F T.globals.size id) s s')(hF:bj Z K w u):GT Z K (stepG.apply ⟨T,F⟩ true fr cs none s u) (stepG.apply ⟨T,F⟩ true fr cs none s w):=by
 intro a b c d o;refine a4S l.kind n (λh u1 f=>?_) (λd u1 f=>?_) hF o
 .have j:=(lD s s' u #[] i e).2;rw[f]at j;exact j
 .rcases k:s.runT ⟨T,F⟩ u #[]with⟨r,g⟩;rw[k]at f;dsimp at f;subst f;obtain⟨b,p⟩:=tk s s' u #[] i e _ _ g k;exact p.elim
def B3(ok:bJ T.globals.size fr)(e:cs≠[])(hF:bj Z K w u)(l:Nat)(j:Option Code):
  GT Z K (GStep.after (seen ⟨T,F⟩ fr.fn ((Instr.endRound l j).runT ⟨T,F⟩ u #[]).2) (match ((Instr.endRound l j).runT ⟨T,F⟩ u #[]).1 with
    | .ok v w=>doReturn ⟨T,F⟩ true fr cs none v w
    | .halt _ w=>.ended (.stuck "range over a function: no such loop" (fr.pos ⟨T,F⟩)) w))
   (GStep.after (seen ⟨T,F⟩ fr.fn ((Instr.endRound l j).runT ⟨T,F⟩ w #[]).2) (match ((Instr.endRound l j).runT ⟨T,F⟩ w #[]).1 with
    | .ok v w=>doReturn ⟨T,F⟩ true fr cs none v w
    | .halt _ w=>.ended (.stuck "range over a function: no such loop" (fr.pos ⟨T,F⟩)) w)):=by
 refine yr (Yz l j) hF (k:=λr=>match r with
    | .ok v w=>doReturn ⟨T,F⟩ true fr cs none v w
    | .halt _ w=>.ended (.stuck "range over a function: no such loop" (fr.pos ⟨T,F⟩)) w) (λr f d b=>?_) λr y d=>?_
 .cases r with
  |ok a c=>exact B4 ok.kind e b
  |halt h c=>exact iH
 .cases r with
  |ok a c=>exact absurd trivial d
  |halt h c=>exact iH
def Uw{q}(hF:bj Z K w u){t u1}(h:(choose q).run ⟨T,F⟩ u=.ok t u1):∃c,(choose q).run ⟨T,F⟩ w=.ok t c/\bj Z K c u1:=by
 have a:((choose q).runT ⟨T,F⟩ u #[]).1=.ok t u1:=by rw[Sem.runT_fst];exact h
 rcases d:(choose q).runT ⟨T,F⟩ u #[]with⟨r,b⟩;rw[d]at a;dsimp at a;subst a;let ⟨w',a,h2,h3⟩:=a9B (choose q) w u #[] (IE q) hF _ b d trivial;refine⟨w',?_,h2⟩;rw[<-Sem.runT_fst (es:=#[]),a];rfl
theorem U8(J:Twin T F F E)(cL:iv T F)(ok:bJ T.globals.size fr)(A:cA T.globals.size u)(V:cs≠[])(hF:bj Z K w u):GT Z K (stepG.exec ⟨T,F⟩ true true fr cs none u) (stepG.exec ⟨T,F⟩ true true fr cs none w):=by
 have ne:=J.early;have hf:=yH J cL;have p:Fit T id:=⟨λa b h=>h,λ_ _=>rfl,J.zero⟩;have W:∀(g:ah) x,kh T.globals.size x=true->g.eval x=al id (g.eval x):=λg x _=>(kq _).symm;unfold stepG.exec;rcases L:fr.todo with _|⟨i,k⟩
 .simp only;cases M:fr.roundOf with
  |none=>exact fp hF
  |some l=>exact B3 ok V hF l none
 .have n:cZ T.globals.size i=true:=ok.items i (by rw[L];exact jg);have X:fr.roundOf≠none->gO i=true:=λB=>ok.round B i (by rw[L];exact jg);simp only;cases i with
  |inBlock id=>exact fp hF
  |inScope c=>exact fp hF
  |inLoop c=>exact fp hF
  |inRangeFunc l=>exact iH
  |call d a b c=>simp[cZ]at n
  |extern r a=>simp[cZ]at n
  |beginRound=>
   refine B2 (s':=(do fr.roundOf.elim (stuck "beginRound: no round") Instr.beginRound;pure .skip)) ok A ?_ ?_ hF
   .cases fr.roundOf with
    |none=>exact NF.bind (NF.stuck _) λ_=>NF.pure _
    |some l=>exact NF.bind (Ym l) λ_=>NF.pure _
   .cases fr.roundOf with
    |none=>exact aC _ _
    |some l=>apply aB.bind (A8 p l);rintro _ _ _;exact ax rfl
  |endRangeFunc l=>
   refine yr (Yy l) hF (k:=λr=>match r with
    | .ok N w=>.go {frame:={fr with todo:=(N.map Item.code).toList++k},callers:=cs,status:=.running,dying:=none} w
    | .halt (.panic v) w=>.go {frame:=fr.raise [{v,recovered:=false}],callers:=cs,status:=.running,dying:=none} w
    | .halt _ w=>.ended (.stuck "range over a function: no such loop" (fr.pos ⟨T,F⟩)) w) (λr w' U O=>?_) λr y U=>?_
   .cases r with
    |ok a I=>exact fp O
    |halt h I=>cases h<;>first|exact U.elim|exact fp O
   .cases r with
    |ok a I=>exact absurd trivial U
    |halt h I=>cases h<;>first|exact absurd trivial U|exact iH
  |inRegion ops todo=>
   cases todo with
   |nil=>exact fp hF
   |cons j ae=>
    dsimp;split
    .unfold stepG.oper;have e3:fr.oper?=ops[j]? :=by simp[Frame.oper?,L]
     rw[e3];cases ho:ops[j]? with
     |none=>exact iH
     |some o=>
      have s:o∈ops:=ou ho;have C:ie T.globals.size o.op=true:=by simp only[cZ]at n;rw[oq]at n;obtain⟨q,Y,rfl⟩:=fT.1 s;exact n q Y
      have P:sP ⟨T,F⟩ o.op=true:=Yi cL C;have ab:GT Z K (stepG.apply ⟨T,F⟩ true fr cs none (execOp fr.eval o) u) (stepG.apply ⟨T,F⟩ true fr cs none (execOp fr.eval o) w):=B2 (s':=execOp fr.eval o) ok A (YG hf _ (λ_=>rfl) o P) (xH p J (λx z=>W fr x z) o C) hF;dsimp;split
      .rename_i l c M ad;exfalso;have:=X (by rw[M];simp);simp only[gO]at this;simp at this;obtain⟨q,Y,rfl⟩:=fT.1 s;have h5:=this q Y;rw[ad]at h5;simp at h5
      .exact ab
    .exact fp hF
  |code c=>
   simp[cZ]at n;cases c with
   |skip=>exact fp hF
   |label l=>exact fp hF
   |refuse y=>exact iH
   |goto l=>simp[cF]at n
   |seq a b=>exact fp hF
   |block id a=>exact fp hF
   |loop a=>exact fp hF
   |scope a=>exact fp hF
   |ret=>
    dsimp only;cases fr.roundOf with
    |none=>dsimp only;split<;>first|exact fp hF|exact iH
    |some l=>exact B3 ok V hF l _
   |exit id=>
    dsimp only;cases exitTo id k with
    |some k'=>exact fp hF
    |none=>
     dsimp only[Option.elim_none];cases fr.roundOf with
     |none=>dsimp only;split<;>first|exact fp hF|exact iH
     |some l=>exact B3 ok V hF l _
   |cond x a b=>
    dsimp;split
    .exact fp hF
    .exact iH
   |region id ops Q=>
    cases Q with
    |false=>exact fp hF
    |true=>
     simp only[b0M,d8,if_false];cases B:(choose (.order fr.fn id)).run ⟨T,F⟩ u with
     |ok t u1=>let ⟨I,h1,h2⟩:=Uw hF B;rw[h1];exact fp h2
     |halt h u1=>exact iH
   |rangeFunc g ps a b=>
    simp[cF]at n;have R:=xF (T:=T) (F:=F) (F':=F) (f:=id) fr.fn fr.tmps ps a b ⟨n.1.1.1.2,n.1.2⟩ ⟨n.1.1.2,n.2⟩ fr.roundOf;have D:=lD _ _ u #[] R A;dsimp;rcases B:(Instr.enterLoop fr.fn fr.tmps ps a b fr.roundOf).runT ⟨T,F⟩ u #[]with⟨r,S⟩;rw[B]at D;cases r with
    |halt h I=>dsimp;intro a b c d z;cases z
    |ok q u1=>
     let ⟨I,h1,h2,h3⟩:=a9B _ w u #[] (YB fr.fn fr.tmps ps a b fr.roundOf) hF _ S B trivial;rw[h1];let ⟨_,hb⟩:=tk _ _ u #[] R A q u1 S B;obtain⟨l,mk⟩:=q;dsimp[jE];refine yq ?_ λe he=>(h3 e (eM he)).resolve_left a9i;rw[vW];refine B2 (s':=do let d<-Deferred.ofValue (al id (({fr with todo:=.inRangeFunc l::k,defers:=mk++fr.defers}:ah).eval g)) ((#[Value.func (.yield l) #[] #[]]:Array aj).map (al id));invoke d.target d.args) ?_ D.1 ?_ ?_ h2
     .refine⟨λx z=>?_,λd H=>?_,ok.kind,λB x z=>?_,ok.last,ok.calm⟩
      .rcases dj.1 z with rfl|z
       .rfl
       .exact ok.items x (by rw[L];exact kL _ z)
      .rcases oy.1 H with H|H
       .exact hb.2 d H
       .exact ok.defers d H
      .rcases dj.1 z with rfl|z
       .rfl
       .exact ok.round B x (by rw[L];exact kL _ z)
     .unfold Deferred.ofValue;cases ({fr with todo:=.inRangeFunc l::k,defers:=mk++fr.defers}:ah).eval g with
      |func fn a b=>exact yJ hf fn b _
      |nilFunc=>exact vH (α:=Next) .nilDeref
      |_=>exact IV (α:=Deferred) _ _
     .apply aB.bind (uD _ _);rintro d _ ⟨rfl,H⟩;exact oP p J d.target H d.args
def Y9(fn t):NF ⟨T,F⟩ (results fn t):=by
 grind[results,NF.bind,IN,NF.pure,sQ,YV]
def YR(e:Twin T F F E)(cL:iv T F)(t)(d:fI t=true)(a):NF ⟨T,F⟩ (invoke t a):=by
 cases t with
 |nil=>exact vH (α:=Next) .nilDeref
 |builtin b g t c=>exact IC (by cases b<;>first|exact d|rfl) _ _ _ _
 |fn f c=>grind[yJ,yH]
 |collected r=>exact NF.stuck _
 |coroexit c=>cases d
def U9{c}[Decidable c]{x y x' a}(b:GT Z K x x')(d:GT Z K y a):GT Z K (if c then x else y) (if c then x' else a):=by
 grind
def U7(n:Twin T F F E)(cL:iv T F)(ok:bJ T.globals.size fr)(f:cA T.globals.size u)(hF:bj Z K w u){d}(q:fI d.target=true):GT Z K (callDeferred ⟨T,F⟩ fr cs none d u) (callDeferred ⟨T,F⟩ fr cs none d w):=by
 have g:Fit T id:=⟨λa b h=>h,λ_ _=>rfl,n.zero⟩;have i:=oP (F:=F) (F':=F) g n d.target q d.args;have s:=(lD _ _ u #[] i f).2;unfold callDeferred;apply U9 iH
 .rcases o:(invoke d.target d.args).runT ⟨T,F⟩ u #[]with⟨r,j⟩;rw[o]at s;by_cases l:Yields r
  .obtain⟨B,y,t,v⟩:=a9B _ w u #[] (YR n cL d.target q d.args) hF r j o l;rw[y];cases r with
   |ok a u1=>obtain⟨b,z⟩:=tk _ _ u #[] i f a u1 j o;dsimp[jE];refine yq ?_ λe p=>(v e (eM p)).resolve_left a9i;cases a<;>first|exact fp t|exact z.elim
   |halt h u1=>
    cases h<;>first|exact l.elim|skip
    dsimp[jE];refine yq ?_ λe p=>(v e (eM p)).resolve_left a9i;exact fp t
  .intro a b c d A;exfalso;cases r with
   |ok a u1=>exact l trivial
   |halt h u1=>cases h<;>first|exact l trivial|(cases A;done)|(obtain⟨x,k⟩|k:=s<;>cases k)
def Ho(B:Twin T F F E)(cL:iv T F)(ok:bJ T.globals.size fr)(p:cA T.globals.size u)(t:cs≠[])(hF:bj Z K w u):GT Z K (stepG ⟨T,F⟩ true (am fr cs) u) (stepG ⟨T,F⟩ true (am fr cs) w):=by
 by_cases o:fr.mode=.run
 .rw[ij o,ij o]
  grind[U8]
 .rw[kw o,kw o];unfold unwind;rcases g:fr.defers with _|⟨d,z⟩
  .dsimp;cases C:fr.mode with
   |run=>exact iH
   |panicking M=>
    dsimp;split
    .exact iH
    .rcases cs with _|⟨c,A⟩
     .simp_all
     .exact fp hF
   |returning=>
    dsimp;split
    .exact B4 ok.kind t hF
    .rename_i D H;refine yr (Y9 D fr.tmps) hF (k:=λr=>match r with
      | .ok v w=>doReturn ⟨T,F⟩ true fr cs none v w
      | .halt (.stuck s) w=>.ended (.stuck s (fr.pos ⟨T,F⟩)) w
      | .halt _ w=>.ended (.stuck "return: the result variables cannot be read" (fr.pos ⟨T,F⟩)) w) (λr I i b=>?_) λr y i=>?_
     .cases r with
      |ok a e=>exact B4 ok.kind t b
      |halt h e=>cases h<;>exact iH
     .cases r with
      |ok a e=>exact absurd trivial i
      |halt h e=>cases h<;>exact iH
  .have j:=ok.defers d (by rw[g];grind);have q:bJ T.globals.size {fr with defers:=z}:=⟨ok.items,λx N=>ok.defers x (by rw[g];simp_all),ok.kind,ok.round,ok.last,ok.calm⟩;obtain⟨J,L⟩:=d;have n:=U7 (cs:=cs) B cL q p hF j;cases J<;>first|exact n|skip
   dsimp;rename_i l;refine yr (Zj l) hF (k:=λr=>match r with
    | .ok f w=>.go {frame:={fr with defers:=f++z},callers:=cs,status:=.running,dying:=none} w
    | .halt _ w=>.ended (.stuck "the deferred calls of a range-over-func loop have been taken" (fr.pos ⟨T,F⟩)) w) (λr I i b=>?_) λr y i=>?_
   .cases r with
    |ok a e=>exact fp b
    |halt h e=>exact iH
   .cases r with
    |ok a e=>exact absurd trivial i
    |halt h e=>exact iH
end
end Go.Mir
end
