import Derived.Control
import Derived.Test.YtdnpeefnobjfaaaGreatDoorK07
set_option maxRecDepth 100000
set_option maxHeartbeats 4000000
set_option linter.all false
section
namespace Go.Mir
variable{lk:Prop}{lz:Nat->Obj->Prop}{T:Tables}{F F':Array Func}{E:bc->Prop}{cs:List ah}{trap:ah}{below:List ah}{main:Bool}{D:Nat->Prop}{aj f:Nat->Nat}{w v:aa}{fr:ah}{gs:List ah}{rf:ah}{rcs:List ah}
def ip{P fr cs w}(a:fr.mode=.run):stepG P main (an fr cs) w=stepG.exec P main true fr cs none w:=by simp[an,stepG,a]
def j4{P fr cs w}(a:fr.mode≠.run):stepG P main (an fr cs) w=unwind P main fr cs none w:=by cases h:fr.mode<;>simp_all [an,stepG]
def iz.after{e a g i u u'}(k:a5J D e aj a w g v i u u'){g' w' es j}(h:iz lk lz T F F' E cs trap below e a g i g' w' es j):iz lk lz T F F' E cs trap below D aj w v g' w' (u++es) (j.after u'):=by obtain⟨l,b,m,c,rg,rfl,d,n⟩:=h;exact⟨l,b,m,u'++c,rg,rfl,k.trans d,n⟩
def Di{P b fr cs x w w' g' es}(h:doReturn P b fr cs none x w=.go g' w' es):w'=w:=by
 unfold doReturn at h
 repeat' split at h
 all_goals(simp only[GStep.go.injEq,reduceCtorEq]at h)
 all_goals(first|exact h.2.1.symm|(repeat' split at h)<;>simp only[GStep.go.injEq,reduceCtorEq]at h<;>exact h.2.1.symm)
def Ue(p:∀L,trap.mode=.panicking L->∀e∈L,e.recovered=false)(P:Twin T F F' E)(R:fg lk lz T cs D aj w v fr gs rf rcs)(j:Option Code)(Q:j=none\/j=some .ret\/∃id,j=some (.exit id)){l:Nat}(S:fr.roundOf=some l)
  {g':aw} {w':aa} {es:Array aJ}
  (g:(GStep.after (seen ⟨T,F⟩ fr.fn ((Instr.endRound l j).runT ⟨T,F⟩ w #[]).2)<|match ((Instr.endRound l j).runT ⟨T,F⟩ w #[]).1 with
   | .ok v w=>doReturn ⟨T,F⟩ true fr (gs++trap::below) none v w
   | .halt _ w=>.ended (.stuck "range over a function: no such loop" (fr.pos ⟨T,F⟩)) w)=.go g' w' es) (U:gy w v w'.drawn):
  ∀m,rf.roundOf=some m->(iz lk lz T F F' E cs trap below D aj w v g' w' es (GStep.after (seen ⟨T,F'⟩ rf.fn ((Instr.endRound m j).runT ⟨T,F'⟩ v #[]).2)<|match ((Instr.endRound m j).runT ⟨T,F'⟩ v #[]).1 with
   | .ok x v=>doReturn ⟨T,F'⟩ main rf rcs none x v
   | .halt _ v=>.ended (.stuck "range over a function: no such loop" (rf.pos ⟨T,F'⟩)) v))\/(gs=[]/\∃t,g'=an t below/\mo trap t):=by
 intro m k;have h0:=R.aZ _ (aN R.heap 0);have q:rf.fn=fr.fn:=by rw[h0.1];rfl
 have V:∀f,aQ D aj f->aE ⟨T,F⟩ ⟨T,F'⟩ f (aC (ak f)) (Instr.endRound l j) (Instr.endRound m j):=by
  intro f s;have W:=(R.aZ f s).1;have:m=f l:=by rw[W]at k;simp only[aR,S,Option.map_some,cw]at k;exact k.symm
  rw[this];refine Pw l j λc u=>?_;obtain rfl|rfl|⟨id,rfl⟩:=Q
  .cases u
  .cases u;exact⟨rfl,rfl⟩
  .cases u;exact⟨rfl,rfl⟩
 rcases i:(Instr.endRound l j).runT ⟨T,F⟩ w #[]with⟨r,X⟩;rw[i]at g;have y:gy w v (fH r).drawn:=by
  obtain⟨z,M⟩:=oc g;cases r with
  |ok a n=>rw[<-Di M];exact U
  |halt h n=>cases M
 obtain⟨a,n,rfl,N,d,b,O,Y,A,Z,ha,hR,B⟩|⟨x,n,rfl,_⟩|⟨h,n,rfl,C⟩:=mS R.heap R.os R.all V i (λ_=>y)
 .have R1:fg lk lz T cs N d n O fr gs rf rcs:=R.next B Z ha R.ok R.cF λf s=>R.aZ f (s.less B.more)
  rw[A,q];dsimp only at g⊢;cases H:doReturn ⟨T,F⟩ true fr (gs++trap::below) none a n with
  |go g1 w2 z=>
   rw[H]at g;simp only[GStep.after,GStep.go.injEq]at g;obtain⟨rfl,rfl,rfl⟩:=g;obtain⟨I,J,K,o,rfl,rfl,rfl,hq,R2⟩|hp:=Bf (main:=main) (F':=F') p R1 hR H
   .refine .inl ?_;rw[hq];exact iz.after (B.seen P fr.fn) ⟨N,d,O,#[],_,rfl,a5J.refl,.inl ⟨I,J,K,o,rfl,rfl,R2⟩⟩
   .exact .inr hp
  |_=>rw[H]at g;simp[GStep.after]at g
 .simp[GStep.after]at g
 .simp[GStep.after]at g
def tl(fr:ah)(g l):resolve fr.eval {callee:=.value g,args:=#[.const (.func (.yield l) #[] #[])],argTypes:=#[]} 0=Deferred.ofValue (fr.eval g) #[.func (.yield l) #[] #[]]:=by simp[resolve,Frame.eval]
def QG(bP:∀ch,trap.mode=.panicking ch->∀e∈ch,e.recovered=false)(Z:Twin T F F' E)(R:fg lk lz T cs D aj w v fr gs rf rcs)(hm:fr.mode=.run){g' w' es}(m:stepG.exec ⟨T,F⟩ true true fr (gs++trap::below) none w=.go g' w' es)(L:gy w v w'.drawn):iz lk lz T F F' E cs trap below D aj w v g' w' es (stepG ⟨T,F'⟩ main (an rf rcs) v)\/(gs=[]/\∃t,g'=an t below/\mo trap t):=by
 have h0:=R.aZ _ (aN R.heap 0);have ad:rf.fn=fr.fn:=by rw[h0.1];rfl
 have Y:rf.mode=.run:=by rw[h0.1];simp[aR,hm,eB]
 have Q:∀f,aQ D aj f->Fit T f:=λf s=>nA Z R.low s;have C:∀aq:ah,cJ T.globals.size aq->(∀f,stepG.exec ⟨T,F'⟩ main true (aR f fr) (gs.map (aR f)++cs) none v=.go (an (aR f aq) (gs.map (aR f)++cs)) v #[])->g'=an aq (gs++trap::below)->w'=w->es=#[]->
   iz lk lz T F F' E cs trap below D aj w v g' w' es (stepG ⟨T,F'⟩ main (an rf rcs) v):=by
  intro aq bR hq hg hw he;subst hg hw he;refine a3l R bR λf=>?_;rw[ip (by simp[aR,hm,eB])];exact hq f
 have lv:∀j:Option Code,(j=none\/j=some .ret\/∃id,j=some (.exit id))->
   (match fr.roundOf with
    |none=>if (j matches none|some .ret)then GStep.go (an {fr with mode:=.returning} (gs++trap::below)) w #[]else .ended (.stuck "exit, goto: no such block or label" (fr.pos ⟨T,F⟩)) w
    |some l=>(GStep.after (seen ⟨T,F⟩ fr.fn ((Instr.endRound l j).runT ⟨T,F⟩ w #[]).2)<|match ((Instr.endRound l j).runT ⟨T,F⟩ w #[]).1 with
     | .ok v w=>doReturn ⟨T,F⟩ true fr (gs++trap::below) none v w
     | .halt _ w=>.ended (.stuck "range over a function: no such loop" (fr.pos ⟨T,F⟩)) w))=.go g' w' es->
   stepG.exec ⟨T,F'⟩ main true rf rcs none v=(match rf.roundOf with
    |none=>if (j matches none|some .ret)then GStep.go (an {rf with mode:=.returning} rcs) v #[]else .ended (.stuck "exit, goto: no such block or label" (rf.pos ⟨T,F'⟩)) v
    |some l=>(GStep.after (seen ⟨T,F'⟩ rf.fn ((Instr.endRound l j).runT ⟨T,F'⟩ v #[]).2)<|match ((Instr.endRound l j).runT ⟨T,F'⟩ v #[]).1 with
     | .ok x v=>doReturn ⟨T,F'⟩ main rf rcs none x v
     | .halt _ v=>.ended (.stuck "range over a function: no such loop" (rf.pos ⟨T,F'⟩)) v))->
   iz lk lz T F F' E cs trap below D aj w v g' w' es (stepG ⟨T,F'⟩ main (an rf rcs) v)\/(gs=[]/\∃t,g'=an t below/\mo trap t):=by
  intro j hj N bd;rw[ip Y,bd];cases J:fr.roundOf with
  |none=>
   have S:rf.roundOf=none:=by rw[h0.1];simp[aR,J]
   rw[J]at N;rw[S];dsimp only at N⊢;cases br:(match j with|none=>true|some .ret=>true|_=>false)with
   |false=>rw[br]at N;simp at N
   |true=>rw[br]at N;simp only[if_true,GStep.go.injEq]at N⊢;obtain⟨rfl,rfl,rfl⟩:=N;refine .inl ⟨D,aj,v,#[],_,rfl,a5J.refl,.inl ⟨{fr with mode:=.returning},gs,{rf with mode:=.returning},rcs,by rw[J],by rw[S],R.next a5J.refl R.heap R.all ⟨R.ok.items,R.ok.defers,R.ok.kind,R.ok.round,λh=>(h J).elim,λc h=>by simp at h⟩ R.cF λf s=>?_⟩⟩;have B:=R.aZ f s;exact⟨by rw[B.1];rfl,B.2⟩
  |some l=>
   have S:rf.roundOf=some ((λb=> @ite _ (D b) (Classical.propDecidable _) (aj b) (v.heap.size+0+b)) l):=by rw[h0.1];simp[aR,J]
   rw[J]at N;have:=Ue (main:=main) bP Z R j hj J N L _ S;rw[S];exact this
 rcases n:fr.todo with _|⟨i,k⟩
 .refine lv none (.inl rfl) ?_ ?_
  .rw[<-m];unfold stepG.exec;simp only[n];rfl
  .have u:rf.todo=[]:=by rw[h0.1];simp[aR,n]
   unfold stepG.exec;simp only[u];rfl
 .have A:dt T.globals.size i=true:=R.ok.items i (by rw[n];exact ga);have I:fr.roundOf≠none->gL i=true:=λO=>R.ok.round O i (by rw[n];exact ga);have u:∀f,aQ D aj f->rf.todo=cB f i::k.map (cB f):=λf s=>by rw[(R.aZ f s).1];simp[aR,n]
  have U:∀x∈k,x∈k\/(dt T.globals.size x=true/\(fr.roundOf≠none->gL x=true)):=λx hx=>.inl hx;have one:∀(x:Item),dt T.globals.size x=true->(fr.roundOf≠none->gL x=true)->∀y∈x::k,y∈k\/(dt T.globals.size y=true/\(fr.roundOf≠none->gL y=true)):=by
   intro x B H y V;obtain rfl|V:=cm.1 V
   .exact .inr ⟨B,H⟩
   .exact .inl V
  have ae:∀(x z:Item),dt T.globals.size x=true->(fr.roundOf≠none->gL x=true)->dt T.globals.size z=true->(fr.roundOf≠none->gL z=true)->∀y∈x::z::k,y∈k\/(dt T.globals.size y=true/\(fr.roundOf≠none->gL y=true)):=by
   intro x z B H h3 h4 y V;obtain rfl|V:=cm.1 V
   .exact .inr ⟨B,H⟩
   .exact one z h3 h4 y V
  cases i with
  |inBlock id=>unfold stepG.exec at m;simp only[n,GStep.go.injEq]at m;exact .inl (C {fr with todo:=k} (R.ok.drop n U) (λf=>by unfold stepG.exec;simp[aR,n,cB,an]) m.1.symm m.2.1.symm m.2.2.symm)
  |inScope c=>unfold stepG.exec at m;simp only[n,GStep.go.injEq]at m;exact .inl (C {fr with todo:=k} (R.ok.drop n U) (λf=>by unfold stepG.exec;simp[aR,n,cB,an]) m.1.symm m.2.1.symm m.2.2.symm)
  |inLoop c=>unfold stepG.exec at m;simp only[n,GStep.go.injEq]at m;exact .inl (C {fr with todo:=.code c:: .inLoop c::k} (R.ok.drop n (ae _ _ A I A I)) (λf=>by unfold stepG.exec;simp[aR,n,cB,an]) m.1.symm m.2.1.symm m.2.2.symm)
  |inRangeFunc l=>unfold stepG.exec at m;simp only[n]at m;cases m
  |call d a b c=>simp[dt]at A
  |extern r a=>simp[dt]at A
  |beginRound=>
   rw[ip Y];unfold stepG.exec at m⊢;rw[u _ (aN R.heap 0)];simp only[n,cB]at m⊢;refine .inl (yd Z R (λf s=>?_) m L);have B:=(R.aZ f s).1;have J:rf.roundOf=fr.roundOf.map f:=by rw[B];rfl
   rw[J];cases fr.roundOf with
   |none=>exact aD _ _
   |some l=>refine aE.bind (yL (Q f s) l) ?_;rintro _ _ _;exact ax rfl
  |endRangeFunc l=>
   rw[ip Y];have hE:∀f,aQ D aj f->aE ⟨T,F⟩ ⟨T,F'⟩ f (λa b=>b=a/\∀c,a=some c->cV T.globals.size c=true/\ep c=true) (Instr.endLoop l) (Instr.endLoop ((λb=> @ite _ (D b) (Classical.propDecidable _) (aj b) (v.heap.size+0+b)) l)):=by intro f s;have B:=u f s;rw[u _ (aN R.heap 0)]at B;simp only[cB,f9,Item.endRangeFunc.injEq]at B;dsimp only;rw[B.1];exact Dy (Q f s) l
   unfold stepG.exec at m⊢;rw[u _ (aN R.heap 0)];simp only[n,cB]at m⊢;rcases M:(Instr.endLoop l).runT ⟨T,F⟩ w #[]with⟨r,bS⟩;rw[M]at m;have bl:gy w v (fH r).drawn:=by
    obtain⟨bs,H⟩:=oc m;cases r with
    |ok a w1=>simp only[GStep.go.injEq]at H;rw[<-H.2.1]at L;exact L
    |halt h w1=>cases h<;>simp only[GStep.go.injEq,reduceCtorEq]at H;rw[<-H.2.1]at L;exact L
   obtain⟨a,w1,rfl,D',K,b,v1,bw,ag,hh,ha,hR,W⟩|⟨x,w1,rfl,D',K,x',v1,bw,ag,hh,ha,hR,W⟩|⟨h,w1,rfl,al⟩:=mS R.heap R.os R.all hE M (λ_=>bl)
   .rw[ag,ad];simp only[GStep.after,GStep.go.injEq,ir]at m⊢;obtain⟨rfl,rfl,rfl⟩:=m;have bT:=hR _ (aN hh 0);obtain⟨rfl,aP⟩:=bT;refine .inl ⟨D',K,v1,_,_,rfl,by simpa using W.seen Z fr.fn,.inl ⟨{fr with todo:=(b.map Item.code).toList++k},gs,_,_,rfl,rfl,R.next W hh ha (R.ok.drop n ?_) R.cF λf s=>?_⟩⟩
    .intro y V;obtain V|V:=kf.1 V
     .cases b with
      |none=>simp at V
      |some c=>simp only[Option.map_some,Option.toList_some,ft]at V;subst V;exact .inr ⟨(aP c rfl).1,λ_=>(aP c rfl).2⟩
     .exact .inl V
    .have B:=R.aZ f (s.less W.more);refine⟨?_,B.2⟩;have H:=u f (s.less W.more);have h3:=u _ (aN R.heap 0);rw[H]at h3;simp only[f9]at h3;rw[<-h3.2,B.1];cases b<;>simp[aR,cB]
   .rw[ag,ad];simp only[GStep.after,GStep.go.injEq,ir]at m⊢;obtain⟨rfl,rfl,rfl⟩:=m;refine .inl ⟨D',K,v1,_,_,rfl,by simpa using W.seen Z fr.fn,.inl ⟨fr.raise [{v:=x,recovered:=false}],gs,_,_,rfl,rfl,R.next W hh ha (R.ok.raise (by simp)) R.cF λf s=>?_⟩⟩;have B:=R.aZ f (s.less W.more);rw[hR f s,<-wQ];exact⟨by rw[B.1];rfl,B.2⟩
   .exfalso;cases h<;>simp[eO]at al<;>simp[GStep.after]at m
  |inRegion ops todo=>
   cases todo with
   |nil=>unfold stepG.exec at m;simp only[n,GStep.go.injEq]at m;exact .inl (C {fr with todo:=k} (R.ok.drop n U) (λf=>by unfold stepG.exec;simp[aR,n,cB,an]) m.1.symm m.2.1.symm m.2.2.symm)
   |cons j ba=>
    unfold stepG.exec at m;simp only[n]at m;have bx:∀f,((ops[j]?).map (Region.wanted · (yielded ops (aR f fr).tmps))).getD false=((ops[j]?).map (Region.wanted · (yielded ops fr.tmps))).getD false:=by
     intro f;have:yielded ops (aR f fr).tmps=yielded ops fr.tmps:=by funext q;exact JH ops fr.tmps q
     rw[this]
    cases ar:((ops[j]?).map (Region.wanted · (yielded ops fr.tmps))).getD false with
    |false=>
     simp only[ar,dj,if_false,GStep.go.injEq]at m;refine .inl (C (fr.finish undef) (R.ok.finish undef) (λf=>?_) m.1.symm m.2.1.symm m.2.2.symm);have hu:ak f undef=undef:=by simp[undef]
     unfold stepG.exec;have e1:(aR f fr).todo=.inRegion ops (j::ba)::k.map (cB f):=by simp[aR,n,cB]
     simp only[e1,bx,ar,dj,if_false];rw[<-oE,hu];rfl
    |true=>
     simp only[ar,if_true]at m;rw[ip Y];unfold stepG.exec;have e1:rf.todo=.inRegion ops (j::ba)::k.map (cB (λb=> @ite _ (D b) (Classical.propDecidable _) (aj b) (v.heap.size+0+b))):=u _ (aN R.heap 0);have e2:((ops[j]?).map (Region.wanted · (yielded ops rf.tmps))).getD false=true:=by rw[h0.1,bx,ar]
     simp only[e1,e2,if_true];unfold stepG.oper at m⊢;have e3:fr.oper?=ops[j]? :=by simp[Frame.oper?,n]
     have e4:rf.oper?=ops[j]? :=by simp[Frame.oper?,e1]
     rw[e3]at m;rw[e4];cases ho:ops[j]? with
     |none=>rw[ho]at m;cases m
     |some o=>
      rw[ho]at m;have ao:o∈ops:=a6i ho;have bA:ij T.globals.size o.op=true:=by simp only[dt]at A;rw[gO]at A;obtain⟨q,hq,rfl⟩:=fI.1 ao;exact A q hq
      have ab:∀{X:Type} (ro:Option Nat) (a:Nat->Call->X) (b:X),(ro=none\/fr.roundOf≠none)->(match ro,o.op with|some l,.defer c=>a l c|_,_=>b)=b:=by
       intro X ro a b J;cases ro with
       |none=>rfl
       |some l=>
        cases bU:o.op<;>try rfl
        exfalso;have O:fr.roundOf≠none:=by obtain h|h:=J;cases h;exact h
        have:=I O;simp only[gL]at this;rw[gO]at this;obtain⟨q,hq,rfl⟩:=fI.1 ao;have h5:=this q hq;rw[bU]at h5;simp at h5
      have bX:stepG.apply ⟨T,F⟩ true fr (gs++trap::below) none (execOp fr.eval o) w=.go g' w' es:=by rw[<-m];exact(ab fr.roundOf (λl c=>stepG.apply ⟨T,F⟩ true fr (gs++trap::below) none (do Instr.deferInRound l (<-resolve fr.eval c o.type);pure .skip) w) _ (by cases h:fr.roundOf<;>simp)).symm
      have bd:∀(X:GStep),X=stepG.apply ⟨T,F'⟩ true rf rcs none (execOp rf.eval o) v->iz lk lz T F F' E cs trap below D aj w v g' w' es X:=by intro X hX;rw[hX];refine yd Z R (λf s=>?_) bX L;have B:=(R.aZ f s).1;refine uL (Q f s) Z (λx hx=>?_) o bA;rw[B];exact vf f (Q f s).low fr x hx
      refine .inl (bd _ ?_);have bB:rf.roundOf=none\/fr.roundOf≠none:=by rw[h0.1];cases h:fr.roundOf<;>simp[aR,h]
      exact ab rf.roundOf (λl c=>stepG.apply ⟨T,F'⟩ true rf rcs none (do Instr.deferInRound l (<-resolve rf.eval c o.type);pure .skip) v) _ bB
  |code c=>
   simp only[dt]at A;cases c with
   |skip=>unfold stepG.exec at m;simp only[n,GStep.go.injEq]at m;exact .inl (C {fr with todo:=k} (R.ok.drop n U) (λf=>by unfold stepG.exec;simp[aR,n,cB,an]) m.1.symm m.2.1.symm m.2.2.symm)
   |label l=>unfold stepG.exec at m;simp only[n,GStep.go.injEq]at m;exact .inl (C {fr with todo:=k} (R.ok.drop n U) (λf=>by unfold stepG.exec;simp[aR,n,cB,an]) m.1.symm m.2.1.symm m.2.2.symm)
   |refuse y=>unfold stepG.exec at m;simp only[n]at m;cases m
   |goto l=>simp[cV]at A
   |seq a b=>
    simp only[cV,dW]at A;have au:fr.roundOf≠none->ep a=true/\ep b=true:=λO=>by have:=I O;simpa[gL,ep]using this
    unfold stepG.exec at m;simp only[n,GStep.go.injEq]at m;exact .inl (C {fr with todo:=.code a:: .code b::k} (R.ok.drop n (ae _ _ A.1 (λO=>(au O).1) A.2 (λO=>(au O).2))) (λf=>by unfold stepG.exec;simp[aR,n,cB,an]) m.1.symm m.2.1.symm m.2.2.symm)
   |block id a=>unfold stepG.exec at m;simp only[n,GStep.go.injEq]at m;exact .inl (C {fr with todo:=.code a:: .inBlock id::k} (R.ok.drop n (ae _ _ A I rfl (λ_=>rfl))) (λf=>by unfold stepG.exec;simp[aR,n,cB,an]) m.1.symm m.2.1.symm m.2.2.symm)
   |loop a=>unfold stepG.exec at m;simp only[n,GStep.go.injEq]at m;exact .inl (C {fr with todo:=.code a:: .inLoop a::k} (R.ok.drop n (ae _ _ A I A I)) (λf=>by unfold stepG.exec;simp[aR,n,cB,an]) m.1.symm m.2.1.symm m.2.2.symm)
   |scope a=>unfold stepG.exec at m;simp only[n,GStep.go.injEq]at m;exact .inl (C {fr with todo:=.code a:: .inScope a::k} (R.ok.drop n (ae _ _ A I A I)) (λf=>by unfold stepG.exec;simp[aR,n,cB,an]) m.1.symm m.2.1.symm m.2.2.symm)
   |ret=>
    refine lv (some .ret) (.inr (.inl rfl)) ?_ ?_
    .rw[<-m];unfold stepG.exec;simp only[n];rfl
    .have p:=u _ (aN R.heap 0);simp only[cB]at p;unfold stepG.exec;simp only[p];rfl
   |exit id=>
    cases hex:exitTo id k with
    |some k'=>unfold stepG.exec at m;simp only[n,hex,Option.elim_some,GStep.go.injEq]at m;exact .inl (C {fr with todo:=k'} (R.ok.drop n λx hx=>.inl (zo id k k' hex x hx)) (λf=>by unfold stepG.exec;simp[aR,n,cB,an,zp,hex]) m.1.symm m.2.1.symm m.2.2.symm)
    |none=>
     refine lv (some (.exit id)) (.inr (.inr ⟨id,rfl⟩)) ?_ ?_
     .rw[<-m];unfold stepG.exec;simp only[n,hex,Option.elim_none];rfl
     .have p:=u _ (aN R.heap 0);simp only[cB]at p;unfold stepG.exec;simp only[p,zp,hex,kl,Option.elim_none];rfl
   |cond x a b=>
    simp only[cV,dW]at A;have au:fr.roundOf≠none->ep a=true/\ep b=true:=λO=>by have:=I O;simpa[gL,ep]using this
    unfold stepG.exec at m;simp only[n]at m;cases he:fr.eval x with
    |bool t=>
     rw[he]at m;simp only[GStep.go.injEq]at m;rw[ip Y];have p:=u _ (aN R.heap 0);simp only[cB]at p;have av:rf.eval x=.bool t:=by rw[h0.1,vf _ (Q _ (aN R.heap 0)).low fr x A.1.1,he];simp
     unfold stepG.exec;simp only[p,av];obtain⟨rfl,rfl,rfl⟩:=m;refine .inl ⟨D,aj,v,#[],_,rfl,a5J.refl,.inl ⟨{fr with todo:=.code (if t then a else b)::k},gs,_,_,rfl,rfl,R.next a5J.refl R.heap R.all (R.ok.drop n (one _ (by cases t<;>simp[dt,A.1.2,A.2]) (λO=>by cases t<;>simp[gL,au O]))) R.cF λf s=>?_⟩⟩;have B:=R.aZ f s;refine⟨?_,B.2⟩;have H:=u f s;rw[p,]at H;simp only[cB,f9,true_and]at H;rw[H,B.1];simp[aR,cB]
    |_=>rw[he]at m;cases m
   |region id ops bC=>
    unfold stepG.exec at m;simp only[n]at m;cases bC with
    |false=>simp only[Bool.not_false,if_true,GStep.go.injEq]at m;exact .inl (C {fr with todo:=.inRegion ops (List.range ops.size)::k} (R.ok.drop n (one _ A (λO=>I O))) (λf=>by unfold stepG.exec;simp[aR,n,cB,an]) m.1.symm m.2.1.symm m.2.2.symm)
    |true=>rw[ip Y];have p:=u _ (aN R.heap 0);simp only[cB]at p;unfold stepG.exec;simp only[p];have hc:∀(P:ay) (x:aa) (q:bc),(choose (.order q id)).run P x=.ok (x.tape x.drawn (.order q id)) {x with drawn:=x.drawn+1}:=λP x q=>rfl;simp only[a6O,dj,if_false,hc,ad,GStep.go.injEq]at m⊢;obtain⟨rfl,rfl,rfl⟩:=m;have b0:v.tape v.drawn (.order fr.fn id)=w.tape w.drawn (.order fr.fn id):=congrFun (L 0 (by simp)) _;rw[b0];have W:a5J D D aj aj w {w with drawn:=w.drawn+1} v {v with drawn:=v.drawn+1} #[] #[]:=⟨λb hb=>⟨hb,rfl⟩,λb hb=>.inl hb,aF _,aF _,λ_ _ _=>rfl,rfl,rfl,rfl,rfl,rfl,rfl,⟨1,rfl,rfl⟩,λ_ _=>by simp,Grown.still rfl rfl λ_ _=>rfl,by simp,by simp⟩;have hh:cL lk lz T.globals.size D aj {w with drawn:=w.drawn+1} {v with drawn:=v.drawn+1}:=R.heap.same rfl rfl;refine .inl ⟨D,aj,{v with drawn:=v.drawn+1},#[],_,rfl,W,.inl ⟨{fr with todo:=.inRegion ops (Region.schedule (Tables.follows T .mixedOrders) ops (w.tape w.drawn (.order fr.fn id)))::k},gs,_,_,rfl,rfl,R.next W hh R.all (R.ok.drop n (one _ A (λO=>I O))) R.cF λf s=>?_⟩⟩;have B:=R.aZ f s;refine⟨?_,B.2⟩;have H:=u f s;rw[p]at H;simp only[cB,f9,true_and]at H;rw[H,B.1];simp[aR,cB]
   |rangeFunc g ps a b=>
    simp only[cV,dW]at A;rw[ip Y];have p:=u _ (aN R.heap 0);simp only[cB]at p;unfold stepG.exec at m⊢;simp only[n,p,ad]at m⊢;have hE:∀f,aQ D aj f->aE ⟨T,F⟩ ⟨T,F'⟩ f (λx y=>y=(f x.1,x.2.map (dJ f))/\∀d∈x.2,fG d.target=true) (Instr.enterLoop fr.fn fr.tmps ps a b fr.roundOf) (Instr.enterLoop fr.fn rf.tmps ps a b rf.roundOf):=by intro f s;have B:=(R.aZ f s).1;rw[B];exact uJ fr.fn fr.tmps ps a b ⟨A.1.1.1.2,A.1.2⟩ ⟨A.1.1.2,A.2⟩ fr.roundOf
    rcases M:(Instr.enterLoop fr.fn fr.tmps ps a b fr.roundOf).runT ⟨T,F⟩ w #[]with⟨r,bS⟩;rw[M]at m;have bl:gy w v (fH r).drawn:=by
     obtain⟨bs,H⟩:=oc m;cases r with
     |ok a w1=>
      obtain⟨l,mk⟩:=a;dsimp only at H;have bn:Fit T id:=⟨λa b h=>h,λ_ _=>rfl,Z.zero⟩;have bb:=(kG _ _ w #[] (uJ (T:=T) (F:=F) (F':=F') (f:=id) fr.fn fr.tmps ps _ _ ⟨A.1.1.1.2,A.1.2⟩ ⟨A.1.1.2,A.2⟩ fr.roundOf) R.all).1;rw[M]at bb;rw[tl]at H;have b1:SE T F F' id (RN F T.globals.size id) (do let d<-Deferred.ofValue (({fr with todo:=.inRangeFunc l::k,defers:=mk++fr.defers}:ah).eval g) #[.func (.yield l) #[] #[]];invoke d.target d.args) (do let d<-Deferred.ofValue (ak id (({fr with todo:=.inRangeFunc l::k,defers:=mk++fr.defers}:ah).eval g)) ((#[Value.func (.yield l) #[] #[]]:Array af).map (ak id));invoke d.target d.args):=by refine aE.bind (rQ _ _) ?_;rintro d _ ⟨rfl,hd⟩;exact ns bn Z d.target hd d.args
      rcases bF:(do let d<-Deferred.ofValue (({fr with todo:=.inRangeFunc l::k,defers:=mk++fr.defers}:ah).eval g) #[.func (.yield l) #[] #[]];invoke d.target d.args:Sem Next).runT ⟨T,F⟩ w1 #[]with⟨r2,b3⟩;have bG:=(kG _ _ w1 #[] b1 bb).2;have bI:=H3 (P:=⟨T,F⟩) (do let d<-Deferred.ofValue (({fr with todo:=.inRangeFunc l::k,defers:=mk++fr.defers}:ah).eval g) #[.func (.yield l) #[] #[]];invoke d.target d.args:Sem Next) w1 #[];rw[bF]at bG bI;have ne:=Z.early;have b2:=ye bF bG H;rw[b2]at bI;exact λi A=>L i (by simp only[fH]at A;omega)
     |halt h w1=>cases H
    obtain⟨⟨l,mk⟩,w1,rfl,D',K,⟨l',bN⟩,v1,bw,ag,hh,ha,hR,W⟩|⟨x,w1,rfl,_⟩|⟨h,w1,rfl,al⟩:=mS R.heap R.os R.all hE M (λ_=>bl)
    .rw[ag];dsimp only at m⊢;have R1:fg lk lz T cs D' K w1 v1 {fr with todo:=.inRangeFunc l::k,defers:=mk++fr.defers} gs {rf with todo:=.inRangeFunc l'::k.map (cB (λb=> @ite _ (D b) (Classical.propDecidable _) (aj b) (v.heap.size+0+b))),defers:=bN++rf.defers} rcs:=by
      refine R.next W hh ha ?_ R.cF λf s=>?_
      .refine⟨λx hx=>?_,λd hd=>?_,R.ok.kind,λO x hx=>?_,R.ok.last,R.ok.calm⟩
       .rcases cm.1 hx with rfl|hx
        .rfl
        .exact R.ok.items x (by rw[n];exact fJ _ hx)
       .rcases kf.1 hd with hd|hd
        .exact(hR _ (aN hh 0)).2 d hd
        .exact R.ok.defers d hd
       .rcases cm.1 hx with rfl|hx
        .rfl
        .exact R.ok.round O x (by rw[n];exact fJ _ hx)
      .have B:=R.aZ f (s.less W.more);refine⟨?_,B.2⟩;have H:=u f (s.less W.more);rw[p]at H;simp only[cB,f9,true_and]at H;have h3:=(hR f s).1;simp only[gQ]at h3;rw[H,h3.1,h3.2,B.1];simp[aR,cB]
     cases bo:stepG.apply ⟨T,F⟩ true {fr with todo:=.inRangeFunc l::k,defers:=mk++fr.defers} (gs++trap::below) none (do let d<-resolve ({fr with todo:=.inRangeFunc l::k,defers:=mk++fr.defers}:ah).eval {callee:=.value g,args:=#[.const (.func (.yield l) #[] #[])],argTypes:=#[]} 0;invoke d.target d.args) w1 with
     |go g1 w2 bs=>
      rw[bo]at m;simp only[GStep.after,GStep.go.injEq]at m;obtain⟨rfl,rfl,rfl⟩:=m;have:=yd (s':=do let d<-resolve ({rf with todo:=.inRangeFunc l'::k.map (cB (λb=> @ite _ (D b) (Classical.propDecidable _) (aj b) (v.heap.size+0+b))),defers:=bN++rf.defers}:ah).eval {callee:=.value g,args:=#[.const (.func (.yield l') #[] #[])],argTypes:=#[]} 0;invoke d.target d.args) Z R1 (λf s=>?_) bo (L.behind W)
      .rw[ad]at this;exact .inl (iz.after (W.seen Z fr.fn) this)
      .have bO:=nA Z R1.low s;have B:=(R1.aZ f s).1;have h3:=(hR f s).1;simp only[gQ]at h3;have av:=vf f bO.low ({fr with todo:=.inRangeFunc l::k,defers:=mk++fr.defers}:ah) g A.1.1.1.1;rw[<-B]at av;have bp:=rQ (T:=T) (F:=F) (F':=F') (f:=f) (({fr with todo:=.inRangeFunc l::k,defers:=mk++fr.defers}:ah).eval g) #[.func (.yield l) #[] #[]];rw[<-av]at bp;have V:(#[Value.func (.yield l) #[] #[]]:Array af).map (ak f)=#[Value.func (.yield l') #[] #[]]:=by simp[jt,h3.1]
       rw[V]at bp;rw[tl,tl];refine aE.bind bp ?_;rintro d _ ⟨rfl,hd⟩;exact ns bO Z d.target hd d.args
     |_=>rw[bo]at m;simp[GStep.after]at m
    .simp[GStep.after]at m
    .simp[GStep.after]at m
def NV(Y:Twin T F F' E)(R:fg lk lz T cs D aj w v fr gs rf rcs){d d'}(Z:fG d.target=true)(ab:∀f,aQ D aj f->d'=dJ f d){g' w' es}(p:callDeferred ⟨T,F⟩ fr (gs++trap::below) none d w=.go g' w' es)(H:gy w v w'.drawn):iz lk lz T F F' E cs trap below D aj w v g' w' es (callDeferred ⟨T,F'⟩ rf rcs none d' v):=by
 have h0:=R.aZ _ (aN R.heap 0);have al:rf.fn=fr.fn:=by rw[h0.1];rfl
 have hE:∀f,aQ D aj f->aE ⟨T,F⟩ ⟨T,F'⟩ f (RN F T.globals.size f) (invoke d.target d.args) (invoke d'.target d'.args):=by intro f o;rw[ab f o];exact ns (nA Y R.low o) Y d.target Z d.args
 by_cases hn:d.target=.nil/\∃ch,fr.mode=.panicking ch
 .exfalso;obtain⟨u,ch,t⟩:=hn;unfold callDeferred at p;simp[u,t]at p
 .have ao:=ab _ (aN R.heap 0);unfold callDeferred at p⊢;rw[if_neg (by
   intro hc;apply hn;cases u:d.target<;>cases t:fr.mode<;>simp_all)]at p
  rw[if_neg (by
   intro hc;apply hn;rw[ao,h0.1]at hc;cases u:d.target<;>cases t:fr.mode<;>simp_all [dJ,iI,aR,eB])]
  rw[al];rcases J:(invoke d.target d.args).runT ⟨T,F⟩ w #[]with⟨r,bl⟩;rw[J]at p;have aq:qY r->gy w v (fH r).drawn:=by
   intro o;obtain⟨bn,t⟩:=oc p;cases r with
   |ok a w1=>
    have:w'=w1:=by
     cases a with
     |alone on x=>cases on<;>simp at t
     |coroswitch c e=>cases e<;>simp at t
     |recover=>dsimp only at t;split at t<;>(simp only[GStep.go.injEq]at t;exact t.2.1.symm)
     |_=>first|(simp only[GStep.go.injEq]at t;exact t.2.1.symm)|(simp at t;done)
    rw[this]at H;exact H
   |halt h w1=>
    obtain⟨x,rfl⟩|o:=o
    .simp only[GStep.go.injEq]at t;rw[<-t.2.1]at H;exact H
    .exfalso;cases h<;>simp[eO]at o<;>simp at t
  obtain⟨a,w1,rfl,C,j,b,K,ar,Q,I,L,W,z⟩|⟨x,w1,rfl,C,j,x',K,ar,Q,I,L,W,z⟩|⟨h,w1,rfl,S⟩:=mS R.heap R.os R.all hE J aq
  .have q:=z.seen Y fr.fn;have m:∀f,aQ C j f->rf=aR f fr/\rcs=gs.map (aR f)++cs:=λf o=>R.aZ f (o.less z.more);have A:=W _ (aN I 0);rw[Q];have bb:∀b',(∀c k sv wr,b'≠Next.callThen c k sv wr)->True:=λ_ _=>trivial;cases a with
   |value x=>simp only[RN]at A;subst A;simp only[GStep.after,GStep.go.injEq,ir]at p⊢;obtain⟨rfl,rfl,rfl⟩:=p;exact⟨C,j,K,_,_,rfl,by simpa using q,.inl ⟨fr,gs,rf,rcs,rfl,rfl,R.next z I L R.ok R.cF m⟩⟩
   |skip=>simp only[RN]at A;subst A;simp only[GStep.after,GStep.go.injEq,ir]at p⊢;obtain⟨rfl,rfl,rfl⟩:=p;exact⟨C,j,K,_,_,rfl,by simpa using q,.inl ⟨fr,gs,rf,rcs,rfl,rfl,R.next z I L R.ok R.cF m⟩⟩
   |defer x=>simp only[RN]at A;obtain⟨rfl,_⟩:=A;simp only[GStep.after,GStep.go.injEq,ir]at p⊢;obtain⟨rfl,rfl,rfl⟩:=p;exact⟨C,j,K,_,_,rfl,by simpa using q,.inl ⟨fr,gs,rf,rcs,rfl,rfl,R.next z I L R.ok R.cF m⟩⟩
   |enter g M=>
    simp only[RN]at A;obtain⟨rfl,fn,c,B,n⟩:=A;simp only[GStep.after,GStep.go.injEq,ir]at p⊢;obtain⟨rfl,rfl,rfl⟩:=p;by_cases hg:E g
    .refine⟨C,j,K,_,_,rfl,by simpa using q,.inr ⟨g,M,.deferred,_,fr,gs,rf,rcs,⟨hg,.inr rfl⟩,rfl,rfl,λf o=>?_,R.next z I L R.ok R.cF m⟩⟩;have:=(W f o).1;simp only[Next.enter.injEq,true_and]at this;exact this
    .obtain⟨bo,au,bd,_,_,_,av⟩:=Y.each g fn B;obtain⟨c1,c2,s,bp,ad,U⟩|⟨s,_⟩|⟨s,_⟩:=av
     .have ae:=U hg;subst ae;have aP:c1=c:=by rw[n]at s;exact(dk s).symm
      subst aP;refine⟨C,j,K,_,_,rfl,by simpa using q,.inl ⟨Frame.enter ⟨T,F⟩ g M .deferred,fr::gs,_,_,rfl,rfl,R.next z I L ?_ ?_ λf o=>?_⟩⟩
      .refine⟨λi N=>?_,λd Z=>by simp[Frame.enter]at Z,.inr rfl,λh=>by simp[Frame.enter]at h,λh=>by simp[Frame.enter]at h,λc h=>by simp[Frame.enter]at h⟩;simp only[Frame.enter,B,n,lH,i6,ft]at N;subst N;exact ad
      .intro y V;obtain rfl|V:=cm.1 V
       .exact R.ok
       .exact R.cF y V
      .have u:=m f o;have X:=(W f o).1;simp only[Next.enter.injEq,true_and]at X;refine⟨?_,by rw[u.1,u.2];rfl⟩;rw[X];simp only[Frame.enter,aR,B,au,Option.map_some,i6,lH,n,cA,d7,cB,eB,kl,kK];congr 1;rw[iM];congr 1;rw[a6R];simp[undef]
     .rw[n]at s;cases s
     .rw[n]at s;cases s
   |round l g ag ba body=>
    simp only[RN]at A;obtain⟨rfl,O,P⟩:=A;simp only[GStep.after,GStep.go.injEq,ir]at p⊢;obtain⟨rfl,rfl,rfl⟩:=p;refine⟨C,j,K,_,_,rfl,by simpa using q,.inl ⟨Frame.round l g ag ba body .deferred,fr::gs,_,_,rfl,rfl,R.next z I L ?_ ?_ λf o=>?_⟩⟩
    .refine⟨λi N=>?_,λd Z=>by simp[Frame.round]at Z,.inr rfl,λ_ i N=>?_,λ_=>by simp[Frame.round],λc h=>by simp[Frame.round]at h⟩
     .simp only[Frame.round,cm,dP,or_false]at N;obtain rfl|rfl|rfl:=N
      .exact O.1
      .rfl
      .exact P.1
     .simp only[Frame.round,cm,dP,or_false]at N;obtain rfl|rfl|rfl:=N
      .exact O.2
      .rfl
      .exact P.2
    .intro y V;obtain rfl|V:=cm.1 V
     .exact R.ok
     .exact R.cF y V
    .have u:=m f o;have X:=(W f o).1;simp only[Next.round.injEq,and_true,true_and]at X;refine⟨?_,by rw[u.1,u.2];rfl⟩;rw[X.1,X.2];rfl
   |_=>exact A.elim
  .have q:=z.seen Y fr.fn;have m:∀f,aQ C j f->rf=aR f fr/\rcs=gs.map (aR f)++cs:=λf o=>R.aZ f (o.less z.more);rw[Q];simp only[GStep.after,GStep.go.injEq,ir]at p⊢;obtain⟨rfl,rfl,rfl⟩:=p;refine⟨C,j,K,_,_,rfl,by simpa using q,.inl ⟨fr.raise [{v:=x,recovered:=false}],gs,_,_,rfl,rfl,R.next z I L (R.ok.raise (by simp)) R.cF λf o=>?_⟩⟩;have u:=m f o;rw[W f o,<-wQ];exact⟨by rw[u.1];rfl,u.2⟩
  .exfalso;cases h<;>simp[eO]at S<;>simp[GStep.after]at p
variable{lk:Prop}{lz:Nat->Obj->Prop}{T:Tables}{F F':Array Func}{E:bc->Prop}{cs:List ah}{trap:ah}{below:List ah}{main:Bool}{D:Nat->Prop}{aj f:Nat->Nat}{w v:aa}{fr:ah}{gs:List ah}{rf:ah}{rcs:List ah}
def a2W(Z:∀P,trap.mode=.panicking P->∀e∈P,e.recovered=false)(Y:Twin T F F' E)(R:fg lk lz T cs D aj w v fr gs rf rcs)(hm:fr.mode≠.run){g' w' es}(g:unwind ⟨T,F⟩ true fr (gs++trap::below) none w=.go g' w' es)(K:gy w v w'.drawn):iz lk lz T F F' E cs trap below D aj w v g' w' es (unwind ⟨T,F'⟩ main rf rcs none v)\/(gs=[]/\∃t,g'=an t below/\mo trap t):=by
 have h0:=R.aZ _ (aN R.heap 0);have ab:rf.fn=fr.fn:=by rw[h0.1];rfl
 have q:∀f,aQ D aj f->rf.defers=fr.defers.map (dJ f):=λf j=>by rw[(R.aZ f j).1];rfl
 rcases l:fr.defers with _|⟨d,ds⟩
 .have ar:rf.defers=[]:=by rw[q _ (aN R.heap 0),l];rfl
  unfold unwind at g⊢;rw[l]at g;rw[ar];dsimp only at g⊢;cases s:fr.mode with
  |run=>exact absurd s hm
  |panicking P=>
   have u:∀f,aQ D aj f->rf.mode=.panicking (P.map (tj f)):=λf j=>by rw[(R.aZ f j).1];simp[aR,s,eB]
   rw[s]at g;rw[u _ (aN R.heap 0)];have au:fr.catches ⟨T,F⟩=false:=by
    unfold Frame.catches;split
    .rename_i M;have:=R.ok.items _ (by rw[M];exact ga);simp[dt]at this
    .rfl
   have av:rf.catches ⟨T,F'⟩=false:=by
    unfold Frame.catches;split
    .rename_i M;rw[h0.1]at M;simp only[aR]at M;rcases Q:fr.todo with _|⟨i,k⟩
     .rw[Q]at M;simp at M
     .have:=R.ok.items i (by rw[Q];exact ga);rw[Q]at M;cases i<;>simp[cB,dt]at M this
    .rfl
   simp only[au,av,dj,if_false]at g⊢;cases gs with
   |nil=>refine .inr ⟨rfl,?_⟩;simp only[gP,GStep.go.injEq]at g;exact⟨_,g.1.symm,.inr (.inr ⟨P,rfl⟩)⟩
   |cons c ad=>refine .inl ?_;rw[h0.2];simp only[fy,cA,GStep.go.injEq]at g⊢;obtain⟨rfl,rfl,rfl⟩:=g;refine⟨D,aj,v,#[],_,rfl,a5J.refl,.inl ⟨c.raise P,ad,_,_,rfl,rfl,R.next a5J.refl R.heap R.all ((R.cF c (by simp)).raise (R.ok.calm P s)) (λx L=>R.cF x (by simp[L])) λf j=>?_⟩⟩;have J:=R.aZ f j;rw[h0.2]at J;simp only[cA,fy,f9]at J;have n:=u f j;rw[u _ (aN R.heap 0)]at n;simp only[FrameMode.panicking.injEq]at n;rw[J.2.1,n,wQ];exact⟨rfl,J.2.2⟩
  |returning=>
   have u:rf.mode=.returning:=by rw[h0.1];simp[aR,s,eB]
   rw[s]at g;rw[u];dsimp only at g⊢;rw[ab];have N:∀f,aQ D aj f->rf.tmps=fr.tmps.map (ak f):=λf j=>by rw[(R.aZ f j).1];rfl
   cases z:F[fr.fn]? with
   |none=>
    have A:F'[fr.fn]?=none:=by rw[a7A]at z⊢;rw[Y.size];exact z
    simp only[z,A]at g⊢;obtain⟨S,U,V,B,rfl,rfl,rfl,hq,R2⟩|hp:=Bf (main:=main) (F':=F') Z R (x':=rf.tmps.getD 0 undef) (λf j=>by
     rw[N f j];simp only[fR,fp];cases fr.tmps[0]? <;>simp[undef]) g
    .exact .inl ⟨D,aj,v,#[],_,hq,a5J.refl,.inl ⟨S,U,V,B,rfl,rfl,R2⟩⟩
    .exact .inr hp
   |some fn=>
    obtain⟨ae,A,ag,_⟩:=Y.each fr.fn fn z;simp only[z,A]at g⊢;have hE:∀f,aQ D aj f->aE ⟨T,F⟩ ⟨T,F'⟩ f (aC (ak f)) (results fn fr.tmps) (results ae rf.tmps):=by
     intro f j;have e1:results ae rf.tmps=results fn rf.tmps:=by unfold results;rw[ag]
     rw[e1,N f j];exact PY (nA Y R.low j) fn fr.tmps
    rcases p:(results fn fr.tmps).runT ⟨T,F⟩ w #[]with⟨r,aP⟩;rw[p]at g;have W:gy w v (fH r).drawn:=by
     obtain⟨al,n⟩:=oc g;cases r with
     |ok a C=>rw[<-Di n];exact K
     |halt h C=>cases h<;>cases n
    obtain⟨a,C,rfl,D',o,b,v1,ba,X,hh,ha,hR,O⟩|⟨x,C,rfl,_⟩|⟨h,C,rfl,H⟩:=mS R.heap R.os R.all hE p (λ_=>W)
    .have R1:fg lk lz T cs D' o C v1 fr gs rf rcs:=R.next O hh ha R.ok R.cF λf j=>R.aZ f (j.less O.more)
     rw[X];dsimp only at g⊢;cases hd:doReturn ⟨T,F⟩ true fr (gs++trap::below) none a C with
     |go g1 w2 al=>
      rw[hd]at g;simp only[GStep.after,GStep.go.injEq]at g;obtain⟨rfl,rfl,rfl⟩:=g;obtain⟨S,U,V,B,rfl,rfl,rfl,hq,R2⟩|hp:=Bf (main:=main) (F':=F') Z R1 hR hd
      .refine .inl ?_;rw[hq];exact iz.after (O.seen Y fr.fn) ⟨D',o,v1,#[],_,rfl,a5J.refl,.inl ⟨S,U,V,B,rfl,rfl,R2⟩⟩
      .exact .inr hp
     |_=>rw[hd]at g;simp[GStep.after]at g
    .simp[GStep.after]at g
    .exfalso;cases h<;>simp[eO]at H<;>simp[GStep.after]at g
 .have ao:=R.ok.defers d (by rw[l];exact ga);have m:=q _ (aN R.heap 0);rw[l,cA]at m;have R1:fg lk lz T cs D aj w v {fr with defers:=ds} gs {rf with defers:=ds.map (dJ (λb=> @ite _ (D b) (Classical.propDecidable _) (aj b) (v.heap.size+0+b)))} rcs:=by
   refine R.next a5J.refl R.heap R.all ⟨R.ok.items,λx L=>R.ok.defers x (by rw[l];exact fJ _ L),R.ok.kind,R.ok.round,R.ok.last,R.ok.calm⟩ R.cF λf j=>?_
   have J:=R.aZ f j;refine⟨?_,J.2⟩;have n:=q f j;rw[m,l,cA,f9]at n;rw[n.2,J.1];simp[aR]
  obtain⟨tg,aq⟩:=d;by_cases I:∃b,tg=.collected b
  .obtain⟨bl,rfl⟩:=I;unfold unwind at g⊢;rw[l]at g;rw[m];simp only[dJ,iI]at g⊢;rw[ab];have hE:∀f,aQ D aj f->aE ⟨T,F⟩ ⟨T,F'⟩ f (λx y=>y=x.map (dJ f)/\∀d∈x,fG d.target=true) (Instr.takeDeferred bl) (Instr.takeDeferred ((λb=> @ite _ (D b) (Classical.propDecidable _) (aj b) (v.heap.size+0+b)) bl)):=by intro f j;have n:=q f j;rw[m,l,cA,f9]at n;have h3:=n.1;simp only[dJ,iI,Deferred.mk.injEq,Target.collected.injEq]at h3;dsimp only;rw[h3.1];exact Qa bl
   rcases p:(Instr.takeDeferred bl).runT ⟨T,F⟩ w #[]with⟨r,aP⟩;rw[p]at g;have W:gy w v (fH r).drawn:=by
    obtain⟨al,n⟩:=oc g;cases r with
    |ok a C=>simp only[GStep.go.injEq]at n;rw[<-n.2.1]at K;exact K
    |halt h C=>cases n
   obtain⟨a,C,rfl,D',o,b,v1,ba,X,hh,ha,hR,O⟩|⟨x,C,rfl,_⟩|⟨h,C,rfl,H⟩:=mS R.heap R.os R.all hE p (λ_=>W)
   .rw[X];simp only[GStep.after,GStep.go.injEq,ir]at g⊢;obtain⟨rfl,rfl,rfl⟩:=g;refine .inl ⟨D',o,v1,_,_,rfl,by simpa using O.seen Y fr.fn,.inl ⟨{fr with defers:=a++ds},gs,_,_,rfl,rfl,R.next O hh ha ⟨R.ok.items,λx L=>?_,R.ok.kind,R.ok.round,R.ok.last,R.ok.calm⟩ R.cF λf j=>?_⟩⟩
    .rcases kf.1 L with L|L
     .exact(hR _ (aN hh 0)).2 x L
     .exact R.ok.defers x (by rw[l];exact fJ _ L)
    .have J:=R.aZ f (j.less O.more);refine⟨?_,J.2⟩;have n:=q f (j.less O.more);rw[m,l,cA,f9]at n;rw[n.2,(hR f j).1,J.1];simp[aR]
   .simp[GStep.after]at g
   .simp[GStep.after]at g
  .have e1:unwind ⟨T,F⟩ true fr (gs++trap::below) none w=callDeferred ⟨T,F⟩ {fr with defers:=ds} (gs++trap::below) none ⟨tg,aq⟩ w:=by unfold unwind;rw[l];cases tg<;>first|rfl|exact absurd ⟨_,rfl⟩ I
   have e2:unwind ⟨T,F'⟩ main rf rcs none v=callDeferred ⟨T,F'⟩ {rf with defers:=ds.map (dJ (λb=> @ite _ (D b) (Classical.propDecidable _) (aj b) (v.heap.size+0+b)))} rcs none (dJ (λb=> @ite _ (D b) (Classical.propDecidable _) (aj b) (v.heap.size+0+b)) ⟨tg,aq⟩) v:=by unfold unwind;rw[m];cases tg<;>first|rfl|exact absurd ⟨_,rfl⟩ I
   rw[e1]at g;rw[e2];refine .inl (NV Y R1 ao (λf j=>?_) g K);have n:=q f j;rw[m,l,cA,f9]at n;exact n.1
def up{trap:ah}(h:trap.mode=.returning):∀a,trap.mode=.panicking a->∀e∈a,e.recovered=false:=λa b=>by rw[h]at b;cases b
def tF(a:∀i,trap.mode=.panicking i->∀e∈i,e.recovered=false)(j:Twin T F F' E)(R:fg lk lz T cs D aj w v fr gs rf rcs){g' w' es}(c:stepG ⟨T,F⟩ true (an fr (gs++trap::below)) w=.go g' w' es)(b:gy w v w'.drawn):iz lk lz T F F' E cs trap below D aj w v g' w' es (stepG ⟨T,F'⟩ main (an rf rcs) v)\/(gs=[]/\∃t,g'=an t below/\mo trap t):=by
 have h0:=R.aZ _ (aN R.heap 0);by_cases d:fr.mode=.run
 .rw[ip d]at c;exact QG a j R d c b
 .have g:rf.mode≠.run:=by rw[h0.1];cases h:fr.mode<;>simp_all [aR,eB]
  rw[j4 d]at c;rw[j4 g];exact a2W a j R d c b
theorem jV:∀v,ak id v=v
 | .pointer a=>by cases a<;>simp[aH]
 | .slice a _ _=>by cases a<;>simp[aH]
 | .map r=>by cases r<;>simp
 | .chan r=>by cases r<;>simp
 | .func d a b=>by rw[bz,iF λx c=>jV x,iF λx c=>jV x];cases d<;>rfl
 | .iface t v=>by rw[bm,jV v]
 | .agg e=>by rw[bk,iF λx c=>jV x]
 | .tuple e=>by rw[bE,iF λx c=>jV x]
 | .bool _=>by simp
 | .int _ _=>by simp
 | .float _ _=>by simp
 | .complex _ _ _=>by simp
 | .string _=>by simp
 | .nilFunc=>by simp
 | .nilIface=>by simp
termination_by v=>SizeOf.sizeOf v
def tk(a:Array af):a.map (ak id)=a:=iF λx _=>jV x
def wU(d):dJ id d=d:=by obtain⟨t,a⟩:=d;simp only[dJ,tk];cases t<;>simp[iI,tk];rename_i b _;cases b<;>rfl
def Zf(i):cB id i=i:=by cases i<;>simp[cB,wU,tk]
def qo(fr):aR id fr=fr:=by
 obtain⟨h,a,todo,defers,mode,b,i⟩:=fr;have d:todo.map (cB id)=todo:=by have:cB id=id:=funext Zf;rw[this];simp
 have f:defers.map (dJ id)=defers:=by have:dJ id=id:=funext wU;rw[this];simp
 have g:eB id mode=mode:=by
  cases mode<;>simp[eB];rename_i c;have:tj id=id:=funext λe=>by simp[tj,jV]
  rw[this];simp
 simp[aR,tk,d,f,g]
def Zi(e):oV id e=e:=by simp[oV,jV]
def qp(o):ct id o=o:=by
 cases o<;>simp[ct,tk,aH,nJ]
 .rename_i b _;exact iF λx _=>Zi x
 .rename_i a;cases a with
  |none=>rfl
  |some a=>have:dJ id=id:=funext wU;simp[this]
 .rename_i c _;exact iF λx _=>by simp[wU]
end Go.Mir
end
