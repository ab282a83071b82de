import Derived.Conc.JoinTrace
import Derived.Orders
import Derived.Test.YtdnpeefnobjfaaaGreatDoorK06
set_option maxRecDepth 100000
set_option maxHeartbeats 4000000
set_option linter.all false
noncomputable section
section
namespace Go.Mir
open Go.Conc
section
variable{T:Tables}{F:Array Func}{law:ah}{Stop:ah->List ah->aa->Prop}{f:bW}
def jh(f:bW)(fr:ah)(gs:List ah):Prop:=∀b,(fr::gs).getLast?=some b->b.fn=f/\b.kind=.normal/\b.roundOf=none
def jh.ke{fr fr1 gs}(h:jh f fr gs)(a:nt fr fr1):jh f fr1 gs:=by
 intro b d;cases gs with
 |nil=>simp at d;subst d;obtain⟨e,g,i⟩:=h fr rfl;exact⟨a.1.trans e,a.2.1.trans g,a.2.2.trans i⟩
 |cons c gs=>exact h b (by simp_all)
def jh.push{fr fr1 a gs}(h:jh f fr gs)(c:nt fr a):jh f fr1 (a::gs):=λb d=>(h.ke c) b (by simp_all)
def jh.pop{fr fr1 c gs}(h:jh f fr (c::gs))(a:nt c fr1):jh f fr1 gs:=
 jh.ke (fr:=c) (λb d=>h b (by simp_all)) a
def jh.step{fr fr1 t gs gs1 L Q}(h:jh f fr gs)(d:Ao Q fr (gs++t::L) fr1 (gs1++t::L)):jh f fr1 gs1:=by
 obtain⟨b,a⟩|⟨e,b,a⟩|⟨c,b,a,_⟩:=d
 .obtain rfl:=a9T b;exact h.ke a
 .obtain rfl:gs1=e::gs:=a9T (bs:=t::L) (by simp_all);exact h.push a
 .obtain rfl:gs=c::gs1:=a9T (bs:=t::L) (by simp_all);exact h.pop a
def NV(P:aA)(Stop:ah->List ah->aa->Prop)(Z:ah->List ah->aa->Prop)(law:ah)(fr:ah)(gs:List ah)(w:aa):Prop:=
 gs=[]/\fr.mode=.returning/\fr.defers=[]/\fr.kind=.normal/\Fin P (ay P) Stop fr [law] w/\Z fr [law] w
def J3{P main a c c' cs v v' g es}(k:a.mode=.returning)(n:a.defers=[])(l:a.kind=.normal)(h:stepG P main (am a (c::cs)) v=.go g v' es):∃x,g=am (c.finish x) cs/\∀b,stepG P main (am a (c'::b)) v=.go (am (c'.finish x) b) v' es:=by
 have e:∀c cs,stepG P main (am a (c::cs)) v=match P.funcs[a.fn]? with
   |none=>.go (am (c.finish (a.tmps.getD 0 undef)) cs) v
   |some d=>GStep.after (seen P a.fn ((results d a.tmps).runT P v #[]).2)<|match ((results d a.tmps).runT P v #[]).1 with
    | .ok x w=>.go (am (c.finish x) cs) w
    | .halt (.stuck s) w=>.ended (.stuck s (a.pos P)) w
    | .halt _ w=>.ended (.stuck "return: the result variables cannot be read" (a.pos P)) w:=λc cs=>by
  rw[kw (by rw[k];simp)];unfold unwind;rw[n];dsimp;rw[k];dsimp;cases P.funcs[a.fn]? with
  |none=>simp only[doReturn,l];rfl
  |some d=>
   dsimp;congr 1;cases ((results d a.tmps).runT P v #[]).1 with
   |ok x w=>simp only[doReturn,l];rfl
   |halt q w=>cases q<;>rfl
 rw[e]at h;cases i:P.funcs[a.fn]? with
 |none=>
  rw[i]at h
  grind
 |some d=>
  rw[i]at h;dsimp at h;cases j:((results d a.tmps).runT P v #[]).1 with
  |ok x w=>rw[j]at h;simp only[GStep.after]at h;cases h;exact⟨x,rfl,λb=>by rw[e,i];dsimp;rw[j];rfl⟩
  |halt q w=>rw[j]at h;cases q<;>(simp only[GStep.after]at h;cases h)
def Jy{P main a c cs e}(d:a.mode=.panicking e)(i:a.defers=[])(v){g v' es}(h:stepG P main (am a (c::cs)) v=.go g v' es):∃b,g=am (c.raise b) cs:=by
 rw[kw (by rw[d];simp)]at h;unfold unwind at h;rw[i]at h;dsimp at h;rw[d]at h;dsimp at h;split at h
 .cases h
 .cases h;exact⟨_,rfl⟩
def TT(j:Twin T F F (λ_=>False))(p:∀fr X w,Stop fr X w->X=[]/\fr.mode=.returning)(L:law.mode=.run)(M:law.defers=[]){Z}(hZ:∀fr gs w r a Y es τ d,Z fr gs w->¬Stop fr gs w->stepG ⟨T,F⟩ true (am fr (gs++[ay ⟨T,F⟩])) (re w τ d)=.go (am r (a++[ay ⟨T,F⟩])) Y es->Z r a Y){fr N w}(hF:Fin ⟨T,F⟩ (ay ⟨T,F⟩) Stop fr N w):∀gs,N=gs++[law]->Z fr (gs++[law]) w->bJ T.globals.size fr->(∀x∈gs,bJ T.globals.size x)->cA T.globals.size w->jh f fr gs->Fin ⟨T,F⟩ (ay ⟨T,F⟩) (NV ⟨T,F⟩ Stop Z law) fr gs w:=by
 induction hF with
 |stop O=>intro gs e;have:=(p _ _ _ O).1;rw[e]at this;simp at this
 | @step fr N w y E z H h A ih=>
  intro gs e hz ok P Q s;subst e;have ab: ¬Stop fr (gs++[law]) w:=λq=>by have:=(p _ _ _ q).1;simp at this
  have R:∀I,law.mode=.panicking I->∀e∈I,e.recovered=false:=λI q=>by rw[L]at q;cases q
  have J:∀τ d,stepG ⟨T,F⟩ true (am fr (gs++law::[ay ⟨T,F⟩])) (re w τ d)=.go (am (y τ d) (E τ d++[ay ⟨T,F⟩])) (z τ d) (H τ d):=λτ d=>by
   have:=h τ d
   rwa [jW]at this
  have k:∀τ d,cA T.globals.size (re w τ d):=λτ d b o ho=>Q b o ho;by_cases hp:gs=[]/\fr.mode≠.run/\fr.defers=[]
  .obtain⟨rfl,hm,hd⟩:=hp;let ⟨b1,b2,_⟩:=s fr rfl;cases u:fr.mode with
   |run=>exact absurd u hm
   |returning=>exact .stop ⟨rfl,u,hd,b2,.step y E z H h A,hz⟩
   |panicking I=>
    exfalso;obtain⟨B,S⟩:=Jy u hd _ (J w.tape w.drawn);obtain⟨U,C⟩:=dG S;have C:=fS (b:=[]) C;have hc:=A w.tape w.drawn;rw[U,C]at hc;have g:∃c2,(law.raise B).mode=.panicking c2:=by unfold Frame.raise;split<;>exact⟨_,rfl⟩
    have V:(law.raise B).defers=[]:=by unfold Frame.raise;split<;>exact M
    obtain⟨c2,g⟩:=g;cases hc with
    |stop O=>have:=(p _ _ _ O).2;rw[g]at this;cases this
    |step ad ae ao ap h2 _=>let ⟨_,q⟩:=Jy g V _ (h2 w.tape w.drawn);have:=(dG q).2;simp at this
  .have l:∀τ d,∃a,E τ d=a++[law]/\bJ T.globals.size (y τ d)/\(∀x∈a,bJ T.globals.size x)/\cA T.globals.size (z τ d)/\jh f (y τ d) a/\stepG ⟨T,F⟩ true (am fr (gs++[ay ⟨T,F⟩])) (re w τ d)=.go (am (y τ d) (a++[ay ⟨T,F⟩])) (z τ d) (H τ d):=by
    intro τ d;obtain⟨aq,ar,w2,W,v,i⟩|⟨o,w2,W,n⟩:=Lj (cs:=gs++law::[ay ⟨T,F⟩]) j ok (k τ d) a9i;rotate_left
    .rw[J τ d]at n;cases n
    rw[J τ d]at v;simp at v;obtain⟨S,_,_⟩:=v;obtain⟨e2,U⟩:=dG S;subst e2 U;obtain⟨r,a,g1,g2,g3,g4,g5⟩|⟨rfl,t,D,_⟩:=Pe j R ok P (k τ d) (J τ d) [ay ⟨T,F⟩] true
    .obtain⟨C,K⟩:=dG g1;subst C;have e6:E τ d=a++[law]:=fS (x:=ay ⟨T,F⟩) (by rw[K,jW];rfl);rw[K]at i;exact⟨a,e6,g2,g3,g4,s.step i,g5⟩
    .exfalso;have K:=(dG D).2;rw[K]at i;obtain⟨q,_⟩|⟨f2,q,_⟩|⟨c,_,_,q⟩:=i
     .have:=congrArg List.length q;simp at this
     .have:=congrArg List.length q;simp at this
     .rcases q with q|q
      .exact q (s fr rfl).2.2
      .exact hp ⟨rfl,q⟩
   refine .step y (λτ d=>(l τ d).choose) z H (λτ d=>(l τ d).choose_spec.2.2.2.2.2) λτ d=>?_
   grind
end
end Go.Mir
end
section
namespace Go.Mir
open Go.Conc
open Go.ConcN (sumTo upd sumTo_upd upd_ne upd_same)
structure dF where
 V:aj
 b:Nat
 off:Nat
 n:Nat
 z:Nat->Int
 on:Bool
def dF.at(R:dF)(i:Nat):aF:=⟨R.b,R.off+i,none⟩
def dF.tZ(R:dF)(x:aj):Prop:=x=undef\/x=R.V\/∃i,i<R.n/\x=.pointer (some (R.at i))
structure dF.In (R:dF) (fr:ah):Prop where
 row:fr.tmps[iI]?=some R.V
 ue:∀a,dB.contains a=true->∃x,fr.tmps[a]?=some x/\R.tZ x
def dF.On(R:dF)(w:aa):Prop:=∀i,i<R.n->w.cell? (R.at i)=some (.int .i64 (R.z i))
def wH(R:dF)(S:List Nat)(T:Tables)(o:Oper):Prop:=
 ∃d g,o.dst=some d/\(∀x∈(g:List Operand),tz S x=true)/\∀(F:Array Func) (ρ:Operand->aj) (w:aa),ρ (.tmp iI)=R.V->(∀a,dB.contains a=true->R.tZ (ρ (.tmp a)))->R.On w->
  (∀y b,((execOp ρ o).runT ⟨T,F⟩ w #[]).1≠.ok y b)\/
  ∃y es,(S.contains d=false/\(∀f:Nat->Nat,al f y=y)\/dB.contains d=true/\(∀t,y≠.bool t)/\R.tZ y)/\(∀e∈(es:Array aT),∃i,i<R.n/\e=⟨.cell (R.at i),false,false⟩)/\(∀x∈g,∃k i,ρ x=.int k i)/\
   ∀(F':Array Func) (c:Operand->aj) (b:aa),c (.tmp iI)=R.V->(∀a,dB.contains a=true->c (.tmp a)=ρ (.tmp a))->(∀x∈g,c x=ρ x)->R.On b->(execOp c o).runT ⟨T,F'⟩ b #[]=(.ok (.value y) b,es)
section
variable{T:Tables}{F F':Array Func}{E:bW->Prop}{Z:Nat->Prop}{K:Nat->Obj}{D:Nat->Prop}{ai:Nat->Nat}{u v u1:aa}{fr fr0 fr1 m rd:ah}{gs1:List ah}{es:Array aT}{main:Bool}{S:List Nat}{R:dF}
def ZN{G f}(i)(h:cZ G i=true):cZ G (cg f i)=true:=by cases i<;>first|exact h|(simp[cZ]at h)
def dF.In.keep(h:R.In fr)(c:S.contains iI=true)(d:∀i,dB.contains i=true->S.contains i=true)(k:Kp S fr fr1):R.In fr1:=
 ⟨(k iI c).trans h.row,λa b=>by rw[k a (d a b)];exact h.ue a b⟩
def Kz{w gs cs}(d:cA T.globals.size w)(e:bJ T.globals.size fr)(a:∀x∈gs,bJ T.globals.size x):e9 True vJ T cs (λ_=>True) id w w fr gs fr (gs++cs):=by
 refine⟨⟨λ_ _=>.inl trivial,λ_ _=>.inl trivial,λ_ _ _ _ h=>h,λf c b _=>.inl ⟨?_,λ_ h=>h.elim⟩,λb o _ g=>d b o g,λ_=>⟨λ_=>⟨trivial,rfl⟩,rfl⟩⟩,rfl,λ_ _=>⟨trivial,rfl⟩,d,e,a,λf c=>?_⟩
 .rw[rI c];show w.heap[b]?=(w.heap[b]?).map (bu id);rw[show bu id=id from funext qG];simp
 .rw[rI c,pi];have:aO id=id:=funext pi;simp_all
def bJ.of(h:bJ T.globals.size fr0)(D:DF S fr fr0):bJ T.globals.size fr:=by have e:=D.rest;refine⟨λi a=>h.items i (by rw[e];exact a),λd f=>h.defers d (by rw[e];exact f),by have:=h.kind;rw[e]at this;exact this,λb i a=>h.round (by rw[e];exact b) i (by rw[e];exact a),λb=>by have:=h.last (by rw[e];exact b);rw[e]at this;exact this,λc g=>h.calm c (by rw[e];exact g)⟩
def wG(S:List Nat)(fr:ah):Prop:=∃a j b k o,fr.todo=.inRegion a (j::b)::k/\a[j]?=some o/\kg S o=true
def I4(h: ¬wG S fr):∀ops j a k o,fr.todo=.inRegion ops (j::a)::k->ops[j]?=some o->kg S o=false:=λops j a k o b c=>by
 cases d:kg S o with
 |false=>rfl
 |true=>exact absurd ⟨ops,j,a,k,o,b,c,d⟩ h
def WL(tw:Twin T F F' E)(l:Twin T F F (λ_=>False))(cL:iv T F)(aq:my ⟨T,F'⟩)(Q:my ⟨T,F⟩)(hE:∀q,gZ.contains q=true->¬E q)(Rl:de T Z K [] D ai u v fr0 [] m [])(U:DF S fr fr0)(DR:DF S m rd)(hm:fr.mode=.run)(V:fr.roundOf=none)(s: ¬wG S fr)(h:stepG ⟨T,F⟩ true (am fr ([]++[ay ⟨T,F⟩])) (re u v.tape v.drawn)=.go (am fr1 (gs1++[ay ⟨T,F⟩])) u1 es):∃(P:Nat->Prop) (a:Nat->Nat) (t:aa) (n:Array aT) (p:ah) (c2:List ah) (x C:aa),stepG ⟨T,F'⟩ main (am rd []) v=.go (am p c2) t n/\bj Z K C u1/\a9o D P ai a x C v t es n/\cU T.globals.size P a C t/\((gs1=[]/\c2=[]/\∃y W,Rel T [] P a C t y [] W []/\DF S fr1 y/\DF S W p/\Kp S fr fr1/\Kp S rd p)\/(∃H q,gZ.contains q=true/\fr1.fn=q/\fr1.kind=.normal/\fr1.roundOf=none/\gs1=[fr]/\c2=[rd]/\H=m/\Nx S fr/\Nx S m/\Rel T [] P a C t fr1 [fr0] p [H])):=by
 have R2:=Rl;obtain⟨x0,X,r⟩:=Rl;have A:=pT (X.re v.tape v.drawn) (r.lA v.tape v.drawn).all;have Y:bJ T.globals.size fr:=r.ok.of U;have ab:fr0.mode=.run:=by rw[U.rest];exact hm
 have ad:fr0.roundOf=none:=by rw[U.rest];exact V
 have ar:=CP (below:=[]) (trap:=ay ⟨T,F⟩) l (Kz (cs:=[]) (gs:=[]) (w:=re u v.tape v.drawn) A Y (λx hx=>by cases hx)) hm V h (λi _=>rfl);let ⟨f0,c0,h0s,I⟩:=Ff (cs:=[]++[ay ⟨T,F⟩]) (main:=true) Q U hm Y.items (I4 s) ar h;have J:∀L j B k o,m.todo=.inRegion L (j::B)::k->L[j]?=some o->kg S o=false:=by
  have e0:=(r.aX _ (aL r.heap 0)).1;have g:fr0.todo=fr.todo:=by rw[U.rest]
  intro L j B k o c ho;rw[e0]at c;simp only[aO,g]at c;rcases M:fr.todo with _|⟨i,k0⟩
  .rw[M]at c;simp at c
  .rw[M,dq,iq]at c;cases i<;>simp[cg]at c;obtain⟨⟨rfl,rfl⟩,_⟩:=c;exact I4 s _ _ _ _ _ M ho
 have au:∃N,c0=N++[ay ⟨T,F⟩]:=by
  obtain⟨_,e,_⟩|⟨_,_,_,_,e,_⟩:=I
  .exact⟨[],e⟩
  .exact⟨[fr0],e⟩
 obtain⟨N,rfl⟩:=au;let ⟨x1,h1,_,_⟩:=Ho (cs:=[]++[ay ⟨T,F⟩]) l cL (u:=re u v.tape v.drawn) (w:=re x0 v.tape v.drawn) r.ok A a9i (X.re _ _) _ _ _ _ h0s;have hn:=CP (below:=[]) tw (r.lA v.tape v.drawn) ab ad h1 (λi _=>rfl);have e0:=(r.aX _ (aL r.heap 0)).1;have av:m.mode=.run:=by rw[e0];simp[aO,ab,dZ]
 have ae:∀i∈m.todo,cZ T.globals.size i=true:=λi hi=>by rw[e0]at hi;simp only[aO,eS]at hi;obtain⟨i0,h3,rfl⟩:=hi;exact ZN i0 (r.ok.items i0 h3)
 let ⟨P,a,t,n,rg,x,C,hq,hF',hG,_,hh,hc⟩:=uM (main:=main) tw l cL h0s R2;have ao:∀f1 c1,rg=am f1 c1->∃p c2,stepG ⟨T,F'⟩ main (am rd []) v=.go (am p c2) t n/\uc ⟨T,F'⟩ S [] m rd f1 c1 p c2:=λf1 c1 e=>Ff aq DR av ae J hn (by rw[hq,e]);obtain⟨aP,bp,e,O⟩|⟨q,ap,k,ba,bs,bw,H,br,bb,g,e2,e,ha,O⟩:=hc
 .let ⟨p,c2,hs,ht⟩:=ao _ _ e;refine⟨P,a,t,n,p,c2,x,C,hs,hF',hG,hh,?_⟩;have hr:=(O.aX _ (aL O.heap 0)).2;have bc:=(O.aX _ (aL O.heap 0)).1;obtain⟨rfl,rfl,d,_,k2⟩|⟨rfl,⟨q,ap,f,hq⟩,bx,rfl,rfl,hx⟩:=ht
  .have bd:N=[]:=by simpa using hr.symm
   subst bd;obtain⟨g,_,d0,k0,_⟩|⟨_,_,_,_,g,_⟩:=I
   .have e3:=fS (b:=[]) g;exact .inl ⟨e3,rfl,f0,aP,O,d0,d,k0,k2⟩
   .simp at g
  .have g:f0.fn=q/\f0.kind=.normal/\f0.roundOf=none:=by
    rw[bc]at f;have g:=congrArg Frame.fn f;have e2:=congrArg Frame.kind f;have e3:=congrArg Frame.roundOf f;refine⟨g,e2,?_⟩;simp only[aO,Frame.enter]at e3;cases hx:f0.roundOf with
    |none=>rfl
    |some z=>rw[hx]at e3;simp at e3
   obtain⟨_,e4,_⟩|⟨e5,_,_,e6,e7,bl⟩:=I
   .have e4:=fS (b:=[]) e4;rw[e4]at hr;simp at hr
   .have e6:=fS (b:=[fr]) e6;have e7:=fS (b:=[fr0]) e7;subst e6 e7 e5;exact .inr ⟨m,q,hq,g.1,g.2.1,g.2.2,rfl,rfl,rfl,bl,hx,O⟩
 .exfalso;obtain⟨p,c2,hs,ht⟩:=ao _ _ e;obtain⟨q1,_,_⟩|⟨_,⟨q',bn,f,bo⟩,_⟩:=ht
  .cases q1
  .have:q=q':=congrArg Frame.fn f;subst this;exact hE q bo bb.1
end
end Go.Mir
end
section
namespace Go.Mir
open Go.Conc
section
variable{P:aA}{a b:ah}{cs:List ah}{v:aa}{main:Bool}{ops:Array Oper}{j:Nat}{m:List Nat}{k:List Item}{o:Oper}{S:List Nat}
def GC(c:a.mode=.run)(d:a.roundOf=none)(e:a.todo=.inRegion ops (j::m)::k)(f:ops[j]?=some o)(g:o.guard=none):stepG P main (am a cs) v=stepG.apply P true a cs none (execOp a.eval o) v:=by rw[ij c];unfold stepG.exec;simp_all[Region.wanted,stepG.oper,Frame.oper?]
def xV(d:a.mode=.run)(c:a.roundOf=none)(e:a.todo=.inRegion ops (j::m)::k)(f:ops[j]?=some o)(g:o.guard=none)(h:a.kind=.normal){y w es}(i:(execOp a.eval o).runT P v #[]=(.ok (.value y) w,es)):stepG P main (am a cs) v=.go (am (a.finish y) cs) w (seen P a.fn es):=by rw[GC d c e f g];simp_all[stepG.apply,GStep.after,am]
def Tp(p:a.mode=.run)(e:a.roundOf=none)(s:a.defers=[])(t:a.kind=.normal)(x:a.todo=.inRegion ops (j::m)::k)(z:ops[j]?=some o)(A:o.guard=none)(l:t9 ((execOp a.eval o).runT P v #[]).1)(f:∀y i,((execOp a.eval o).runT P v #[]).1≠.ok y i){g w es}(h:stepG P main (am a cs) v=.go g w es):∃d,g=am d cs/\(∃c,d.mode=.panicking c)/\d.defers=[]/\d.kind=.normal:=by
 rw[GC p e x z A]at h;rcases n:(execOp a.eval o).runT P v #[]with⟨r,B⟩;rw[n]at l f;unfold stepG.apply at h;simp only[n,if_true]at h;cases r with
 |ok y i=>simp_all
 |halt q i=>
  cases q<;>first|exact l.elim|skip
  simp only[GStep.after]at h;cases h;refine⟨_,rfl,?_,?_,?_⟩<;>(unfold Frame.raise;split)
  all_goals first|exact⟨_,rfl⟩|exact s|exact t|simp_all
def DF.odd(D:DF S a b)(f:a.todo=.inRegion ops (j::m)::k){d:Nat}(p:(ops[j]?).bind (·.dst)=some d)(l:S.contains d=true){x y}(r:∀t,x≠.bool t)(s:∀t,y≠.bool t):DF S (a.finish x) (b.finish y):=by
 have q:b.todo=.inRegion ops (j::m)::k:=by rw[D.rest];exact f
 have c:=D.items (.inRegion ops (j::m)) (by rw[f];grind);have g:∀i∈Item.inRegion ops m::k,gh S i=true:=λi n=>by
  obtain rfl|n:=dj.1 n
  .exact c
  .exact D.items i (by rw[f];simp_all)
 simp[Frame.finish,f,q,p];refine⟨by rw[D.rest],by simp[D.size],λi c=>?_,g,D.round,D.own,D.sub,λi c t=>?_⟩
 .have h: ¬d=i:=λe=>by rw[e,c]at l;cases l
  simp[js,if_neg h,D.same i c]
 .have w:=D.nb i c t
  grind
end
section
variable{T:Tables}{F F':Array Func}{E:bW->Prop}{Z:Nat->Prop}{K:Nat->Obj}{D:Nat->Prop}{ai:Nat->Nat}{u v u1:aa}{fr fr0 fr1 rf rd:ah}{gs1:List ah}{es:Array aT}{main:Bool}{S:List Nat}{R:dF}
theorem de.finish(e:de T Z K [] D ai u v fr0 [] rf [])(τ d){y}(h:∀f,al f y=y):de T Z K [] D ai (re u τ d) v (fr0.finish y) [] (rf.finish y) []:=by obtain⟨x,g,R⟩:=e;refine⟨re x τ d,g.re τ d,R.heap.same rfl rfl,R.os,R.low,R.all,R.ok.finish y,R.bQ,λf c=>⟨?_,(R.aX f c).2⟩⟩;have:=oV f fr0 y;simp_all;rw[(R.aX f c).1,this]
def Tk{f}(e:rf=aO f fr0){x k i}(h:fr0.eval x=.int k i):rf.eval x=.int k i:=by
 subst e;cases x with
 |tmp t=>
  simp[Frame.eval,aO]at h⊢;cases c:fr0.tmps[t]? with
  |none=>rw[c]at h;simp_all
  |some y=>rw[c]at h;simp_all
 |_=>exact h
theorem dF.In.finish(h:R.In fr){ops j m k}(f:fr.todo=.inRegion ops (j::m)::k){d:Nat}(g:(ops[j]?).bind (·.dst)=some d)(c:d≠iI){y}(l:R.tZ y)(n:d<fr.tmps.size):R.In (fr.finish y):=by
 simp[Frame.finish,f,g];refine⟨?_,λa i=>?_⟩
 .simp[js,if_neg c];exact h.row
 .simp[js];by_cases e:d=a
  .simp_all
  .rw[if_neg e];exact h.ue a i
def a9z{fr:ah}{i:Nat}{x}(h:fr.tmps[i]?=some x):fr.eval (.tmp i)=x:=by simp[Frame.eval,h]
def ZG(aq:Twin T F F (λ_=>False))(ar:wG S fr)(au:∀o,kg S o=true->wH R S T o)(av:S.contains iI=true)(bA:dB.contains iI=false)(Rl:de T Z K [] D ai u v fr0 [] rf [])(p:DF S fr fr0)(z:DF S rf rd)(hm:fr.mode=.run)(M:fr.roundOf=none)(Y:R.In fr)(IR:R.In rd)(ab:∀a,dB.contains a=true->rd.tmps[a]?=fr.tmps[a]?)(OG:R.On u)(OR:R.On v)(h:stepG ⟨T,F⟩ true (am fr ([]++[ay ⟨T,F⟩])) (re u v.tape v.drawn)=.go (am fr1 (gs1++[ay ⟨T,F⟩])) u1 es):(gs1=[]/\(∃c,fr1.mode=.panicking c)/\fr1.defers=[]/\fr1.kind=.normal)\/∃(N:ah) (A:Array aT),stepG ⟨T,F'⟩ main (am rd []) v=.go (am N []) v A/\(∀e∈A,∃i,i<R.n/\e=⟨.cell (R.at i),false,false⟩)/\gs1=[]/\∃g B,de T Z K [] D ai u1 v g [] B []/\DF S fr1 g/\DF S B N/\R.In fr1/\R.In N/\∀a,dB.contains a=true->N.tmps[a]?=fr1.tmps[a]? :=by
 obtain⟨ops,j,m,k,o,t,J,hp⟩:=ar;have hg:o.guard=none:=by simp only[kg,eO,Option.isNone_iff_eq_none]at hp;exact hp.1
 have R2:=Rl;obtain⟨x0,bB,R0⟩:=Rl;have aP:=pT (bB.re v.tape v.drawn) (R0.lA v.tape v.drawn).all;have ba:bJ T.globals.size fr:=R0.ok.of p;have bC:=CP (below:=[]) (trap:=ay ⟨T,F⟩) aq (Kz (cs:=[]) (gs:=[]) (w:=re u v.tape v.drawn) aP ba (λx hx=>by cases hx)) hm M h (λi _=>rfl);have bb:ie T.globals.size o.op=true:=by have ad:=ba.items (.inRegion ops (j::m)) (by rw[t];exact jg);simp only[cZ]at ad;simp at ad;obtain⟨q,hq,rfl⟩:=fT.1 (ou J);exact ad q hq
 have hn:=bC ops j m k o t J bb (by simp[J,Region.wanted,hg]);have O:fr.defers=[]/\fr.kind=.normal:=p.own;have e0:=(R0.aX _ (aL R0.heap 0)).1;have bc:rd.mode=.run:=by
  rw[z.rest];show rf.mode=.run;rw[e0];have:fr0.mode=.run:=by rw[p.rest];exact hm
  simp[aO,this,dZ]
 have X:rd.roundOf=none:=by rw[z.rest];exact z.round
 have bd:rd.kind=.normal:=by rw[z.rest];exact z.own.2
 let ⟨kr,htr⟩:∃kr,rf.todo=.inRegion ops (j::m)::kr:=by
  have e1:fr0.todo=fr.todo:=by rw[p.rest]
  rw[e0];simp only[aO,e1,t,dq,cg];exact⟨_,rfl⟩
 have C:rd.todo=.inRegion ops (j::m)::kr:=by rw[z.rest];exact htr
 have bl:fr.eval (.tmp iI)=R.V:=a9z Y.row;have bF:rd.eval (.tmp iI)=R.V:=a9z IR.row;have bn:(∀y w',((execOp fr.eval o).runT ⟨T,F⟩ (re u v.tape v.drawn) #[]).1≠.ok y w')->(gs1=[]/\(∃c,fr1.mode=.panicking c)/\fr1.defers=[]/\fr1.kind=.normal):=λae=>by obtain⟨f1,e1,e2,e3,e4⟩:=Tp hm M O.1 O.2 t J hg hn ae h;obtain⟨e5,e6⟩:=dG e1;have e6:=fS (b:=[]) e6;subst e5 e6;exact⟨rfl,e2,e3,e4⟩
 have ao:∀(y:aj) (d:Nat) (r:Array aT),(∀f:Nat->Nat,al f y=y)->o.dst=some d->S.contains d=false->(∀e∈r,∃i,i<R.n/\e=⟨.cell (R.at i),false,false⟩)->(execOp fr.eval o).runT ⟨T,F⟩ (re u v.tape v.drawn) #[]=(.ok (.value y) (re u v.tape v.drawn),r)->(execOp rd.eval o).runT ⟨T,F'⟩ v #[]=(.ok (.value y) v,r)->
   ∃(N:ah) (A:Array aT),stepG ⟨T,F'⟩ main (am rd []) v=.go (am N []) v A/\(∀e∈A,∃i,i<R.n/\e=⟨.cell (R.at i),false,false⟩)/\gs1=[]/\∃g B,de T Z K [] D ai u1 v g [] B []/\DF S fr1 g/\DF S B N/\R.In fr1/\R.In N/\∀a,dB.contains a=true->N.tmps[a]?=fr1.tmps[a]? :=by
  intro y d r hy hd s he Q U;have hs:=xV (main:=true) (cs:=[]++[ay ⟨T,F⟩]) hm M t J hg O.2 Q;rw[hs]at h;obtain⟨ap,rfl,_⟩:=GStep.go.inj h;let ⟨rfl,l⟩:=dG ap;have l:=fS (b:=[]) l.symm;subst l;have nx:∀{c:ah} {kk:List Item},c.todo=.inRegion ops (j::m)::kk->Nx S c:=λhc bP j' bG k' d' e1 e2=>by rw[hc]at e1;cases e1;rw[J]at e2;simp[hd]at e2;rw[<-e2];exact s
  have it:∀i∈rd.todo,gh S i=true:=by rw[z.rest];exact z.items
  have kG:=Kp.finish p.items (nx t) y;have kR:=Kp.finish it (nx C) y;exact⟨_,_,xV bc X C J hg bd U,λe hh=>he e (eM hh),rfl,fr0.finish y,rf.finish y,R2.finish _ _ hy,p.finish t y (nx t),z.finish htr y (nx htr),Y.keep av p.sub kG,IR.keep av p.sub kR,λa L=>by rw[kR a (p.sub a L),kG a (p.sub a L)];exact ab a L⟩
 have bI:∀a,dB.contains a=true->R.tZ (fr.eval (.tmp a)):=λa L=>by obtain⟨x,h1,h2⟩:=Y.ue a L;rw[a9z h1];exact h2
 have bo:∀a,dB.contains a=true->rd.eval (.tmp a)=fr.eval (.tmp a):=λa L=>by obtain⟨x,h1,_⟩:=Y.ue a L;rw[a9z h1,a9z ((ab a L).trans h1)]
 let ⟨d,xs,hd,hxs,hh⟩:=au o hp;have bp:R.On (re u v.tape v.drawn):=λi hi=>OG i hi;obtain ae|⟨y,r,hy,he,bN,H⟩:=hh F fr.eval (re u v.tape v.drawn) bl bI bp
 .exact .inl (bn ae)
 right;have bO:∀x∈xs,rd.eval x=fr.eval x:=λx hx=>by obtain⟨kk,i,br⟩:=bN x hx;rw[z.eval (hxs x hx),br];exact Tk e0 ((p.eval (hxs x hx)).trans br)
 have Q:=H F fr.eval (re u v.tape v.drawn) bl (λ_ _=>rfl) (λ_ _=>rfl) bp;have U:=H F' rd.eval v bF bo bO OR;obtain⟨s,hy⟩|⟨W,bs,bw⟩:=hy
 .exact ao y d r hy hd s he Q U
 .have hs:=xV (main:=true) (cs:=[]++[ay ⟨T,F⟩]) hm M t J hg O.2 Q;rw[hs]at h;obtain⟨ap,rfl,_⟩:=GStep.go.inj h;let ⟨rfl,l⟩:=dG ap;have l:=fS (b:=[]) l.symm;subst l;have s:=p.sub d W;have I:(ops[j]?).bind (·.dst)=some d:=by simp[J,hd]
  have bx:d≠iI:=λe=>by rw[e,bA]at W;cases W
  have lt:∀{c:ah},R.In c->d<c.tmps.size:=λhc=>by obtain⟨_,q,_⟩:=hc.ue d W;exact(bz.1 q).1
  refine⟨_,_,xV bc X C J hg bd U,λe hh=>he e (eM hh),rfl,fr0.finish undef,rf.finish undef,R2.finish _ _ (λf=>by simp[undef]),p.odd t I s bs (by simp[undef]),z.odd htr I s (by simp[undef]) bs,Y.finish t I bx bw (lt Y),IR.finish C I bx bw (lt IR),λa L=>?_⟩;simp[Frame.finish,t,C,I,js,lt Y,lt IR];split
  .rfl
  .exact ab a L
end
end Go.Mir
end
section
namespace Go.Mir
open Go.Conc
open Go.ConcN (sumTo)
section
variable{T:Tables}{F F':Array Func}{E:bW->Prop}
def rG(f:bW)(k:Tmp)(Rr:aj->aa->Prop)(fr:ah)(a:List ah)(w:aa):Prop:=
 a=[]/\fr.fn=f/\fr.mode=.returning/\fr.defers=[]/\fr.kind=.normal/\Rr (fr.tmps.getD k undef) w
def Shut(W:aa)(args:Array aj):Prop:=∀g:Nat->Nat,(∀a b,g a=g b->a=b)->(∀b,b<W.heap.size->g b=b)->args.map (al g)=args/\∀(b:Nat) o,W.heap[b]?=some o->bu g o=o
def ZK(a:Twin T F F (λ_=>False)){f:bW}{fn c}(b:F[f]?=some fn)(e:fn.body=some c):cF T.globals.size c=true:=by obtain⟨d,g,_,_,_,_,h⟩:=a.each f fn b;simp_all
def vM(a:Twin T F F (λ_=>False)){f fn c}(b:F[f]?=some fn)(e:fn.body=some c)(args):bJ T.globals.size (Frame.enter ⟨T,F⟩ f args .normal):=by refine⟨λi g=>?_,λd j=>by grind[Frame.enter],.inl rfl,λh=>by simp[Frame.enter]at h,λh=>by simp[Frame.enter],λc h=>by simp[Frame.enter]at h⟩;simp[Frame.enter,b,e]at g;subst g;exact ZK a b e
theorem Df{f fn c}(b:F[f]?=some fn)(d:fn.body=some c){args a}(g)(e:a=args.map (al g)):Frame.enter ⟨T,F⟩ f a .normal=aO g (Frame.enter ⟨T,F⟩ f args .normal):=by simp only[Frame.enter,aO,b,d,bY,kO,b0c,dq,lH,cg,dZ,mu];simp_all[undef]
def VD{W args}(e:Shut W args)(d:cA T.globals.size W):cU T.globals.size (λb=>b<W.heap.size) id W W:=by refine cU.mk (λb c=>c) (λb c=>c) (λa b _ _ h=>h) (λg f b c=>?_) λb o _ i=>d b o i;have:=(e g f.inj λb c=>f.on b c).2 b;simp_all
def GZ(j:Twin T F F (λ_=>False))(u:T.inits.idxOf? F.size=none){f:bW}{fn:Func}{c:Code}{k:Tmp}(v:F[f]?=some fn)(o:fn.body=some c)(D:fn.results=#[.tmp k]){args:Array aj}{U:aa}(p:T.globals.size+1<=U.heap.size)(q:Shut U args)(l:cA T.globals.size U){Rr:aj->aa->Prop}(y:∀x w τ d,Rr x (re w τ d)->Rr x w)(I:∀τ,Calls ⟨T,F⟩ f args (re U τ 0) fun| .returned x,z=>Rr x z|_,_=>False):Fin ⟨T,F⟩ (ay ⟨T,F⟩) (rG f k Rr) (Frame.enter ⟨T,F⟩ f args .normal) [] U:=by
 have L:a9y T (λb=>b<U.heap.size) U (Frame.enter ⟨T,F⟩ f args .normal) []:=
  ⟨VD q l,λb o=>bL o p,l,vM j v o args,λx J=>(by cases J),λg H=>⟨Df v o g ((q g H.inj λb o=>H.on b o).1).symm,rfl⟩⟩
 have A:∀r B w τ d,rG f k Rr r B (re w τ d)->rG f k Rr r B w:=λr B w τ d h=>⟨h.1,h.2.1,h.2.2.1,h.2.2.2.1,h.2.2.2.2.1,y _ _ _ _ h.2.2.2.2.2⟩;refine EH j u A L (λτ=>?_);obtain⟨e,z,r,P,a,s,i⟩:=I τ [ay ⟨T,F⟩];cases e with
 |panicked C=>grind
 |outgrown=>grind
 |returned x=>
  obtain⟨n,K⟩:=a;obtain⟨M,N,O,fn1,t,Q⟩:=i;refine⟨n,r,[],z,K,rfl,s,M,N,O,?_⟩;rw[s]at t;have t:F[f]?=some fn1:=t;rw[v]at t
  grind[results_tmp]
end
end Go.Mir
end
section
namespace Go.Mir
open Go Go.Conc
open Go.ConcN (sumTo upd sumTo_upd upd_ne upd_same)
section
variable{P:aA}{trap:ah}{Stop:ah->List ah->aa->Prop}{fr fr':ah}{gs m:List ah}{w w':aa}
theorem mc(w):re w w.tape w.drawn=w:=rfl
def Reach.trans{fr1 fr2 a gs1 b c e f w3}(h:Reach P trap Stop fr1 gs1 e fr2 b f)(k:Reach P trap Stop fr2 b f a c w3):Reach P trap Stop fr1 gs1 e a c w3:=by
 induction h with
 |refl=>exact k
 |step τ d g i _ j=>exact .step τ d g i (j k)
def uI(hF:Fin P trap Stop fr gs w)(f: ¬Stop fr gs w)(τ d):∃a b w1 c,stepG P true (am fr (gs++[trap])) (re w τ d)=.go (am a (b++[trap])) w1 c/\Fin P trap Stop a b w1:=by
 cases hF with
 |stop g=>simp_all
 |step i j k l h e=>exact⟨_,_,_,_,h τ d,e τ d⟩
def mH(d:∀fr j w,Stop fr j w->j=[])(e:gs≠[]){cs}(a:cs=gs++[trap]):∀{n} {g g'},aR P true n g g'->∀{fr},g=am fr cs->(∀i,i<=n->(aD P true i g).callers=cs)->Fin P trap Stop fr gs w->∃fr',g'=am fr' cs/\Fin P trap Stop fr' gs w/\Reach P trap Stop fr gs w fr' gs w:=by
 intro n g g' h;induction h with
 |nil=>intro fr c _ hF;exact⟨fr,c,hF,.refl⟩
 | @cons n g g1 s t c h l=>
  intro fr f o hF;subst f;have b: ¬Stop fr gs w:=λh=>e (d _ _ _ h);let ⟨fr1,gs1,w1,es,h1,h2⟩:=uI hF b w.tape w.drawn;rw[mc,<-a,c w]at h1;simp only[GStep.go.injEq]at h1;obtain⟨k,p,_⟩:=h1;subst p;have q:aD P true 1 (am fr cs)=g1:=by
   grind[aD]
  have u:g1.callers=cs:=by rw[<-q];grind
  have r:gs1=gs:=by
   grind[am,List.append_cancel_right]
  subst r;let ⟨fr',q1,q2,q3⟩:=l (k.trans (by rw[<-a])) (λi v=>by
   have:=o (i+1) a9h
   grind[aD]) h2
  exact⟨fr',q1,q2,.step w.tape w.drawn b (by rw[mc,<-a,c w,k,<-a]) q3⟩
def G7[ne:nu P](e:∀fr t w,Stop fr t w->t=[])(f:gs≠[])(hF:Fin P trap Stop fr gs w){s}(v:∀w,stepG P true (am fr (gs++[trap])) w=stepG.apply P true fr (gs++[trap]) none s w)(y:(fr.kind==.early)=false)(τ d)(z:∀r c,s.runT P (re w τ d) #[]=(r,c)->(∃x w1,r=.ok (.value x) w1)\/(∃h w1,r=.halt h w1/\fi h=true)):∃x w1 c,s.runT P (re w τ d) #[]=(.ok (.value x) w1,c)/\Fin P trap Stop (fr.finish x) gs w1/\Reach P trap Stop fr gs w (fr.finish x) gs w1:=by
 have b: ¬Stop fr gs w:=λh=>f (e _ _ _ h);obtain⟨g,i,w1,c,a,A⟩:=uI hF b τ d;rcases j:s.runT P (re w τ d) #[]with⟨r,k⟩;obtain⟨x,l,rfl⟩|⟨h,l,rfl,B⟩:=z _ _ j
 .have C:=a;rw[v]at a;unfold stepG.apply at a;simp only[j,if_true,y,d8,if_false,GStep.after,GStep.go.injEq]at a;obtain⟨D,E,_⟩:=a;subst E;have n:am (fr.finish x) (gs++[trap])=am g (i++[trap]):=D;obtain⟨F,p⟩:=dG n;have p:=fS p;subst F p;exact⟨x,l,k,rfl,A,.step τ d b C .refl⟩
 .exfalso;rw[v]at a;unfold stepG.apply at a;simp only[j,if_true,y,d8,if_false]at a;cases h<;>simp[fi]at B
  .rename_i u;cases u<;>first|(cases a;done)|(obtain⟨o,I,H,q⟩:=ne.early fr (gs++[trap]) none (by assumption) l;simp only[q,GStep.after]at a;cases a)
  .cases a
end
section
variable{P:aA}{SB:Nat->Prop}
def sS{g}{v:aa}{d}(J:g.status=.running){Q:Nat->aw->aa->Array aT->Prop}(K:∀c,∃k b es,stepG P true g (v.at c)=.go k b es/\v.heap.size<=b.heap.size/\(∀e∈es,EvM (cn SB) b.heap.size e)/\Q c k b es):∀gs t q sl c,gs[0]?=some g->Leavers P t gs q->dE (cn SB) v.heap.size t->Deaf t 0=d->∃N m a o s u k b es,runNT P N (crowd gs (v.at c) sl) t=(.next (crowd m b a),o)/\m.size=gs.size/\m[0]?=some k/\Leavers P o m s/\dE (cn SB) b.heap.size o/\Deaf o 0=deafBehind d es/\Q u k b es:=by
 have x:∀(M:Nat) (gs:Array aw) (t:bm) (q:Nat->Nat) (sl:Option (Nat×Nat)) (c:Nat),sumTo gs.size q<=M->gs[0]?=some g->Leavers P t gs q->dE (cn SB) v.heap.size t->Deaf t 0=d->
   ∃N m a o s u k b es,runNT P N (crowd gs (v.at c) sl) t=(.next (crowd m b a),o)/\m.size=gs.size/\m[0]?=some k/\Leavers P o m s/\dE (cn SB) b.heap.size o/\Deaf o 0=deafBehind d es/\Q u k b es:=by
  intro M;induction M with
  |zero=>
   intro gs t q sl c L h0 y C D;obtain⟨e,a,n⟩|⟨e,a,m,s,p,n,z,A,B,E,_,_⟩:=mN (P:=P) (v:=v.at c) (sl:=sl) y h0 J
   .have f:0<gs.size:=(bz.1 h0).1;let ⟨k,b,es,hgo,hz,he,hq⟩:=K e;have h:=runT_crowd_go (P:=P) (sl:=a) (i:=0) h0 (show stepG P (0==0) g (v.at e)=_ from hgo);exact⟨1,_,a,_,q,e,k,b,es,by simp only[runNT,n];rw[show((v.at c).at e)=v.at e from rfl,h],a9i,by simp[f],k9 y f,(C.mono hz).own he,by rw[Deaf_own,D],hq⟩
   .omega
  |succ M F=>
   intro gs t q sl c L h0 y C D;obtain⟨e,a,n⟩|⟨e,a,m,s,p,n,z,A,B,E,⟨i,Y,l⟩,_⟩:=mN (P:=P) (v:=v.at c) (sl:=sl) y h0 J
   .have f:0<gs.size:=(bz.1 h0).1;let ⟨k,b,es,hgo,hz,he,hq⟩:=K e;have h:=runT_crowd_go (P:=P) (sl:=a) (i:=0) h0 (show stepG P (0==0) g (v.at e)=_ from hgo);exact⟨1,_,a,_,q,e,k,b,es,by simp only[runNT,n];rw[show((v.at c).at e)=v.at e from rfl,h],a9i,by simp[f],k9 y f,(C.mono hz).own he,by rw[Deaf_own,D],hq⟩
   .obtain⟨N,H,I,o,O,u,k,b,es,R,S,T,U,V,W,X⟩:=F m (t++p) s a e a9h A B (C.mute (λr j=>(l r j).1) (λr j=>(l r j).2.1) (λr j=>(l r j).2.2 _)) (by rw[Deaf_other t (g':=i) a9h p (λr j=>(l r j).1)];exact D);exact⟨N+1,H,I,o,O,u,k,b,es,by simp[runNT,n];exact R,S.trans z,T,U,V,W,X⟩
 exact λgs t q sl c=>x _ gs t q sl c (az _)
def mj{a n g g'}(h:aR P true n g g')(v d):Row P a g v d g' v d:=by
 induction h with
 |nil=>exact .nil
 |cons b e _ f=>exact .cons #[] b (λc=>e _) (az _) a9i (by grind[deafBehind])
end
end Go.Mir
end
section
namespace Go.Mir
open Go.Conc
open Go.ConcN (sumTo)
structure wO (T:Tables) (P:aA) (Z:Nat->Prop) (K:Nat->Obj) (S:List Nat) (Rw:dF) (Od:Old) (D:Nat->Prop) (ai:Nat->Nat) (w:aa) (fr:ah) (gs:Array aw) (v:aa) (t:bm) (q:Nat->Nat) (SB:Nat->Prop):Prop where
 rel:∃fr0 rf rd,gs[0]?=some (am rd [])/\DF S fr fr0/\DF S rf rd/\de T Z K [] D ai w v fr0 [] rf []/\Rw.In fr/\Rw.In rd/\∀a,dB.contains a=true->rd.tmps[a]?=fr.tmps[a]?
 iZ:Leavers P t gs q
 trace:Past (cn SB) v.heap.size t
 apart:∀b,D b->¬SB (ai b)
 low:∀c,SB c->c<v.heap.size
 keep:Od.Kept D ai SB v
def JI{P main fr c w w' g es}(a:fr.mode≠.run)(b:fr.defers=[])(d:fr.kind=.normal)(h:stepG P main (am fr [c]) w=.go g w' es):g.callers=[]:=by
 rw[kw a]at h;unfold unwind at h;rw[b]at h
 grind[doReturn,GStep.after]
section
variable{T:Tables}{F F':Array Func}{E:bW->Prop}{Z:Nat->Prop}{K:Nat->Obj}{Od:Old}{S:List Nat}{Rw:dF}{Stop:ah->List ah->aa->Prop}{Post:aj->aa->Prop}
def WK(
         tw:Twin T F F' E) (s:Twin T F F (λ_=>False)) (cL:iv T F) (b2:my ⟨T,F'⟩) (bw:my ⟨T,F⟩) (hE:∀q,gZ.contains q=true->¬E q) (bx:∀o,kg S o=true->wH Rw S T o) (W:S.contains iI=true) (b3:dB.contains iI=false) (b4:∀x w,bj Z K x w->Rw.On w) (b5:∀D ai SB v,Od.Kept D ai SB v->Rw.On v/\∀i,i<Rw.n->¬SB Rw.b/\Rw.b<v.heap.size) (p:∀fr fs w,Stop fr fs w->fs=[]/\fr.mode=.returning) (b6:∀cs Od Stop,(∀fr fs w,Stop fr fs w->fs=[]/\fr.mode=.returning/\fr.defers=[]/\fr.kind=.normal)->wB T F F' E Z K cs Od Stop) (bA:∀fr w D ai gs v t q SB sl,Stop fr [] w->wO T ⟨T,F'⟩ Z K S Rw Od D ai w fr gs v t q SB->Ends ⟨T,F'⟩ Post (crowd gs v sl) t) {fr fs w} (hF:Fin ⟨T,F⟩ (ay ⟨T,F⟩) Stop fr fs w):∀fr2 w2,Reach ⟨T,F⟩ (ay ⟨T,F⟩) Stop fr fs w fr2 [] w2->∀D ai gs v t q SB sl,wO T ⟨T,F'⟩ Z K S Rw Od D ai w2 fr2 gs v t q SB->Ends ⟨T,F'⟩ Post (crowd gs v sl) t:=by
 induction hF with
 |stop V=>
  intro fr2 w2 hr;cases hr with
  |refl=>intro D ai gs v t q SB sl k;exact bA _ _ _ _ _ _ _ _ _ _ V k
  |step τ d hn=>exact absurd V hn
 | @step fr fs w nf ng nw ne h bB ih=>
  intro fr2 w2 hr;cases hr with
  |step τ d hn V hr=>rw[h τ d]at V;simp at V;obtain⟨hg,rfl,rfl⟩:=V;obtain⟨e1,e2⟩:=dG hg;have e2:=fS e2;subst e1 e2;exact ih τ d _ _ hr
  |refl=>
   have bC:∀(D:Nat->Prop) (ai:Nat->Nat) (gs:Array aw) (v:aa) (t:bm) (q:Nat->Nat) (SB:Nat->Prop) (sl l:Option (Nat×Nat)) (d:Nat),wO T ⟨T,F'⟩ Z K S Rw Od D ai w fr gs v t q SB->stepT ⟨T,F'⟩ (crowd gs v sl)=runT ⟨T,F'⟩ (crowd gs (v.at d) l) 0->Ends ⟨T,F'⟩ Post (crowd gs v sl) t:=by
    intro D ai gs v t q SB sl l d k bc;obtain⟨fr0,rf,rd,h0,u,DR,R,IG,IR,bn⟩:=k.rel;have R1:de T Z K [] D ai w (v.at d) fr0 [] rf []:=R.lA w.tape w.drawn d;have z:0<gs.size:=(bz.1 h0).1;have hd:=u.own.1;have bF:=u.round;have hk:=u.own.2;have hm:fr.mode=.run:=eQ λhm=>by have:=JI hm hd hk (h v.tape d);simp[am]at this
    by_cases bd:wG S fr
    .let ⟨hOv,hOs⟩:=b5 _ _ _ _ k.keep;have b7:Rw.On w:=by obtain⟨x,hx,_⟩:=R;exact b4 x w hx
     obtain⟨e1,⟨c,e2⟩,e3,e4⟩|⟨f2,bG,hq,b8,e1,X,bo,L,d0,d1,I0,I1,bI⟩:=ZG (main:=true) (F':=F') (v:=v.at d) s bd bx W b3 R1 u DR hm bF IG IR bn b7 hOv (h v.tape d)
     .exfalso;have Y:=bB v.tape d;rw[e1]at Y;cases Y with
      |stop V=>have:=(p _ _ _ V).2;rw[e2]at this;cases this
      |step ar bN bO b9 h3 _=>have:=JI (by rw[e2];simp) e3 e4 (h3 v.tape d);simp[am]at this
     .have A:=runT_crowd_go (P:=⟨T,F'⟩) (sl:=l) (i:=0) h0 (show stepG ⟨T,F'⟩ (0==0) (am rd []) (v.at d)=_ from hq);have hP:=k.trace.own (fn:=(am rd []).frame.fn) (pos:=(am rd []).frame.place) (es:=bG) λe he=>by obtain⟨i,hi,rfl⟩:=b8 e he;obtain⟨ca,cb⟩:=hOs i hi;refine⟨λx hx cc=>?_,a9i,a9i,cb⟩;simp only[MemAct.ofEvent,MemAct.touch?,cK]at hx;subst hx;exact absurd cc ca
      have B:((gs.map (woken ⟨T,F'⟩ (am rd []) (am f2 []) (v.at d))).setIfInBounds 0 (am f2 []))[0]?=some (am f2 []):=by simp[z]
      apply Ends.one (bc.trans A);have C:=ih v.tape d;rw[e1]at C;exact C _ _ .refl D ai _ (v.at d) _ q SB l ⟨⟨X,bo,f2,B,d0,d1,L,I0,I1,bI⟩,k9 k.iZ z,hP,k.apart,k.low,k.keep⟩
    let ⟨D',past',v',bG,f2,c2,x,x',hq,hF',hG,hh,hc⟩:=WL (main:=true) (v:=v.at d) tw s cL b2 bw hE R1 u DR hm bF bd (h v.tape d);have A:=runT_crowd_go (P:=⟨T,F'⟩) (sl:=l) (i:=0) h0 (show stepG ⟨T,F'⟩ (0==0) (am rd []) (v.at d)=_ from hq);have bp:=oG hG k.apart k.low;have au:v.heap.size<=v'.heap.size:=hG.size;have hP:=(k.trace.mono au).own (fn:=(am rd []).frame.fn) (pos:=(am rd []).frame.place) (oT hh hG bp);have bl:∀c,SB c->c<v'.heap.size:=λc hc=>bL (k.low c hc) au;have I:=Old.Kept.gone (v:=v.at d) k.keep hG;have B:((gs.map (woken ⟨T,F'⟩ (am rd []) (am f2 c2) v')).setIfInBounds 0 (am f2 c2))[0]?=some (am f2 c2):=by simp[z]
    apply Ends.one (bc.trans A);have C:=ih v.tape d;have Y:=bB v.tape d;obtain⟨e1,rfl,X,bo,L,d0,d2,k0,k2⟩|⟨cd,qf,ds,e3,e4,e5,e1,rfl,rfl,bP,bR,L⟩:=hc
    .rw[e1]at C;exact C _ _ .refl D' past' _ v' _ q SB l ⟨⟨X,bo,f2,B,d0,d2,⟨x',hF',L⟩,IG.keep W u.sub k0,IR.keep W u.sub k2,λa ha=>by rw[k2 a (u.sub a ha),k0 a (u.sub a ha)];exact bn a ha⟩,k9 k.iZ z,hP,bp,bl,I⟩
    .rw[e1]at C Y;have ce:bJ T.globals.size fr0:=L.bQ fr0 a9i;have cf:=TT (law:=fr) (f:=qf) (Z:=λa b c=>Reach ⟨T,F⟩ (ay ⟨T,F⟩) Stop (nf v.tape d) [fr] (nw v.tape d) a b c) s p hm hd (λ_ _ _ _ _ _ _ τ d hz ch V=>hz.trans (.step τ d ch V .refl)) Y [] rfl .refl L.ok (λx hx=>by cases hx) (pT hF' L.all) (λb hb=>by
      simp at hb;subst hb;exact⟨e3,e4,e5⟩)
     refine a2Q (cs:=[rd]) (Od:=⟨past',D',Od.J,Od.H,Od.w⟩) (Post:=Post) tw s cL (b6 _ _ _ λa b c hh=>⟨hh.1,hh.2.1,hh.2.2.1,hh.2.2.2.1⟩) ?_ cf _ _ _ .refl D' past' _ v' _ q SB l ⟨⟨f2,[rd],B,x',hF',L.heap,L.os,L.low,L.all,L.ok,λx hx=>(by cases hx),λf hf=>⟨(L.aX f hf).1,rfl⟩⟩,k9 k.iZ z,hP,bp,bl,⟨λb hb=>⟨hb,rfl⟩,I.2⟩⟩;intro ck dy w3 D3 ab cl O t3 q3 av co cp r;obtain⟨rfl,g2,g3,g4,cq,cr⟩:=cp;obtain⟨ad,bS,cu,x3,bT,R3⟩:=r.rel;have aP:=R3.aX _ (aL R3.heap 0);have bU:bS=[rd]:=by simpa using aP.2
     subst bU;have k2:ad.mode=.returning:=by rw[aP.1];simp[aO,g2,dZ]
     have k3:ad.defers=[]:=by rw[aP.1];simp[aO,g3]
     have k4:ad.kind=.normal:=by rw[aP.1];exact g4
     have cv:∀f,aQ D3 ab f->aQ D' past' f:=λf hf=>⟨λb hb=>by rw[hf.on b (r.keep.1 b hb).1];exact(r.keep.1 b hb).2,hf.inj⟩
     have RL:de T Z K [] D3 ab w3 O ck [fr0] ad [cd]:=⟨x3,bT,R3.heap,R3.os,R3.low,R3.all,R3.ok,λy hy=>(by simp at hy;rw[hy];exact ce),λf hf=>⟨(R3.aX f hf).1,by
      have e6:=(L.aX f (cv f hf)).2;simpa using e6⟩⟩
     cases cq with
     |stop V=>have:=(p _ _ _ V).1;cases this
     |step ar bN bO b9 h3 dl=>
      have cx:∀i∈rd.todo,gh S i=true:=by rw[DR.rest];exact DR.items
      have cy:Nx S rd:=by rw[DR.rest];exact bR
      let ⟨N,gs4,sl4,t4,q4,c4,g,v4,bV,hr4,hsz4,h04,hL4,hP4,hd4,hdf,D4,j,U,hz4,hk4,ba,ae,y4,x4,ao,R4,hg4,hI4,hng⟩:=sS (P:=⟨T,F'⟩) (SB:=av) (g:=am ad [rd]) (v:=O) (d:=0) rfl
       (Q:=λc g v4 es=>deafBehind 0 es=0/\∃D4 j,(∀b,D4 b->¬av (j b))/\O.heap.size<=v4.heap.size/\Old.Kept ⟨past',D',Od.J,Od.H,Od.w⟩ D4 j av v4/\∃ba ae y x4,bj Z K x4 (bO O.tape c)/\Rel T [] D4 j x4 v4 ba [] ae []/\g=am y []/\(DF S (ar O.tape c) ba/\DF S ae y/\Rw.In (ar O.tape c)/\Rw.In y/\∀a,dB.contains a=true->y.tmps[a]?=(ar O.tape c).tmps[a]?)/\bN O.tape c=[])
       (λc=>by
        have R5:=RL.lA w3.tape w3.drawn c;obtain⟨yg,cN,cS⟩:=J3 (c':=fr0) g2 g3 g4 (h3 O.tape c);obtain⟨br,bs⟩:=dG cN;have bs:=fS (b:=[]) bs;obtain⟨D4,j,v4,bV,rg,x,x',c0,ao,ap,_,c3,c5⟩:=uM (main:=true) (gs1:=[]) (v:=O.at c) tw s cL (cS [ay ⟨T,F⟩]) R5;obtain⟨y,c6,c7⟩:=J3 (c':=rd) k2 k3 k4 c0;have U:=oG ap r.apart r.low;have bb:=oT c3 ap U;have c8:=Old.Kept.gone (v:=O.at c) r.keep ap;refine⟨_,v4,bV,c7 [],ap.size,λe he=>⟨(bb e he).1,(bb e he).2.2.2⟩,deafBehind_still (λe he=>⟨(bb e he).2.1,(bb e he).2.2.1⟩) 0,D4,j,U,ap.size,c8,?_⟩;obtain⟨ae,dr,e4,R6⟩|⟨_,_,_,_,_,_,_,_,_,_,e4,_,_⟩:=c5
        .rw[c6]at e4;obtain⟨e5,e6⟩:=dG e4;subst e5 e6;have kG:=Kp.finish u.items bP yg;have kR:=Kp.finish cx cy y;exact⟨_,_,_,x',ao,R6,rfl,⟨by rw[br];exact u.fin yg bP,DR.fin y bR,by rw[br];exact IG.keep W u.sub kG,IR.keep W u.sub kR,λa ha=>by rw[br,kR a (u.sub a ha),kG a (u.sub a ha)];exact bn a ha⟩,bs⟩
        .cases e4) cl t3 q3 co O.drawn cu r.iZ (dE.of r.trace) r.trace.hears
      rw[hg4]at h04;have aq:=h3 O.tape c4;rw[hng]at aq;obtain⟨i1,i2,i3,i4,i5⟩:=hI4;refine Ends.many hr4 (C _ _ (cr.trans (.step O.tape c4 (λq=>(by have:=(p _ _ _ q).1;cases this)) aq .refl)) D4 j gs4 v4 t4 q4 av sl4 ⟨⟨ba,ae,y4,h04,i1,i2,⟨x4,ao,R4⟩,i3,i4,i5⟩,hL4,hP4.ai (hd4.trans hdf),U,λc hc=>bL (r.low c hc) hz4,⟨λb hb=>?_,hk4.2⟩⟩);have h1:=I.1 b hb;have h2:=hk4.1 b h1.1;exact⟨h2.1,h2.2.trans h1.2⟩
   have main:∀(M:Nat) (D:Nat->Prop) (ai:Nat->Nat) (gs:Array aw) (v:aa) (t:bm) (q:Nat->Nat) (SB:Nat->Prop) (sl:Option (Nat×Nat)),sumTo gs.size q<=M->wO T ⟨T,F'⟩ Z K S Rw Od D ai w fr gs v t q SB->Ends ⟨T,F'⟩ Post (crowd gs v sl) t:=by
    intro M;induction M with
    |zero=>
     intro D ai gs v t q SB sl hM k;obtain⟨fr0,rf,rd,h0,_⟩:=k.rel;obtain⟨d,l,p⟩|⟨d,l,bX,q',b0,p,au,B,b1,c9,_,_⟩:=mN (P:=⟨T,F'⟩) (v:=v) (sl:=sl) k.iZ h0 rfl
     .exact bC D ai gs v t q SB sl l d k p
     .omega
    |succ M dc=>
     intro D ai gs v t q SB sl hM k;obtain⟨fr0,rf,rd,h0,u,DR,R,hI⟩:=k.rel;obtain⟨d,l,p⟩|⟨d,l,bX,q',b0,p,au,B,b1,c9,_,df⟩:=mN (P:=⟨T,F'⟩) (v:=v) (sl:=sl) k.iZ h0 rfl
     .exact bC D ai gs v t q SB sl l d k p
     .exact Ends.one p (dc D ai bX (v.at d) (t++b0) q' SB l a9h ⟨⟨fr0,rf,rd,B,u,DR,R.lA w.tape w.drawn d,hI⟩,b1,df k.trace,k.apart,k.low,k.keep⟩)
   intro D ai gs v t q SB sl k;exact main _ D ai gs v t q SB sl (az _) k
end
end Go.Mir
end
section
namespace Go.Mir
open Go Go.Conc Go.ConcN
def jZ(P:aA)(Sh:Loc->Prop)(g:aw)(v:aa)(d:Nat)(Q:aw->aa->Nat->Prop):Prop:=
 ∀(f:Array aw) (t:bm) (q:Nat->Nat) (l:Option (Nat×Nat)) (c:Nat),f[0]?=some g->Leavers P t f q->dE Sh v.heap.size t->Deaf t 0=d->
  ∃N b h e n j i k,runNT P N (crowd f (v.at c) l) t=(.next (crowd b i h),e)/\b.size=f.size/\b[0]?=some j/\Leavers P e b n/\dE Sh i.heap.size e/\Deaf e 0=k/\(∀a,NoRelease a t->NoRelease a e)/\Q j i k
abbrev iQ(P SB):=jZ P (cn SB)
def EvQ(b:Loc->Prop)(B:Nat)(e:aT):Prop:=EvM b B e/\∀a,MemAct.ofEvent e≠.mark (.release a)
def CD{a t u}(h:NoRelease a t)(j:∀e∈u,e.act≠.mark (.release a)):NoRelease a (t++u):=by
 intro i k;obtain⟨e,l,f⟩:=gn.1 k;obtain⟨_,b⟩|⟨_,c⟩:=getElem?_append_cases l
 .exact h i (by rw[Trace.act?,b];simp[f])
 .exact j e c f
section
variable{P:aA}{Sh:Loc->Prop}{g g1:aw}{v v1:aa}{d d1:Nat}{Q R:aw->aa->Nat->Prop}
theorem qR:∀{N M} {m b} {t c} {r},runNT P N m t=(.next b,c)->runNT P M b c=r->runNT P (N+M) m t=r
 |0,M,m,b,t,c,r,a,e=>by simp only[runNT,b0N,Stepped.next.injEq]at a;rw[dC,a.1,a.2];exact e
 |N+1,M,m,b,t,c,r,a,e=>by
  rw[b0k];simp only[runNT]at a⊢;rcases f:stepT P m with⟨x,h⟩;rw[f]at a;cases x with
  |next i=>exact qR a e
  |ended o w=>simp at a
def uW(h:∀c,Q g (v.at c) d):jZ P Sh g v d Q:=λa t q b c h0 e f i=>⟨0,a,b,t,q,g,v.at c,d,rfl,rfl,h0,e,f,i,λ_ h=>h,h c⟩
def UH(h:jZ P Sh g v d R)(k:∀g1 v1 d1,R g1 v1 d1->jZ P Sh g1 v1 d1 Q):jZ P Sh g v d Q:=by intro A t q B c h0 C D E;obtain⟨N,b,e,F,q1,g1,v1,d1,H,I,f,i,j,l,n,J⟩:=h A t q B c h0 C D E;obtain⟨M,o,p,K,L,O,S,T,r,s,u,w,x,y,z,U⟩:=k g1 v1 d1 J b F q1 e v1.drawn f i j l;exact⟨N+M,o,p,K,L,O,S,T,qR H r,s.trans I,u,w,x,y,λa h=>z a (n a h),U⟩
def Z6{g}{v:aa}{d}(V:g.status=.running){Q:Nat->aw->aa->Array aT->Prop}(W:∀c,∃g1 v1 es,stepG P true g (v.at c)=.go g1 v1 es/\v.heap.size<=v1.heap.size/\(∀e∈es,EvQ Sh v1.heap.size e)/\Q c g1 v1 es):∀gs t q sl c,gs[0]?=some g->Leavers P t gs q->dE Sh v.heap.size t->Deaf t 0=d->∃N f j o x y g1 v1 es,runNT P N (crowd gs (v.at c) sl) t=(.next (crowd f v1 j),o)/\f.size=gs.size/\f[0]?=some g1/\Leavers P o f x/\dE Sh v1.heap.size o/\Deaf o 0=deafBehind d es/\(∀a,NoRelease a t->NoRelease a o)/\Q y g1 v1 es:=by
 have z:∀(M:Nat) (gs:Array aw) (t:bm) (q:Nat->Nat) (sl:Option (Nat×Nat)) (c:Nat),sumTo gs.size q<=M->gs[0]?=some g->Leavers P t gs q->dE Sh v.heap.size t->Deaf t 0=d->
   ∃N f j o x y g1 v1 es,runNT P N (crowd gs (v.at c) sl) t=(.next (crowd f v1 j),o)/\f.size=gs.size/\f[0]?=some g1/\Leavers P o f x/\dE Sh v1.heap.size o/\Deaf o 0=deafBehind d es/\(∀a,NoRelease a t->NoRelease a o)/\Q y g1 v1 es:=by
  intro M;induction M with
  |zero=>
   intro gs t q sl c X h0 A H I;obtain⟨e,j,p⟩|⟨e,j,f,x,s,p,B,C,D,J,_,_⟩:=mN (P:=P) (v:=v.at c) (sl:=sl) A h0 V
   .have k:0<gs.size:=(bz.1 h0).1;obtain⟨g1,v1,es,u,K,E,L⟩:=W e;have n:=runT_crowd_go (P:=P) (sl:=j) (i:=0) h0 (show stepG P (0==0) g (v.at e)=_ from u);exact⟨1,_,j,_,q,e,g1,v1,es,by simp only[runNT,p];rw[show((v.at c).at e)=v.at e from rfl,n],a9i,by simp[k],k9 A k,(H.mono K).own λe h=>(E e h).1,by rw[Deaf_own,I],λa F=>CD F λr b=>(by obtain⟨e,w,rfl⟩:=Go.Conc.mem_ofEvents b;exact(E e w).2 a),L⟩
   .omega
  |succ M O=>
   intro gs t q sl c X h0 A H I;obtain⟨e,j,p⟩|⟨e,j,f,x,s,p,B,C,D,J,⟨i,hi,l⟩,_⟩:=mN (P:=P) (v:=v.at c) (sl:=sl) A h0 V
   .have k:0<gs.size:=(bz.1 h0).1;obtain⟨g1,v1,es,u,K,E,L⟩:=W e;have n:=runT_crowd_go (P:=P) (sl:=j) (i:=0) h0 (show stepG P (0==0) g (v.at e)=_ from u);exact⟨1,_,j,_,q,e,g1,v1,es,by simp only[runNT,p];rw[show((v.at c).at e)=v.at e from rfl,n],a9i,by simp[k],k9 A k,(H.mono K).own λe h=>(E e h).1,by rw[Deaf_own,I],λa F=>CD F λr b=>(by obtain⟨e,w,rfl⟩:=Go.Conc.mem_ofEvents b;exact(E e w).2 a),L⟩
   .obtain⟨N,S,T,o,Y,y,g1,v1,es,Z,h1,h2,h3,h4,h5,U,h6⟩:=O f (t++s) x j e a9h C D (H.mute (λr b=>(l r b).1) (λr b=>(l r b).2.1) (λr b=>(l r b).2.2 _)) (by rw[Deaf_other t (g':=i) a9h s (λr b=>(l r b).1)];exact I);exact⟨N+1,S,T,o,Y,y,g1,v1,es,by simp only[runNT,p];exact Z,h1.trans B,h2,h3,h4,h5,λa F=>U a (CD F λr b e=>(by have:=(l r b).2.2 0;rw[e]at this;exact absurd this (lL _))),h6⟩
 exact λgs t q sl c=>z _ gs t q sl c (az _)
def ff(x:g.status=.running)(y:∀c,∃g1 v1 b,stepG P true g (v.at c)=.go g1 v1 b/\v.heap.size<=v1.heap.size/\(∀e∈b,EvQ Sh v1.heap.size e)/\jZ P Sh g1 v1 (deafBehind d b) Q):jZ P Sh g v d Q:=by intro z t q A c h0 B C D;obtain⟨N,f,i,E,F,Z,g1,v1,b,H,I,J,K,L,O,j,S⟩:=Z6 (Q:=λ_ g1 v1 b=>jZ P Sh g1 v1 (deafBehind d b) Q) x y z t q A c h0 B C D;obtain⟨M,k,l,T,U,V,W,X,n,o,p,r,s,u,w,Y⟩:=S f E F i v1.drawn J K L O;exact⟨N+M,k,l,T,U,V,W,X,qR H n,o.trans I,p,r,s,u,λa h=>w a (j a h),Y⟩
def ib{n}(h:aR P true n g g1)(k:∀c,jZ P Sh g1 (v.at c) d Q):jZ P Sh g v d Q:=by
 induction h generalizing v with
 |nil=>exact k v.drawn
 |cons a b _ e=>exact ff a λc=>⟨_,_,#[],b _,az _,a9i,e λc=>k c⟩
end
def a0o{S b B t}(h:Past S B t)(c:∀l,S l->b l):Past b B t:=⟨h.clean,λi a e f=>(h.known i a e f).imp id λx=>⟨c _ x.1,x.2⟩,h.over,h.hears,h.seen⟩
end Go.Mir
end
section
namespace Go.Mir
open Go
section
variable{f g:Nat->Nat}
theorem JY(x):jK f (jK g x)=jK (λb=>f (g b)) x:=by cases x<;>rfl
theorem sL{α:Type}{a:Array α}{p q r:α->α}(h:∀x∈a,p (q x)=r x):(a.map q).map p=a.map r:=by rw[b0g];simp_all
theorem qJ:∀v,al f (al g v)=al (λb=>f (g b)) v
 | .pointer a=>by cases a<;>simp[aG]
 | .slice a _ _=>by cases a<;>simp[aG]
 | .map r=>by cases r<;>simp
 | .chan r=>by cases r<;>simp
 | .func e a b=>by rw[mg,mg,mg,JY,sL λx c=>qJ x,sL λx c=>qJ x]
 | .iface t v=>by rw[ks,ks,ks,qJ v]
 | .agg d=>by rw[iJ,iJ,iJ,sL λx c=>qJ x]
 | .tuple d=>by rw[mh,mh,mh,sL λx c=>qJ x]
 | .bool _=>a9i
 | .int _ _=>a9i
 | .float _ _=>a9i
 | .complex _ _ _=>a9i
 | .string _=>a9i
 | .nilFunc=>a9i
 | .nilIface=>a9i
termination_by v=>SizeOf.sizeOf v
theorem sZ(a:Array aj):(a.map (al g)).map (al f)=a.map (al λb=>f (g b)):=sL λx _=>qJ x
theorem a1E(t):ja f (ja g t)=ja (λb=>f (g b)) t:=by
 cases t<;>first|rfl|skip
 grind[ja,JY,sZ]
def JX(d):dv f (dv g d)=dv (λb=>f (g b)) d:=by grind[dv,a1E,sZ]
theorem a1B(e):qF f (qF g e)=qF (λb=>f (g b)) e:=by grind[qF,qJ]
theorem a1A(l):pj f (pj g l)=pj (λb=>f (g b)) l:=by grind[pj,sZ]
theorem a1D(o):bu f (bu g o)=bu (λb=>f (g b)) o:=by
 cases o with
 |cells c e z=>grind[bu,sZ]
 |pending c e=>grind[bu,sZ]
 |view a t=>rfl
 |number a l=>rfl
 |map i c=>grind[bu,sL,a1B]
 |chan a b c d e t=>grind[bu,sZ]
 |stringIter s p=>rfl
 |mapIter m a b c=>cases m<;>rfl
 |loop l=>grind[bu,a1A]
 |deferred h=>
  cases h with
  |none=>rfl
  |some j=>simp[bu,JX]
 |coro p=>rfl
 |finalizers k r=>simp[bu,JX]
end
def ZP{f}(t):fI (ja f t)=fI t:=by cases t<;>rfl
def ZO{G f o}(h:ee G o):ee G (bu f o):=by
 cases o with
 |loop l=>exact h
 |deferred b=>
  cases b with
  |none=>trivial
  |some a=>have h:∀d∈a,fI d.target=true:=h;show∀d∈a.map (dv f),fI d.target=true;intro d c;obtain⟨e,h0,rfl⟩:=eS.1 c;show fI (ja f e.target)=true;rw[ZP];simp_all
 |_=>trivial
def a4T{f o}(h:thin o):thin (bu f o):=by cases o<;>exact h
structure iA (G:Nat) (S:Nat->Prop) (v:aa):Prop where
 aX:∀f:Nat->Nat,(∀a b,f a=f b->a=b)->(∀c,S c->f c=c)->∀c o,S c->v.heap[c]?=some o->bu f o=o
 ok:∀c o,S c->v.heap[c]?=some o->ee G o/\thin o
 lt:∀c,S c->c<v.heap.size
section
variable{G:Nat}{S:Nat->Prop}{v v':aa}{D:Nat->Prop}{ai:Nat->Nat}{w:aa}
def Kr(h:cU G D ai w v)(k:∀b o,D b->w.heap[b]?=some o->thin o):iA G (λc=> ∃b,D b/\ai b=c) v:=by
 have j:=aL h 0;generalize (ag D ai (v.heap.size+0))=g at j;have i:∀b o,D b->v.heap[ai b]?=some o->∃o0,w.heap[b]?=some o0/\o=bu g o0:=λb o d e=>by
  rw[h.obj g j b d]at e
  grind
 refine⟨λf n q c o ⟨b,d,hc⟩ e=>?_,λc o ⟨b,d,hc⟩ e=>?_,λc ⟨b,d,hc⟩=>by rw[<-hc];exact h.fQ b d⟩
 .subst hc;obtain⟨o0,h0,rfl⟩:=i b o d e;have p:aQ D ai λb=>f (g b):=⟨λb d=>by rw[j.on b d];simp_all,λa b l=>j.inj a b (n _ _ l)⟩;have:=h.obj _ p b d;rw[e,h0]at this
  grind[a1D]
 .subst hc;obtain⟨o0,h0,rfl⟩:=i b o d e;exact⟨ZO (h.ok b o0 d h0),a4T (k b o0 d h0)⟩
def iA.keep(h:iA G S v)(d:∀c,S c->v'.heap[c]?=v.heap[c]?):iA G S v':=by
 refine⟨λf e i c o a b=>h.aX f e i c o a (by rw[<-d c a];exact b),λc o a b=>h.ok c o a (by rw[<-d c a];exact b),λc a=>?_⟩;have j:=h.lt c a
 grind
end
section
variable{g f:Nat->Nat}
def sM{a:Array aj}{r s t:aj->aj}(h:a.map r=a.map s)(b:∀x∈a,r x=s x->t x=x):a.map t=a:=by refine jp λx c=>b x c ?_;simp_all
theorem qL(c:∀a b,g a=g b->a=b):∀v,al (λb=>g (f b)) v=al g v->al f v=v
 | .pointer a,h=>by
  cases a with
  |none=>simp
  |some a=>
   simp only[gU,bY,Value.pointer.injEq,cK,aG,Addr.mk.injEq]at h⊢;obtain⟨b,o,s⟩:=a
   grind
 | .slice a _ _,h=>by
  cases a with
  |none=>simp
  |some a=>
   simp only[fh,bY,Value.slice.injEq,cK,aG,Addr.mk.injEq]at h⊢;obtain⟨b,o,s⟩:=a
   grind
 | .map r,h=>by
  cases r with
  |none=>simp
  |some r=>
   grind[pk]
 | .chan r,h=>by
  cases r with
  |none=>simp
  |some r=>
   grind[qI]
 | .func e a b,h=>by
  simp only[mg,Value.func.injEq]at h⊢;refine⟨?_,sM h.2.1 λx d=>qL c x,sM h.2.2 λx d=>qL c x⟩;cases e<;>simp only[jK,Fn.yield.injEq]at h⊢
  grind
 | .iface t v,h=>by simp at h⊢;exact qL c v h
 | .agg i,h=>by simp only[iJ,Value.agg.injEq]at h⊢;exact sM h λx d=>qL c x
 | .tuple i,h=>by simp only[mh,Value.tuple.injEq]at h⊢;exact sM h λx d=>qL c x
 | .bool _,_=>a9i
 | .int _ _,_=>a9i
 | .float _ _,_=>a9i
 | .complex _ _ _,_=>a9i
 | .string _,_=>a9i
 | .nilFunc,_=>a9i
 | .nilIface,_=>a9i
termination_by v=>SizeOf.sizeOf v
end
def oL:Obj->Obj
 | .cells c e _=>.cells c e (0,c.size)
 | .view a t=>.view a t
 | .number a l=>.number a l
 |_=>dead
open Classical in
def bH(D:Nat->Prop)(y:aa):aa:={y with heap:=y.heap.mapIdx λb o=>if D b then o else .cells #[] 0}
open Classical in
def f8(D:Nat->Prop)(y:aa):aa:={y with heap:=y.heap.mapIdx λb o=>if D b then oL o else .cells #[] 0}
def Zc(D:Nat->Prop)(y:aa)(b:Nat):Prop:=D b/\b<y.heap.size
def Kc(y:aa)(b:Nat):Obj:=(y.heap[b]?).getD dead
section
variable{T:Tables}{F F':Array Func}{D:Nat->Prop}{ai:Nat->Nat}{y v:aa}
def ic{b}(h:D b):(bH D y).heap[b]?=y.heap[b]? :=by simp_all[bH]
theorem xi{b}(h:D b):(f8 D y).heap[b]?=(y.heap[b]?).map oL:=by simp[f8,h]
theorem vz{b}(h: ¬D b):(bH D y).heap[b]?=(y.heap[b]?).map λ_=>.cells #[] 0:=by simp[bH,h]
theorem EZ{b}(h: ¬D b):(f8 D y).heap[b]?=(y.heap[b]?).map λ_=>.cells #[] 0:=by simp[f8,h]
def PQ{G}(n:cA G y)(j:∀(b:Nat) o,y.heap[b]?=some o->thin o):bj (Zc D y) (Kc y) (bH D y) (f8 D y):=by
 refine⟨rfl,rfl,rfl,rfl,by simp[bH,f8],λb k=>?_,λb k=>?_,λb o h=>?_⟩
 .by_cases a:D b
  .rw[ic a,xi a];cases d:y.heap[b]? with
   |none=>rfl
   |some o=>exact absurd ⟨a,(bz.1 d).1⟩ k
  grind[vz,EZ]
 .obtain⟨a,l⟩:=k;obtain⟨o,d⟩:∃o,y.heap[b]?=some o:=⟨_,eY l⟩;have i:=j b o d;have p:Kc y b=o:=by simp[Kc,d]
  rw[ic a,xi a,d,p];cases o<;>first|exact .inr (.inr ⟨trivial,rfl,rfl⟩)|exact .inr (.inl ⟨trivial,rfl,rfl⟩)|exact i.elim|skip
  rename_i c e z;have i:z=(0,0):=i;subst i;exact .inl ⟨c,e,rfl,rfl,rfl⟩
 .by_cases a:D b
  .rw[ic a]at h
   grind
  .rw[vz a]at h;cases d:y.heap[b]? with
   |none=>rw[d]at h;cases h
   |some x=>rw[d]at h;cases h;rfl
def XM{G}(h:cU G D ai y v):cU G D ai (bH D y) v:=by exact cU.mk (λb a=>by simpa[bH]using h.lt b a) h.fQ h.inj (λf d b a=>by rw[ic a];exact h.obj f d b a) λb o a c=>by rw[ic a]at c;exact h.ok b o a c
def It{G}(h:cA G y):cA G (bH D y):=by
 intro b o a;by_cases c:D b
 .rw[ic c]at a;exact h b o a
 .rw[vz c]at a;cases d:y.heap[b]? with
  |none=>rw[d]at a;cases a
  |some x=>rw[d]at a;cases a;trivial
theorem T3{G}(h:cU G D ai y v){f}(k:aQ D id f){b}(e:D b){o}(l:y.heap[b]?=some o):bu f (oL o)=oL o:=by
 have d:=aL h 0;generalize (ag D ai (v.heap.size+0))=g at d;have i:aQ D ai (λb=>g (f b)):=⟨λb e=>by rw[k.on b e];exact d.on b e,λa b j=>k.inj _ _ (d.inj _ _ j)⟩;have c:=h.obj _ i b e;rw[h.obj _ d b e,l]at c;simp at c;cases o<;>first|rfl|skip
 .simp only[bu,Obj.cells.injEq,and_true,oL]at c⊢;exact sM c.symm λx q=>qL d.inj x
 .rename_i a t;obtain⟨n,p,as⟩:=a;simp[bu,aG,oL]at c⊢;exact(d.inj _ _ c).symm
 .rename_i a t;obtain⟨n,p,as⟩:=a;simp[bu,aG,oL]at c⊢;exact(d.inj _ _ c).symm
def T2{G}(h:cU G D ai y v){args rargs:Array aj}(i:∀g,aQ D ai g->rargs=args.map (al g)){f}(j:aQ D id f):args.map (al f)=args:=by have c:=aL h 0;generalize (ag D ai (v.heap.size+0))=g at c;have d:aQ D ai (λb=>g (f b)):=⟨λb k=>by rw[j.on b k];exact c.on b k,λa b e=>j.inj _ _ (c.inj _ _ e)⟩;have l:=i _ d;rw[i _ c]at l;exact sM l.symm λx n=>qL c.inj x
def PS{G}(h:cU G D ai y v){args rargs}(a:∀g,aQ D ai g->rargs=args.map (al g)):Shut (f8 D y) args:=by
 intro g c d;have e:aQ D id g:=⟨λb i=>d b (by simpa[f8]using h.lt b i),c⟩;refine⟨T2 h a e,λb o j=>?_⟩;by_cases k:D b
 all_goals grind[xi,T3,EZ,bu]
def a6u(h:Twin T F F (λ_=>False))(l:T.inits.idxOf? F.size=none){q:bW}{fn:Func}{c:Code}{k:Tmp}(u:F[q]?=some fn)(A:F'[q]?=some fn)(z:fn.body=some c)(j:fn.results=#[.tmp k])(n:cU T.globals.size D ai y v)(p:v.os=y.os)(i:∀b,b<T.globals.size+1->D b/\ai b=b)(a:cA T.globals.size y)(r:∀(b:Nat) o,y.heap[b]?=some o->thin o){args rargs:Array aj}(B:∀g,aQ D ai g->rargs=args.map (al g)){Rr:aj->aa->Prop}(s:∀x w τ d,Rr x (re w τ d)->Rr x w)(C:∀τ,Calls ⟨T,F⟩ q args (re (f8 D y) τ 0) fun| .returned x,w'=>Rr x w'|_,_=>False)(cs:List ah):Fin ⟨T,F⟩ (ay ⟨T,F⟩) (rG q k Rr) (Frame.enter ⟨T,F⟩ q args .normal) [] (f8 D y)/\de T (Zc D y) (Kc y) cs D ai (f8 D y) v (Frame.enter ⟨T,F⟩ q args .normal) [] (Frame.enter ⟨T,F'⟩ q rargs .normal) cs:=by
 have hF:=PQ (D:=D) a r;have t:T.globals.size+1<=(f8 D y).heap.size:=by
  have:=n.lt T.globals.size (i _ (lK _)).1
  grind[f8]
 refine⟨GZ h l u z j t (PS n B) (pT hF (It a)) s C,bH D y,hF,XM n,p,i,It a,vM h u z args,λx E=>(by cases E),λg H=>⟨?_,rfl⟩⟩;have e:Frame.enter ⟨T,F'⟩ q rargs .normal=Frame.enter ⟨T,F⟩ q rargs .normal:=by grind[Frame.enter]
 rw[e]
 grind[Df]
end
end Go.Mir
end
section
namespace Go.Mir
open Go.Conc
section
variable{T:Tables}{F F':Array Func}{E:bW->Prop}{m:Nat->Prop}{v:aa}{fr rd:ah}{S:List Nat}{Post:aj->aa->Prop}{f:bW}{fn:Func}{k:Tmp}
def a3g(h:iA T.globals.size m v):cU T.globals.size m id (bH m v) v:=
 cU.mk (λb d=>by have:=h.lt b d;simpa[bH]using this) (λb d=>h.lt b d) (λa b _ _ e=>e) (λg j b d=>by
  rw[ic d];cases i:v.heap[b]? with
  |none=>simp[i]
  |some o=>simp only[id,i,bY];rw[h.aX g j.inj (λc n=>j.on c n) b o d i]) λb o d l=>by
  rw[ic d]at l;exact(h.ok b o d l).1
def Ks(h:iA T.globals.size m v):∀(b:Nat) o,(bH m v).heap[b]?=some o->ee T.globals.size o/\thin o:=λb o a=>by
 by_cases c:m b
 .rw[ic c]at a;exact h.ok b o c a
 .rw[vz c]at a;obtain⟨_,_,rfl⟩:=gn.1 a;exact⟨trivial,rfl⟩
def WI(d:F'[f]?=some fn)(a:fn.results=#[.tmp k])(h:T.inits.idxOf? f=none){b}(e:b.fn=f)(g:b.mode=.returning)(i:b.defers=[])(j:b.kind=.normal)(c):stepG ⟨T,F'⟩ true (am b []) c=.ended (.done (b.tmps.getD k undef)) c #[]:=by rw[kw (by rw[g];simp)];unfold unwind;rw[i];dsimp only;rw[g];dsimp only;rw[e,d];dsimp only;have l:(results fn b.tmps).runT ⟨T,F'⟩ c #[]=(.ok (b.tmps.getD k undef) c,#[]):=jY (by rw[Sem.runT_fst,results_tmp a]) (events_results_tmp a _ _);rw[l];simp only[doReturn,j,e,h,GStep.after];simp[seen]
def WJ(c:F'[f]?=some fn)(b:fn.results=#[.tmp k])(i:T.inits.idxOf? f=none){a}(j:a.fn=f)(l:a.mode=.returning)(o:a.defers=[])(p:a.kind=.normal){gs t q SB sl}(h0:gs[0]?=some (am a []))(r:Leavers ⟨T,F'⟩ t gs q)(s:Past (cn SB) v.heap.size t)(u:∀d,Post (a.tmps.getD k undef) (v.at d)):Ends ⟨T,F'⟩ Post (crowd gs v sl) t:=by refine beside_ends (D:=λ_ _ w=> ∀e∈w,EvL (cn SB) v.heap.size e) (λ_ _ _ h=>h) (n:=0) h0 r s ?_;intro x g;obtain⟨d,rfl⟩:=g;exact⟨rfl,_,_,WI c b i j l o p _,a9i,u d⟩
end
def dF.cells(R:dF):Array aj:=(Array.range (R.off+R.n)).map λj=>.int .i64 (R.z (j - R.off))
def dF.cell(R:dF){i}(a:i<R.n):R.cells[R.off+i]?=some (.int .i64 (R.z i)):=by unfold dF.cells;rw[ip,eY a9l];simp
def dF.aX(R:dF)(f):R.cells.map (al f)=R.cells:=by unfold dF.cells;rw[b0g];congr 1;funext j;simp
def eL(R:dF)(z:Nat)(w:aa):aa:=if R.on=true then {w with heap:=w.heap.setIfInBounds R.b (.cells R.cells 0 (0,z))}else w
section
variable{R:dF}{z:Nat}{w:aa}
def nU:(eL R z w).heap.size=w.heap.size:=by unfold eL;split<;>simp
def nT{b}(h:R.on=true->b≠R.b):(eL R z w).heap[b]?=w.heap[b]? :=by
 unfold eL;split
 .rename_i a;simp only[js];rw[if_neg λe=>h a e.symm]
 .rfl
def sJ(a:R.on=true)(c:R.b<w.heap.size):(eL R z w).heap[R.b]?=some (.cells R.cells 0 (0,z)):=by unfold eL;rw[if_pos a];simp[c]
def WM(a:0<R.n->R.on=true)(c:R.on=true->R.b<w.heap.size):R.On (eL R z w):=λi d=>by have h:=a a9h;unfold World.cell? dF.at;rw[sJ h (c h)];exact R.cell d
end
section
variable{T:Tables}{F F':Array Func}{E:bW->Prop}{m:Nat->Prop}{v:aa}{fr fr0 rd:ah}{S:List Nat}{R:dF}{Post:aj->aa->Prop}{f:bW}{fn:Func}{k:Tmp}
def yY(R:dF)(m:Nat->Prop):Nat->Prop:=λb=>m b\/(R.on=true/\b=R.b)
def Cb(g:iA T.globals.size m v)(z):∀(b:Nat) o,(eL R z (bH m v)).heap[b]?=some o->ee T.globals.size o:=λb o a=>by
 by_cases d:R.on=true/\b=R.b
 .obtain⟨c,rfl⟩:=d;have h:R.b<(bH m v).heap.size:=by have:=(bz.1 a).1;rwa [nU]at this
  rw[sJ c h]at a;cases a;trivial
 .rw[nT λc e=>d ⟨c,e⟩]at a;exact(Ks g b o a).1
def TR(q:Twin T F F (λ_=>False))(B:T.inits.idxOf? F.size=none)(r:iA T.globals.size m v)(s:∀b,b<T.globals.size+1->m b)(l:R.on=true->R.b<v.heap.size/\¬m R.b){b:ah}{a cd}(J:b.fn=f/\b.kind=.normal)(K:bJ T.globals.size (b.at a [.code cd]))(t:∀g,aQ (yY R m) id g->b.at a [.code cd]=aO g (b.at a [.code cd])){Rr}(C:∀x w τ d,Rr x (re w τ d)->Rr x w)(M:∀τ,cd.wp ⟨T,F⟩ (λe y D=>e=.ret/\y.defers=[]/\Rr (y.tmps.getD k undef) D) a (re (eL R R.cells.size (bH m v)) τ 0)):Fin ⟨T,F⟩ (ay ⟨T,F⟩) (rG f k Rr) (b.at a [.code cd]) [] (eL R R.cells.size (bH m v)):=by
 have p:(bH m v).heap.size=v.heap.size:=by simp[bH]
 have L:a9y T (yY R m) (eL R R.cells.size (bH m v)) (b.at a [.code cd]) []:=by
  refine⟨cU.mk (λc i=>?_) (λc i=>?_) (λ_ _ _ _ e=>e) (λg A c i=>?_) λc o _ N=>Cb r _ c o N,λc i=>.inl (s c i),Cb r _,K,λx O=>(by cases O),λg A=>⟨t g A,rfl⟩⟩
  .rw[nU,p];obtain i|⟨j,rfl⟩:=i
   .exact r.lt c i
   .exact(l j).1
  .show c<_;rw[nU,p];obtain i|⟨j,rfl⟩:=i
   .exact r.lt c i
   .exact(l j).1
  .show(eL R R.cells.size (bH m v)).heap[c]?=_;obtain i|⟨j,rfl⟩:=i
   .have H:R.on=true->c≠R.b:=λj e=>(l j).2 (e▸i);rw[nT H,ic i];cases P:v.heap[c]? with
    |none=>rfl
    |some o=>rw[bY,r.aX g A.inj (λd I=>A.on d (.inl I)) c o i P]
   .rw[sJ j (by rw[p];exact(l j).1)];simp only[bY,bu,R.aX]
 refine EH q B (λfr U w τ d h=>⟨h.1,h.2.1,h.2.2.1,h.2.2.2.1,h.2.2.2.2.1,C _ _ _ _ h.2.2.2.2.2⟩) L λτ=>?_;obtain⟨e,y,D,⟨rfl,I,Q⟩,u,n,j⟩:=M τ b [] [ay ⟨T,F⟩];exact⟨n,{b.at y u with mode:=.returning},[],D,j,rfl,J.1,rfl,I,J.2,Q⟩
def a2z(tw:Twin T F F' E)(Q:Twin T F F (λ_=>False))(cL:iv T F)(aq:my ⟨T,F'⟩)(U:my ⟨T,F⟩)(hE:∀q,gZ.contains q=true->¬E q)(V:∀o,kg S o=true->wH R S T o)(ar:S.contains iI=true)(au:dB.contains iI=false)(av:∀Z K cs Od Stop,(∀fr fs w,Stop fr fs w->fs=[]/\fr.mode=.returning/\fr.defers=[]/\fr.kind=.normal)->wB T F F' E Z K cs Od Stop)(aP:F'[f]?=some fn)(W:fn.results=#[.tmp k])(M:T.inits.idxOf? f=none)(C:S.contains k=false)(hS:iA T.globals.size m v)(X:∀b,b<T.globals.size+1->m b){J:Nat->Prop}(Y:∀c,J c->c<v.heap.size/\¬m c)(H:0<R.n->R.on=true)(u:R.on=true->J R.b)(ba:R.On v)(DG:DF S fr fr0)(DR:DF S fr0 rd)(IG:R.In fr)(IR:R.In rd)(bb:∀a,dB.contains a=true->rd.tmps[a]?=fr.tmps[a]?)(ok:bJ T.globals.size fr0)(ab:∀g,aQ m id g->fr0=aO g fr0){t}(hP:Past (cn λ_=>False) v.heap.size t)(hL:Leavers ⟨T,F'⟩ t #[am rd []] λ_=>0){Rr}(ad:Fin ⟨T,F⟩ (ay ⟨T,F⟩) (rG f k Rr) fr [] (eL R R.cells.size (bH m v)))(I:∀x x' w y v' D l,Rr x w->(∀b,(R.on=true->b≠R.b)->w.heap[b]?=y.heap[b]?)->cU T.globals.size D l y v'->oo v'=oo v->(∀b,m b->D b/\l b=b)->(∀g,aQ D l g->x'=al g x)->(∀c,J c->v'.heap[c]?=v.heap[c]?)->Post x' v'):Ends ⟨T,F'⟩ Post (crowd #[am rd []] v none) t:=by
 have ae:(bH m v).heap.size=v.heap.size:=by simp[bH]
 have ao:∀b,m b->R.on=true->b≠R.b:=λb j r e=>(Y _ (u r)).2 (e▸j);have bc:bj (λb=>R.on=true/\b=R.b) (λ_=>.cells R.cells 0 (0,0)) (eL R 0 (bH m v)) (eL R R.cells.size (bH m v)):=by
  have e:∀z,(eL R z (bH m v)).tape=v.tape/\(eL R z (bH m v)).drawn=v.drawn/\(eL R z (bH m v)).os=v.os/\(eL R z (bH m v)).output=v.output:=λz=>by unfold eL;split<;>exact⟨rfl,rfl,rfl,rfl⟩
  refine⟨(e _).1.trans (e _).1.symm,(e _).2.1.trans (e _).2.1.symm,(e _).2.2.1.trans (e _).2.2.1.symm,(e _).2.2.2.trans (e _).2.2.2.symm,by rw[nU,nU],λb j=>?_,λb j=>?_,λb o L=>?_⟩
  .rw[nT λr e=>j ⟨r,e⟩,nT λr e=>j ⟨r,e⟩]
  .obtain⟨r,rfl⟩:=j;have hl:R.b<(bH m v).heap.size:=by rw[ae];exact(Y _ (u r)).1
   exact .inl ⟨R.cells,0,rfl,sJ r hl,sJ r hl⟩
  .by_cases j:R.on=true/\b=R.b
   .obtain⟨r,rfl⟩:=j;have hl:R.b<(bH m v).heap.size:=by rw[ae];exact(Y _ (u r)).1
    rw[sJ r hl]at L;cases L;rfl
   .rw[nT λr e=>j ⟨r,e⟩]at L;exact(Ks hS b o L).2
 have hH:cU T.globals.size m id (eL R 0 (bH m v)) v:=by
  have h:=a3g hS;refine cU.mk (λb j=>by rw[nU];exact h.lt b j) h.fQ h.inj (λg hg b j=>?_) λb o j L=>?_
  .rw[nT (ao b j)];exact h.obj g hg b j
  .rw[nT (ao b j)]at L;exact h.ok b o j L
 refine WK (Z:=λb=>R.on=true/\b=R.b) (K:=λ_=>.cells R.cells 0 (0,0)) (S:=S) (Rw:=R) (Od:=⟨id,m,J,λc=>v.heap[c]?,v⟩) (Post:=Post) tw Q cL aq U hE V ar au ?_ ?_ (λ_ _ _ h=>⟨h.1,h.2.2.1⟩) (λcs Od Stop=>av _ _ cs Od Stop) ?_ ad _ _ .refl m id _ v t (λ_=>0) (λ_=>False) none
  ⟨⟨fr0,fr0,rd,rfl,DG,DR,⟨eL R 0 (bH m v),bc,hH,?_,λb j=>⟨X b j,rfl⟩,Cb hS _,ok,λx hx=>(by cases hx),λg hg=>⟨ab g hg,rfl⟩⟩,IG,IR,bb⟩,hL,hP,λ_ _ h=>h,λ_ h=>h.elim,⟨λb j=>⟨j,rfl⟩,λc hc=>⟨⟨id,(Y c hc).1,λb j e=>(Y c hc).2 (e▸j)⟩,rfl⟩,rfl⟩⟩
 .intro x w hz i M;obtain⟨c,e,C,_,N⟩|⟨h,_⟩|⟨h,_⟩:=hz.old R.b ⟨H a9h,rfl⟩
  .cases C;unfold World.cell? dF.at;rw[N];exact R.cell M
  .exact h.elim
  .exact h.elim
 .intro D l SB v' C;refine⟨λi M=>?_,λi M=>?_⟩
  .have O:=(C.2.1 R.b (u (H a9h))).2;have N:=ba i M;unfold World.cell? dF.at at N⊢;rw[O];exact N
  .have O:=(C.2.1 R.b (u (H a9h))).1;exact⟨O.1,O.2.1⟩
 rotate_left
 .unfold eL;split<;>rfl
 intro ap w D l gs v2 t2 q SB sl hs s;obtain⟨_,O,N,h3,h4,hR⟩:=hs;obtain⟨p,rf,A,h0,D1,D2,⟨y,hy,R'⟩,_⟩:=s.rel;have e0:=R'.aX _ (aL R'.heap 0);have B:A.fn=f/\A.mode=.returning/\A.defers=[]/\A.kind=.normal:=by
  have P:p.fn=f/\p.mode=.returning/\p.defers=[]/\p.kind=.normal:=by rw[D1.rest];exact⟨O,N,h3,h4⟩
  rw[D2.rest,e0.1];exact⟨P.1,by simp[aO,P.2.1,dZ],by simp[aO,P.2.2.1],P.2.2.2⟩
 refine WJ aP W M B.1 B.2.1 B.2.2.1 B.2.2.2 h0 s.iZ s.trace λd=>I (ap.tmps.getD k undef) _ w y _ D l hR (λb j=>hy.other b λh=>j h.1 h.2) (R'.heap.same rfl rfl) ?_ s.keep.1 (λg hg=>?_) λc hc=>(s.keep.2.1 c hc).2
 .exact s.keep.2.2
 .have P:A.tmps.getD k undef=rf.tmps.getD k undef:=by simp only[io,D2.same k C]
  have e2:p.tmps.getD k undef=ap.tmps.getD k undef:=by simp only[io,D1.same k C]
  rw[P,(R'.aX g hg).1,<-e2];simp only[aO,io,ip];cases p.tmps[k]? <;>simp[undef]
end
end Go.Mir
end
section
namespace Go.Mir
open Go
inductive gF (ops:Array Oper):Array Bool->List Nat->Prop
 |nil {b:Array Bool} (h:Region.ready .any ops b=[]):gF ops b []
 |cons {b:Array Bool} {i:Nat} {l:List Nat} (h:i∈Region.ready .any ops b) (k:gF ops (b.setIfInBounds i true) l):gF ops b (i::l)
def ze{ops b i}(h:i∈Region.ready .any ops b):i<ops.size/\b.getD i true=false/\∀o,ops[i]?=some o->∀e∈o.after,Region.binds .any e=true->b.getD e.on false=true:=by simp only[Region.ready,b0y,pK,eO,pH]at h;refine⟨h.1,h.2.1,λo c e d f=>?_⟩;have a:=h.2.2;rw[c]at a;simp only[bY,kO,b0j]at a;have:=a e d;simpa[f]using this
def a2U(ops):∀a t b,b.size=ops.size->b.toList.count false<=a->gF ops b (Region.linearise.go .any ops a t b []):=by
 intro a;induction a with
 |zero=>
  intro t b g h;refine .nil (List.eq_nil_iff_forall_not_mem.2 λi f=>?_);obtain⟨l,d,_⟩:=ze f;have:false∈b.toList:=by
   have c:i<b.size:=a9h
   rw[io,eY c]at d;simp only[kO]at d;rw[<-d];exact pF.2 (b1k c)
  have:=List.count_pos_iff.2 this;omega
 |succ a n=>
  intro t b g h;simp only[Region.linearise.go];change gF ops b (match (Region.ready .any ops b)[t%(Region.ready .any ops b).length]? with
   |some i=>Region.linearise.go .any ops a (t / (Region.ready .any ops b).length) (b.setIfInBounds i true) [i]
   |none=> [].reverse)
  cases f:(Region.ready .any ops b)[t%(Region.ready .any ops b).length]? with
  |none=>
   refine .nil ?_;cases o:Region.ready .any ops b with
   |nil=>rfl
   |cons x j=>rw[o]at f;have c:t%(x::j).length<(x::j).length:=Nat.mod_lt _ a9i;simp at f;simp at c;omega
  |some i=>
   have k:=b0T f;obtain⟨l,d,_⟩:=ze k;have c:i<b.size:=a9h
   simp only[];rw[linearise_go_acc,List.reverse_singleton,List.singleton_append];refine .cons k (n _ _ (by simpa using g) ?_);rw[io,eY c]at d;simp only[kO]at d;have e:(b.setIfInBounds i true).toList=b.toList.set i true:=a9i
   rw[e,List.count_set (by simpa using c)];simp[d];have:false∈b.toList:=by rw[<-d];exact pF.2 (b1k c)
   have:=List.count_pos_iff.2 this;simp at h this⊢;omega
def Kj{ops}{P:aA}(h:P.follows .mixedOrders=true)(t):gF ops (Array.replicate ops.size false) (Region.schedule (P.follows .mixedOrders) ops t):=by simp only[Region.schedule,h,Bool.true_or,if_true];exact a2U ops ops.size t _ a9i a9i
end Go.Mir
end
section
namespace Go.Mir
open Go Go.Conc
section
variable{T:Tables}{F F':Array Func}{E:bW->Prop}{Z:Nat->Prop}{K:Nat->Obj}{cs:List ah}{D D':Nat->Prop}{ai ab:Nat->Nat}{w w' v v':aa}{fr fr' rf ad:ah}{gs ae rcs rcs':List ah}{main:Bool}
def de.frame(R:de T Z K cs D ai w v fr gs rf rcs)(d:v.heap.size<=v'.heap.size)(g:∀b,D b->v'.heap[ai b]?=v.heap[ai b]?)(a:v'.os=v.os):de T Z K cs D ai w v' fr gs rf rcs:=by obtain⟨x,hF,R⟩:=R;exact⟨x,hF,cU.mk R.heap.lt (λb c=>bL (R.heap.fQ b c) d) R.heap.inj (λf e b c=>by simp_all;exact R.heap.obj f e b c) R.heap.ok,by rw[a];exact R.os,R.low,R.all,R.ok,R.bQ,R.aX⟩
theorem bj.at{x u}(h:bj Z K x u){b}(d:Z b):x.heap[b]?=some (K b):=by
 obtain⟨c,e,f,a,_⟩|⟨_,a,_⟩|⟨_,a,_⟩:=h.old b d
 all_goals simp_all
def Ur(R:de T Z K cs D ai w v fr gs rf rcs)(c:de T Z K cs D' ab w' v' fr' ae ad rcs')(d:∀b,D b->D' b/\ab b=ai b){b}(i:Z b)(a:D b):v'.heap[ai b]?=v.heap[ai b]? :=by obtain⟨x,hF,R⟩:=R;obtain⟨k,f,c⟩:=c;have e:=aL c.heap 0;generalize (ag D' ab (v'.heap.size+0))=g at e;have h:aQ D ai g:=⟨λb a=>by rw[e.on b (d b a).1,(d b a).2],e.inj⟩;have j:=c.heap.obj g e b (d b a).1;rw[(d b a).2,f.at i]at j;rw[j,R.heap.obj g h b a,hF.at i]
def LY(H:Twin T F F' E)(i:Twin T F F (λ_=>False))(cL:iv T F)(r:∀q,E q->∃t s,F[q]?=some t/\t.body=some (.refuse s)){Stop}(I:∀fr gs w,Stop fr gs w->fr.mode=.returning){fr1 gs1 u1 es}(h:stepG ⟨T,F⟩ true (am fr (gs++[ay ⟨T,F⟩])) (re w v.tape v.drawn)=.go (am fr1 (gs1++[ay ⟨T,F⟩])) u1 es)(u:Fin ⟨T,F⟩ (ay ⟨T,F⟩) Stop fr1 gs1 u1)(R:de T Z K cs D ai w v fr gs rf rcs):∃(D':Nat->Prop) (ab:Nat->Nat) (v':aa) (a:Array aT) (ad:ah) (rcs':List ah),stepG ⟨T,F'⟩ main (am rf rcs) v=.go (am ad rcs') v' a/\de T Z K cs D' ab u1 v' fr1 gs1 ad rcs'/\(∀b,D b->D' b/\ab b=ai b)/\(∀b,D' b->D b\/v.heap.size<=ab b)/\v.heap.size<=v'.heap.size/\(∀c,c<v.heap.size->(∀b,D b->ai b=c->Z b)->v'.heap[c]?=v.heap[c]?)/\v'.os=v.os/\v'.tape=v.tape/\v'.output=v.output/\(∀e∈a,∃j∈es,j4 Z j/\∀f,aQ D' ab f->e=bK f j)/\(∀e∈a,∀m,e.loc=.mark m->qC m=true):=by
 have J:=R;let ⟨D',ab,v',a,rg,x,x',hq,hF',d,hM,hh,l⟩:=uM (main:=main) H i cL h R;obtain⟨ad,rcs',rfl,L⟩|⟨q,y,k,n,M,N,O,z,V,W,X,_,_,_⟩:=l
 .have A:de T Z K cs D' ab u1 v' fr1 gs1 ad rcs':=⟨x',hF',L⟩;refine⟨D',ab,v',a,ad,rcs',hq,A,d.more,λb g=>?_,d.size,λc l P=>?_,d.os,d.tape,d.output,λe B=>?_,λe B=>?_⟩
  .rcases d.new b g with h|h
   all_goals simp_all
  .by_cases hex:∃b,D b/\ai b=c
   .obtain⟨b,g,rfl⟩:=hex;exact Ur J A d.more (P b g rfl) g
   .exact d.frame c l λb g o=>hex ⟨b,g,o⟩
  .grind[Bq]
  .obtain⟨j,h0,Q⟩:=Bq hh d e B;have:=d.qu j h0;have S:=Q _ (aL hh 0);rw[S];obtain⟨p,wr,Y⟩:=j;intro m C;cases p<;>simp only[bK,cH,reduceCtorEq]at C;rename_i U;have h0:=this _ rfl;cases C;cases U<;>first|rfl|cases h0
 grind[a9F]
end
end Go.Mir
end
end
