import Derived.Test.YtdnpeefnobjfaaaGreatDoorK19
import Derived.Test.YtdnpeefnobjfaaaGreatDoorK39
import Derived.Test.YtdnpeefnobjfaaaGreatDoorK45
set_option maxRecDepth 100000
set_option maxHeartbeats 4000000
set_option linter.all false
section
namespace Go.Mir
open Go Go.Conc
section
variable{P:aA}{Stop:ah->List ah->aa->Prop}
def a4i(c:P.inits.idxOf? P.funcs.size=none){fr}(f:fr.mode=.returning)(i:fr.defers=[])(g:fr.kind=.normal):∀{n} {fr'} {b} {w w'},runN P n (lone fr [ay P] w)=.next (lone fr' b w')->b.length<=1:=by
 intro n fr' b w w' h;cases n with
 |zero=>simp only[runN,Stepped.next.injEq]at h;obtain⟨_,rfl,_⟩:=nV h;simp
 |succ n=>
  simp only[runN]at h;have d:(∃x a es,stepG P true (am fr [ay P]) w=.go (am ((ay P).finish x) []) a es)\/∃o a es,stepG P true (am fr [ay P]) w=.ended o a es:=by
   rw[kw (by rw[f];simp)];unfold unwind;rw[i];dsimp only;rw[f];dsimp only;cases p:P.funcs[fr.fn]? with
   |none=>dsimp only;simp only[doReturn,g];exact .inl ⟨_,_,_,rfl⟩
   |some j=>
    dsimp only;rcases q:(results j fr.tmps).runT P w #[]with⟨r,es⟩;cases r with
    |ok v a=>dsimp only;simp only[doReturn,g,GStep.after];exact .inl ⟨v,a,_,rfl⟩
    |halt h a=>cases h<;>exact .inr ⟨_,_,_,rfl⟩
  obtain⟨x,a,es,e⟩|⟨o,a,es,e⟩:=d
  .rw[vp e]at h;dsimp only at h;cases n with
   |zero=>simp only[runN,Stepped.next.injEq]at h;obtain⟨_,rfl,_⟩:=nV h;simp
   |succ n=>obtain⟨o,s,k,l⟩:=C5 (w:=a) c (t:=(ay P).finish x) (.inr (.inl ⟨x,rfl⟩));simp only[runN]at h;rw[qp l]at h;cases h
  .rw[qp e]at h;cases h
def TS{trap fr gs w}(a: ¬Stop fr gs w)(h:Fin P trap Stop fr gs w)(τ d):Fin P trap Stop fr gs (re w τ d):=by
 cases h with
 |stop b=>exact absurd b a
 |step c e f g h i=>exact .step c e f g h i
def Reach.first{trap fr fr2 gs a w w2}(h:Reach P trap Stop fr gs w fr2 a w2):a=gs\/∃τ d b c e f,¬Stop fr gs w/\stepG P true (am fr (gs++[trap])) (re w τ d)=.go (am b (c++[trap])) e f/\Reach P trap Stop b c e fr2 a w2:=by
 cases h with
 |refl=>exact .inl rfl
 |step τ d g i j=>exact .inr ⟨τ,d,_,_,_,_,g,i,j⟩
def TQ(c:P.inits.idxOf? P.funcs.size=none)(d:∀fr g w,Stop fr g w->g=[]/\fr.mode=.returning/\fr.defers=[]/\fr.kind=.normal):∀{n} {fr fr'} {gs a} {w w'},a≠[]->Fin P (ay P) Stop fr gs w->runN P n (lone fr (gs++[ay P]) w)=.next (lone fr' (a++[ay P]) w')->Fin P (ay P) Stop fr' a w'/\Reach P (ay P) Stop fr gs w fr' a w':=by
 intro n;induction n with
 |zero=>intro fr fr' gs a w w' _ hF h;simp only[runN,Stepped.next.injEq]at h;obtain⟨rfl,i,rfl⟩:=nV h;have:=fS i;subst this;exact⟨hF,.refl⟩
 |succ n j=>
  intro fr fr' gs a w w' b hF h;by_cases e:Stop fr gs w
  .exfalso;obtain⟨rfl,k,l,o⟩:=d _ _ _ e;have:=a4i c k l o h;rw[iN]at this;have:a.length≠0:=λh=>b (gj h);simp only[b1I]at*;omega
  .obtain⟨p,q,t,u,f,r⟩:=uI hF e w.tape w.drawn;rw[mc]at f;simp only[runN,vp f]at h;obtain⟨q1,s⟩:=j b r h;exact⟨q1,.step w.tape w.drawn e (by rw[mc];exact f) s⟩
def BE(o:P.inits.idxOf? P.funcs.size=none)(i:∀k a w,Stop k a w->a=[]/\k.mode=.returning/\k.defers=[]/\k.kind=.normal){f args c a}(p:a≠[]){w τ d Q}(s:Calls P f args (re w τ d) Q)(t:∀e w',Q e w'->∃x,e=.returned x)(hF:Fin P (ay P) Stop (Frame.enter P f args .normal) (c::a) w):∃x w',Q (.returned x) w'/\Fin P (ay P) Stop (c.finish x) a w'/\Reach P (ay P) Stop (Frame.enter P f args .normal) (c::a) w (c.finish x) a w':=by
 obtain⟨e,w',k,q,b,_,g⟩:=s ((c::a)++[ay P]);obtain⟨x,rfl⟩:=t _ _ q;obtain⟨n,u⟩:Steps P _ _:=b;have l: ¬Stop (Frame.enter P f args .normal) (c::a) w:=λh=>by have:=(i _ _ _ h).1;cases this
 have v:runN P (n+1) (lone (Frame.enter P f args .normal) ((c::a)++[ay P]) (re w τ d))=.next (lone (c.finish x) (a++[ay P]) w'):=by rw[zA _ 1 _ _ u];have:=step_leave_returned (c:=c) (cs:=a++[ay P]) g;simp only[runN];rw[show(c::a)++[ay P]=c::(a++[ay P])from rfl,this]
 refine⟨x,w',q,?_⟩;have r: ¬Stop (Frame.enter P f args .normal) (c::a) (re w τ d):=λh=>by have:=(i _ _ _ h).1;cases this
 obtain⟨q1,y⟩:=TQ o i p (TS l hF τ d) v;refine⟨q1,?_⟩;obtain h|⟨z,A,B,C,E,F,_,D,j⟩:=y.first
 .exfalso;have:=congrArg List.length h;simp at this
 .exact .step z A l D j
end
end Go.Mir
end
section
namespace Go.Proofs.Each
open Go.Conc Go.Mir
def cM(n:Nat)(fr fr':ah)(cs:List ah):Prop:=aR PG true n (am fr cs) (am fr' cs)/\∀i,i<=n->(aD PG true i (am fr cs)).callers=cs
def Kw{n:Nat}{fr fr':ah}{cs:List ah}(h:∀w,pq PG true n (am fr cs) w=o6 PG true n (am fr cs) w:=by intro w;kernel_rfl)(c:qS PG true n (am fr cs)=List.replicate n .running:=by kernel_rfl)(d:aD PG true n (am fr cs)=am fr' cs:=by kernel_rfl)(e:((List.range (n+1)).map λi=>(aD PG true i (am fr cs)).callers)=List.replicate (n+1) cs:=by kernel_rfl):cM n fr fr' cs:=
 ⟨eN h c d,λi f=>iV e i a9h⟩
def eZ(fr:ah)(cs:List ah):Prop:=∃n c,aR PG true n (am fr cs) c/\(∀i,i<=n->(aD PG true i (am fr cs)).callers=cs)/\∀w,mI (stepG PG true c w)=true
def fd{fr:ah}{cs:List ah}(h:∀w,mI (stepG PG true (am fr cs) w)=true:=by intro w;kernel_rfl):eZ fr cs:=⟨0,_,.nil,λi c=>Nat.le_zero.1 c▸rfl,h⟩
def da{n:Nat}{fr:ah}{F:(Nat->aj)->ah}{cs:List ah}(h:∀w,(pq PG true n (am fr cs) w,qS PG true n (am fr cs),aD PG true n (am fr cs),(List.range (n+1)).map λi=>(aD PG true i (am fr cs)).callers)=(o6 PG true n (am fr cs) w,List.replicate n .running,am (F (uo (aD PG true n (am fr cs)))) cs,List.replicate (n+1) cs):=by intro w;kernel_rfl):∃c,cM n fr (F c) cs:=
 ⟨_,Kw (λw=>congrArg (·.1) (h w)) (congrArg (·.2.1) (h default)) (congrArg (·.2.2.1) (h default)) (congrArg (·.2.2.2) (h default))⟩
def dd(n:Nat){fr:ah}{cs:List ah}(h:∀w,(pq PG true n (am fr cs) w,qS PG true n (am fr cs),mI (stepG PG true (aD PG true n (am fr cs)) w),(List.range (n+1)).map λi=>(aD PG true i (am fr cs)).callers)=(o6 PG true n (am fr cs) w,List.replicate n .running,true,List.replicate (n+1) cs):=by intro w;kernel_rfl):eZ fr cs:=
 ⟨n,_,zH (λw=>congrArg (·.1) (h w)) (congrArg (·.2.1) (h default)),λi c=>iV (congrArg (·.2.2.2) (h default)) i a9h,λw=>congrArg (·.2.2.1) (h w)⟩
section
variable{Stop:ah->List ah->aa->Prop}{fr fr':ah}{gs:List ah}{w:aa}
def cE(c:∀fr f w,Stop fr f w->f=[])(d:gs≠[]){n}(g:cM n fr fr' (gs++[ay PG]))(hF:Fin PG (ay PG) Stop fr gs w):Fin PG (ay PG) Stop fr' gs w/\Mir.Reach PG (ay PG) Stop fr gs w fr' gs w:=by obtain⟨h,e,j,l⟩:=mH c d rfl g.1 rfl g.2 hF;obtain⟨rfl,_⟩:=dG e;simp_all
def jA(c:∀fr e w,Stop fr e w->e=[])(d:gs≠[])(f:eZ fr (gs++[ay PG]))(hF:Fin PG (ay PG) Stop fr gs w):False:=by obtain⟨n,l,g,h,j⟩:=f;exact qc c d rfl g rfl h j hF
end
noncomputable def Ma:List Item:=[.code (Gh.iY.body.getD .skip)]
noncomputable def a3C:aw:=am ⟨106,⟨.int .i64 2:: .agg #[.slice (some ⟨3,0,none⟩) 1 1]::List.replicate 49 undef⟩,Ma,[],.run,.normal,none⟩ []
noncomputable def KB:aw:=aD PG true 2 (a3C)
noncomputable def a7q:List Item:=KB.frame.todo
noncomputable def KD:aw:=aD PG true 3 (KB)
noncomputable def a7r:List Item:=KD.frame.todo
noncomputable def KE:aw:=aD PG true 7 (KD)
noncomputable def a7s:List Item:=KE.frame.todo
noncomputable def KF:aw:=aD PG true 4 (KE)
noncomputable def a7t:List Item:=KF.frame.todo
noncomputable def KL:aw:=aD PG true 1 (KF)
noncomputable def a7y:List Item:=KL.frame.todo
noncomputable def KG:aw:=aD PG true 4 (KL)
noncomputable def a7u:List Item:=KG.frame.todo
noncomputable def KH:aw:=aD PG true 7 (KG)
noncomputable def a7v:List Item:=KH.frame.todo
noncomputable def KI:aw:=aD PG true 4 (KH)
noncomputable def a7w:List Item:=KI.frame.todo
noncomputable def KJ:aw:=aD PG true 3 (fin KI (.slice (some ⟨7,0,none⟩) 1 1))
noncomputable def a7x:List Item:=KJ.frame.todo
noncomputable def K0:aw:=aD PG true 8 (fin KJ (.bool false))
noncomputable def Mb:List Item:=K0.frame.todo
noncomputable def zJ:aw:=aD PG true 5 (K0)
noncomputable def a7z:List Item:=zJ.frame.todo
noncomputable def K7:aw:=aD PG true 7 (zJ)
noncomputable def a7X:List Item:=K7.frame.todo
noncomputable def K6:aw:=aD PG true 4 (K7)
noncomputable def a7W:List Item:=K6.frame.todo
noncomputable def K4:aw:=aD PG true 0 (fin K6 (.pointer (some ⟨3,0,none⟩)))
noncomputable def a7U:List Item:=K4.frame.todo
noncomputable def KM:aw:=aD PG true 15 (fin K4 (.agg #[.int .u32 0,.int .i64 0,.int .i64 0,.int .i64 1,.int .i64 0,.int .i64 0,.bool true]))
noncomputable def a7A:List Item:=KM.frame.todo
noncomputable def KN:aw:=aD PG true 3 (KM)
noncomputable def a7B:List Item:=KN.frame.todo
noncomputable def KS:aw:=aD PG true 7 (KN)
noncomputable def a7H:List Item:=KS.frame.todo
noncomputable def KT:aw:=aD PG true 4 (KS)
noncomputable def a7I:List Item:=KT.frame.todo
noncomputable def KU:aw:=aD PG true 4 (KT)
noncomputable def a7J:List Item:=KU.frame.todo
noncomputable def KV:aw:=aD PG true 3 (KU)
noncomputable def a7K:List Item:=KV.frame.todo
noncomputable def KW:aw:=aD PG true 7 (KV)
noncomputable def a7L:List Item:=KW.frame.todo
noncomputable def KX:aw:=aD PG true 4 (KW)
noncomputable def a7M:List Item:=KX.frame.todo
noncomputable def KY:aw:=aD PG true 3 (KX)
noncomputable def a7N:List Item:=KY.frame.todo
noncomputable def KZ:aw:=aD PG true 7 (KY)
noncomputable def a7O:List Item:=KZ.frame.todo
noncomputable def KO:aw:=aD PG true 4 (KZ)
noncomputable def a7C:List Item:=KO.frame.todo
noncomputable def KP:aw:=aD PG true 4 (KO)
noncomputable def a7D:List Item:=KP.frame.todo
noncomputable def KQ:aw:=aD PG true 4 (KP)
noncomputable def a7E:List Item:=KQ.frame.todo
noncomputable def KR:aw:=aD PG true 4 (KQ)
noncomputable def a7F:List Item:=KR.frame.todo
noncomputable def a3B:aw:=aD PG true 2 (am (KR.frame.finish (.bool true)) [])
noncomputable def a7G:List Item:=a3B.frame.todo
noncomputable def K9:aw:=aD PG true 2 (am {zJ.frame with tmps:=zJ.frame.tmps.setIfInBounds 26 (.bool false)} [])
noncomputable def a7Y:List Item:=K9.frame.todo
noncomputable def K5:aw:=aD PG true 7 (K9)
noncomputable def a7V:List Item:=K5.frame.todo
noncomputable def K1:aw:=aD PG true 10 (fin K5 (.slice (some ⟨8,0,none⟩) 2 2))
noncomputable def Mc:List Item:=K1.frame.todo
noncomputable def zK:aw:=aD PG true 5 (K1)
noncomputable def a7P:List Item:=zK.frame.todo
noncomputable def K3:aw:=aD PG true 4 (zK)
noncomputable def a7T:List Item:=K3.frame.todo
noncomputable def K2:aw:=aD PG true 4 (am (K3.frame.finish (.slice none 0 0)) [])
noncomputable def a7Q:List Item:=K2.frame.todo
noncomputable def a3E:aw:=aD PG true 0 (fin K2 (.pointer (some ⟨8,0,none⟩)))
noncomputable def a7S:List Item:=a3E.frame.todo
noncomputable def a3D:aw:=aD PG true 4 (am {zK.frame with tmps:=zK.frame.tmps.setIfInBounds 12 (.bool false)} [])
noncomputable def a7R:List Item:=a3D.frame.todo
section
variable(K:Bool)(u:Nat->aj)(L:List aj)(z:Int)(n D i k tb:Nat)(b:Bool)(ao:Option aF)(a:aF)(len cap:Nat)(x E tv x1 B x3 t s o:aj)(m q v A C ag:Int)
noncomputable def sr:ah:=an K (x::tv::sq u 2 49 L) Ma
noncomputable def BM:ah:=an K (x::tv::sq u 2 49 L) a7q
noncomputable def yc:ah:=an K (.int .i64 z::tv::sq u 2 15 (.bool b::sq u 18 33 L)) a7r
noncomputable def yd:ah:=an K (.int .i64 z::tv::sq u 2 16 (.bool b::sq u 19 32 L)) a7s
noncomputable def BN:ah:=an K (.int .i64 z::tv::sq u 2 49 L) a7t
noncomputable def BP:ah:=an K (.int .i64 z::tv::sq u 2 18 (x::sq u 21 30 L)) a7y
noncomputable def BO:ah:=an K (.int .i64 z:: .agg #[x]::sq u 2 18 (x::sq u 21 30 L)) a7u
noncomputable def ye:ah:=an K (.int .i64 z:: .agg #[.slice ao len cap]::sq u 2 18 (.slice ao len cap:: .int .i64 len:: .bool b::sq u 23 28 L)) a7v
noncomputable def nM:ah:=an K (.int .i64 z:: .agg #[.slice ao len cap]::sq u 2 18 (.slice ao len cap:: .int .i64 len::sq u 22 29 L)) a7w
noncomputable def uQ:ah:=an K (.int .i64 z:: .agg #[.slice ao len cap]::sq u 2 18 (.slice ao len cap:: .int .i64 len::u 22:: .slice (some ⟨D,0,none⟩) 1 1::sq u 24 27 L)) a7x
noncomputable def gH:ah:=an K (.int .i64 z:: .agg #[.slice ao len cap]::sq u 2 18 (.slice ao len cap:: .int .i64 len::sq u 22 3 (.int .i64 i::sq u 26 25 L))) Mb
noncomputable def gC:ah:=an K (.int .i64 z:: .agg #[.slice ao len cap]::sq u 2 18 (.slice ao len cap:: .int .i64 len::sq u 22 3 (.int .i64 i:: .bool b::sq u 27 24 L))) a7z
noncomputable def gY:ah:=an K (.int .i64 z:: .agg #[.slice ao len cap]::sq u 2 18 (.slice ao len cap:: .int .i64 len::sq u 22 3 (.int .i64 i::sq u 26 24 (.bool b::L)))) a7X
noncomputable def gX:ah:=an K (.int .i64 z:: .agg #[.slice ao len cap]::sq u 2 18 (.slice ao len cap:: .int .i64 len::sq u 22 3 (.int .i64 i::sq u 26 25 L))) a7W
noncomputable def uU:ah:=an K (.int .i64 z:: .agg #[.slice ao len cap]::sq u 2 18 (.slice ao len cap:: .int .i64 len::sq u 22 3 (.int .i64 i::u 26:: .pointer (some a)::sq u 28 23 L))) a7U
noncomputable def BQ:ah:=an K (.int .i64 z:: .agg #[.slice ao len cap]::sq u 2 18 (.slice ao len cap:: .int .i64 len::sq u 22 3 (.int .i64 i::sq u 26 4 (.agg #[E,x1]::E::x1::B::x3::t::s::o::sq u 38 13 L)))) a7A
noncomputable def yf:ah:=an K (.int .i64 z:: .agg #[.slice ao len cap]::sq u 2 18 (.slice ao len cap:: .int .i64 len::sq u 22 3 (.int .i64 i::sq u 26 4 (.agg #[.int .u32 m,x1]:: .int .u32 m::x1::B::x3::t::s::o:: .bool b::sq u 39 12 L)))) a7B
noncomputable def yh:ah:=an K (.int .i64 z:: .agg #[.slice ao len cap]::sq u 2 18 (.slice ao len cap:: .int .i64 len::sq u 22 3 (.int .i64 i::sq u 26 4 (.agg #[.int .u32 m,x1]:: .int .u32 m::x1::B::x3::t::s::o::u 38:: .bool b::sq u 40 11 L)))) a7H
noncomputable def BV:ah:=an K (.int .i64 z:: .agg #[.slice ao len cap]::sq u 2 18 (.slice ao len cap:: .int .i64 len::sq u 22 3 (.int .i64 i::sq u 26 4 (.agg #[.int .u32 m,x1]:: .int .u32 m::x1::B::x3::t::s::o::sq u 38 13 L)))) a7I
noncomputable def BW:ah:=an K (.int .i64 z:: .agg #[.slice ao len cap]::sq u 2 18 (.slice ao len cap:: .int .i64 len::sq u 22 3 (.int .i64 i::sq u 26 4 (.agg #[.int .u32 m,.int .i64 q]:: .int .u32 m:: .int .i64 q::B::x3::t::s::o::sq u 38 13 L)))) a7J
noncomputable def yi:ah:=an K (.int .i64 z:: .agg #[.slice ao len cap]::sq u 2 18 (.slice ao len cap:: .int .i64 len::sq u 22 3 (.int .i64 i::sq u 26 4 (.agg #[.int .u32 m,.int .i64 q]:: .int .u32 m:: .int .i64 q:: .int .i64 v::x3::t::s::o::sq u 38 3 (.bool b::sq u 42 9 L))))) a7K
noncomputable def yj:ah:=an K (.int .i64 z:: .agg #[.slice ao len cap]::sq u 2 18 (.slice ao len cap:: .int .i64 len::sq u 22 3 (.int .i64 i::sq u 26 4 (.agg #[.int .u32 m,.int .i64 q]:: .int .u32 m:: .int .i64 q:: .int .i64 v::x3::t::s::o::sq u 38 4 (.bool b::sq u 43 8 L))))) a7L
noncomputable def BX:ah:=an K (.int .i64 z:: .agg #[.slice ao len cap]::sq u 2 18 (.slice ao len cap:: .int .i64 len::sq u 22 3 (.int .i64 i::sq u 26 4 (.agg #[.int .u32 m,.int .i64 q]:: .int .u32 m:: .int .i64 q:: .int .i64 v::x3::t::s::o::sq u 38 13 L)))) a7M
noncomputable def yk:ah:=an K (.int .i64 z:: .agg #[.slice ao len cap]::sq u 2 18 (.slice ao len cap:: .int .i64 len::sq u 22 3 (.int .i64 i::sq u 26 4 (.agg #[.int .u32 m,.int .i64 q]:: .int .u32 m:: .int .i64 q:: .int .i64 v:: .int .i64 A::t::s::o::sq u 38 5 (.bool b::sq u 44 7 L))))) a7N
noncomputable def yl:ah:=an K (.int .i64 z:: .agg #[.slice ao len cap]::sq u 2 18 (.slice ao len cap:: .int .i64 len::sq u 22 3 (.int .i64 i::sq u 26 4 (.agg #[.int .u32 m,.int .i64 q]:: .int .u32 m:: .int .i64 q:: .int .i64 v:: .int .i64 A::t::s::o::sq u 38 6 (.bool b::sq u 45 6 L))))) a7O
noncomputable def BR:ah:=an K (.int .i64 z:: .agg #[.slice ao len cap]::sq u 2 18 (.slice ao len cap:: .int .i64 len::sq u 22 3 (.int .i64 i::sq u 26 4 (.agg #[.int .u32 m,.int .i64 q]:: .int .u32 m:: .int .i64 q:: .int .i64 v:: .int .i64 A::t::s::o::sq u 38 13 L)))) a7C
noncomputable def BS:ah:=an K (.int .i64 z:: .agg #[.slice ao len cap]::sq u 2 18 (.slice ao len cap:: .int .i64 len::sq u 22 3 (.int .i64 i::sq u 26 4 (.agg #[.int .u32 m,.int .i64 q]:: .int .u32 m:: .int .i64 q:: .int .i64 v:: .int .i64 A:: .int .i64 C::s::o::sq u 38 13 L)))) a7D
noncomputable def BT:ah:=an K (.int .i64 z:: .agg #[.slice ao len cap]::sq u 2 18 (.slice ao len cap:: .int .i64 len::sq u 22 3 (.int .i64 i::sq u 26 4 (.agg #[.int .u32 m,.int .i64 q]:: .int .u32 m:: .int .i64 q:: .int .i64 v:: .int .i64 A:: .int .i64 C:: .int .i64 ag::o::sq u 38 13 L)))) a7E
noncomputable def uR:ah:=an K (.int .i64 z:: .agg #[.slice ao len cap]::sq u 2 18 (.slice ao len cap:: .int .i64 len::sq u 22 3 (.int .i64 i::sq u 26 4 (.agg #[.int .u32 m,.int .i64 q]::sq u 31 20 L)))) a7F
noncomputable def BU:ah:=an K (.int .i64 z:: .agg #[.slice ao len cap]::sq u 2 18 (.slice ao len cap:: .int .i64 len::sq u 22 3 (.int .i64 i::sq u 26 21 (.bool b::sq u 48 3 L)))) a7G
noncomputable def oY:ah:=an K (.int .i64 z:: .agg #[.slice ao len cap]::sq u 2 49 L) a7Y
noncomputable def fG:ah:=an K (.int .i64 n:: .agg #[.slice ao len cap]::sq u 2 6 (.int .i64 n::sq u 9 42 L)) a7V
noncomputable def gJ:ah:=an K (u 0:: .agg #[.slice ao len cap]::sq u 2 3 (.slice (some ⟨tb,0,none⟩) n n::sq u 6 4 (.int .i64 n:: .int .i64 k::sq u 12 39 L))) Mc
noncomputable def BY:ah:=an K (u 0:: .agg #[.slice ao len cap]::sq u 2 3 (.slice (some ⟨tb,0,none⟩) n n::sq u 6 4 (.int .i64 n:: .int .i64 k:: .bool b::sq u 13 38 L))) a7P
noncomputable def uT:ah:=an K (u 0:: .agg #[.slice ao len cap]::sq u 2 3 (.slice (some ⟨tb,0,none⟩) n n::sq u 6 4 (.int .i64 n:: .int .i64 k::sq u 12 39 L))) a7T
noncomputable def uS:ah:=an K (u 0:: .agg #[.slice ao len cap]::sq u 2 3 (.slice (some ⟨tb,0,none⟩) n n::x::sq u 7 3 (.int .i64 n:: .int .i64 k::sq u 12 39 L))) a7Q
noncomputable def qi:ah:=an K (u 0:: .agg #[.slice ao len cap]::sq u 2 3 (.slice (some ⟨tb,0,none⟩) n n::x::sq u 7 3 (.int .i64 n:: .int .i64 k::u 12::u 13:: .pointer (some a)::sq u 15 36 L))) a7S
noncomputable def oX:ah:=an K (sq u 0 5 (.slice (some ⟨tb,0,none⟩) n n::sq u 6 45 L)) a7R
end
section
variable(K:Bool)(z:Int)(n i k D tb:Nat)(b:Bool)(ao:Option aF)(a:aF)(len cap:Nat)(u:Nat->aj)(L:List aj)(cs:List ah)(x tv E x1 B x3 t s o:aj)(m q v A C ag:Int)(H:Bool)
def Ng:∃c,cM 2 (sr K u L x tv) (BM K c L x tv) cs:=by cases K<;>exact da
def Mi:(∃c,x=.int .i64 c)\/eZ (BM K u L x tv) cs:=by
 cases x with
 |int kd c=>cases kd<;>first|exact .inl ⟨c,rfl⟩|exact .inr (by cases K<;>exact fd)
 |pointer p=>cases p<;>exact .inr (by cases K<;>exact fd)
 |_=>exact .inr (by cases K<;>exact fd)
def Mj:∃c,cM 3 (BM K u L (.int .i64 z) tv) (yc K c L z (decide (z<9)) tv) cs:=by cases K<;>exact da
def Mk:eZ (yc K u L z false tv) cs:=by cases K<;>exact dd 1
def Ml:∃c,cM 7 (yc K u L z true tv) (yd K c L z (decide (-1<z)) tv) cs:=by cases K<;>exact da
def Mm:eZ (yd K u L z false tv) cs:=by cases K<;>exact dd 1
def Mn:∃c,cM 4 (yd K u L z true tv) (BN K c L z tv) cs:=by cases K<;>exact da
def Mo:(∃x r,tv=.agg ⟨x::r⟩)\/eZ (BN K u L z tv) cs:=by
 cases tv with
 |agg c=>
  obtain⟨c⟩:=c;cases c with
  |nil=>exact .inr (by cases K<;>exact fd)
  |cons x r=>simp_all
 |_=>exact .inr (by cases K<;>exact fd)
def Mp(r):∃c,cM 1 (BN K u L z (.agg ⟨x::r⟩)) (BP K c L z x (.agg ⟨x::r⟩)) cs:=by cases K<;>exact da
def Mz(r):r=[]\/eZ (BP K u L z x (.agg ⟨x::r⟩)) cs:=by
 cases r with
 |nil=>simp_all
 |cons y r=>exact .inr (by cases K<;>exact fd)
def MA:∃c,cM 4 (BP K u L z x (.agg #[x])) (BO K c L z x) cs:=by cases K<;>exact da
def Mq:(∃ao len cap,x=.slice ao len cap)\/eZ (BO K u L z x) cs:=by
 cases x with
 |slice ao len cap=>simp_all
 |_=>exact .inr (by cases K<;>exact fd)
def Mr:∃c,cM 7 (BO K u L z (.slice ao len cap)) (ye K c L z (decide ((len:Int)<101)) ao len cap) cs:=by cases K<;>exact da
def Ms:eZ (ye K u L z false ao len cap) cs:=by cases K<;>exact dd 1
def Mu:∃c,cM 4 (ye K u L z true ao len cap) (nM K c L z ao len cap) cs:=by cases K<;>exact da
def Mw(w):stepG PG true (am (nM K u L z ao len cap) cs) w=.go (fin (am (nM K u L z ao len cap) cs) (.slice (some ⟨w.heap.size,0,none⟩) 1 1)) {w with heap:=w.heap.push (.cells #[.slice none 0 0] 46)} #[]:=by cases K<;>kernel_rfl
def Mv:∃c,cM 3 ((nM K u L z ao len cap).finish (.slice (some ⟨D,0,none⟩) 1 1)) (uQ K c L z D ao len cap) cs:=by cases K<;>exact da
def Eh(w):stepG PG true (am (uQ K u L z D ao len cap) cs) w=stepG.apply PG true (uQ K u L z D ao len cap) cs none (callFunc 194 #[.slice (some ⟨D,0,none⟩) 1 1,.slice ao len cap]) w:=by cases K<;>kernel_rfl
def Ei:((uQ K u L z D ao len cap).kind==.early)=false:=by cases K<;>kernel_rfl
def Mx:∃c,cM 8 ((uQ K u L z D ao len cap).finish (.bool b)) (gH K c L z 0 ao len cap) cs:=by cases K<;>exact da
def wE:∃c,cM 5 (gH K u L z i ao len cap) (gC K c L z i (decide ((i:Int)<(len:Int))) ao len cap) cs:=by cases K<;>exact da
def MD:∃c,cM 7 (gC K u L z i true (some a) len cap) (gY K c L z i false (some a) len cap) cs:=by cases K<;>exact da
def MC:eZ (gC K u L z i true none len cap) cs:=by cases K<;>exact dd 8
def NZ:∃c,cM 4 (gY K u L z i false ao len cap) (gX K c L z i ao len cap) cs:=by cases K<;>exact da
def Al:∃c,cM 2 (gC K u L z i false ao len cap) (oY K c L z ao len cap) cs:=by cases K<;>exact da
def NW(w):stepG PG true (am (gX K u L z i ao len cap) cs) w=stepG.apply PG true (gX K u L z i ao len cap) cs none (do pure (.value (<-Instr.indexAt 118 (.slice ao len cap) (.int .i64 i)))) w:=by cases K<;>kernel_rfl
def NX:((gX K u L z i ao len cap).kind==.early)=false:=by cases K<;>kernel_rfl
def NY:∃c,cM 0 ((gX K u L z i ao len cap).finish (.pointer (some a))) (uU K c L z i ao a len cap) cs:=by cases K<;>exact da
def Nw(w):stepG PG true (am (uU K u L z i ao a len cap) cs) w=stepG.apply PG true (uU K u L z i ao a len cap) cs none (.load .plain (a.add 0) λc=>.load .plain (a.add 1) λd=>.load .plain (a.add 2) λe=>.load .plain (a.add 3) λf=>.load .plain (a.add 4) λg=>.load .plain (a.add 5) λh=>.load .plain (a.add 6) λj=>.pure (.value (.agg #[c,d,e,f,g,h,j]))) w:=by cases K<;>kernel_rfl
def Ny:((uU K u L z i ao a len cap).kind==.early)=false:=by cases K<;>kernel_rfl
def Nz:∃c,cM 15 ((uU K u L z i ao a len cap).finish (.agg #[E,x1,B,x3,t,s,o])) (BQ K c L z i ao len cap E x1 B x3 t s o) cs:=by cases K<;>exact da
def ML:(∃c,E=.int .u32 c)\/eZ (BQ K u L z i ao len cap E x1 B x3 t s o) cs:=by
 cases E with
 |int kd c=>cases kd<;>first|exact .inl ⟨c,rfl⟩|exact .inr (by cases K<;>exact fd)
 |pointer p=>cases p<;>exact .inr (by cases K<;>exact fd)
 |_=>exact .inr (by cases K<;>exact fd)
def MM:∃c,cM 3 (BQ K u L z i ao len cap (.int .u32 m) x1 B x3 t s o) (yf K c L z i (decide (-1<m)) ao len cap x1 B x3 t s o m) cs:=by cases K<;>exact da
def MX:eZ (yf K u L z i false ao len cap x1 B x3 t s o m) cs:=by cases K<;>exact dd 1
def MY:∃c,cM 7 (yf K u L z i true ao len cap x1 B x3 t s o m) (yh K c L z i (decide (m<4294967296)) ao len cap x1 B x3 t s o m) cs:=by cases K<;>exact da
def MZ:eZ (yh K u L z i false ao len cap x1 B x3 t s o m) cs:=by cases K<;>exact dd 1
def M0:∃c,cM 4 (yh K u L z i true ao len cap x1 B x3 t s o m) (BV K c L z i ao len cap x1 B x3 t s o m) cs:=by cases K<;>exact da
def M1:(∃c,x1=.int .i64 c)\/eZ (BV K u L z i ao len cap x1 B x3 t s o m) cs:=by
 cases x1 with
 |int kd c=>cases kd<;>first|exact .inl ⟨c,rfl⟩|exact .inr (by cases K<;>exact fd)
 |pointer p=>cases p<;>exact .inr (by cases K<;>exact fd)
 |_=>exact .inr (by cases K<;>exact fd)
def M2:∃c,cM 4 (BV K u L z i ao len cap (.int .i64 q) B x3 t s o m) (BW K c L z i ao len cap B x3 t s o m q) cs:=by cases K<;>exact da
def M3:(∃c,B=.int .i64 c)\/eZ (BW K u L z i ao len cap B x3 t s o m q) cs:=by
 cases B with
 |int kd c=>cases kd<;>first|exact .inl ⟨c,rfl⟩|exact .inr (by cases K<;>exact fd)
 |pointer p=>cases p<;>exact .inr (by cases K<;>exact fd)
 |_=>exact .inr (by cases K<;>exact fd)
def M4:∃c,cM 3 (BW K u L z i ao len cap (.int .i64 v) x3 t s o m q) (yi K c L z i (decide (-1<v)) ao len cap x3 t s o m q v) cs:=by cases K<;>exact da
def M5:eZ (yi K u L z i false ao len cap x3 t s o m q v) cs:=by cases K<;>exact dd 1
def M6:∃c,cM 7 (yi K u L z i true ao len cap x3 t s o m q v) (yj K c L z i (decide (v<65536)) ao len cap x3 t s o m q v) cs:=by cases K<;>exact da
def M7:eZ (yj K u L z i false ao len cap x3 t s o m q v) cs:=by cases K<;>exact dd 1
def M8:∃c,cM 4 (yj K u L z i true ao len cap x3 t s o m q v) (BX K c L z i ao len cap x3 t s o m q v) cs:=by cases K<;>exact da
def M9:(∃c,x3=.int .i64 c)\/eZ (BX K u L z i ao len cap x3 t s o m q v) cs:=by
 cases x3 with
 |int kd c=>cases kd<;>first|exact .inl ⟨c,rfl⟩|exact .inr (by cases K<;>exact fd)
 |pointer p=>cases p<;>exact .inr (by cases K<;>exact fd)
 |_=>exact .inr (by cases K<;>exact fd)
def Na:∃c,cM 3 (BX K u L z i ao len cap (.int .i64 A) t s o m q v) (yk K c L z i (decide (0<A)) ao len cap t s o m q v A) cs:=by cases K<;>exact da
def Nb:eZ (yk K u L z i false ao len cap t s o m q v A) cs:=by cases K<;>exact dd 1
def Nc:∃c,cM 7 (yk K u L z i true ao len cap t s o m q v A) (yl K c L z i (decide (A<17)) ao len cap t s o m q v A) cs:=by cases K<;>exact da
def Nd:eZ (yl K u L z i false ao len cap t s o m q v A) cs:=by cases K<;>exact dd 1
def Nf:∃c,cM 4 (yl K u L z i true ao len cap t s o m q v A) (BR K c L z i ao len cap t s o m q v A) cs:=by cases K<;>exact da
def MN:(∃c,t=.int .i64 c)\/eZ (BR K u L z i ao len cap t s o m q v A) cs:=by
 cases t with
 |int kd c=>cases kd<;>first|exact .inl ⟨c,rfl⟩|exact .inr (by cases K<;>exact fd)
 |pointer p=>cases p<;>exact .inr (by cases K<;>exact fd)
 |_=>exact .inr (by cases K<;>exact fd)
def MO:∃c,cM 4 (BR K u L z i ao len cap (.int .i64 C) s o m q v A) (BS K c L z i ao len cap s o m q v A C) cs:=by cases K<;>exact da
def MP:(∃c,s=.int .i64 c)\/eZ (BS K u L z i ao len cap s o m q v A C) cs:=by
 cases s with
 |int kd c=>cases kd<;>first|exact .inl ⟨c,rfl⟩|exact .inr (by cases K<;>exact fd)
 |pointer p=>cases p<;>exact .inr (by cases K<;>exact fd)
 |_=>exact .inr (by cases K<;>exact fd)
def MQ:∃c,cM 4 (BS K u L z i ao len cap (.int .i64 ag) o m q v A C) (BT K c L z i ao len cap o m q v A C ag) cs:=by cases K<;>exact da
def MR:(∃c,o=.bool c)\/eZ (BT K u L z i ao len cap o m q v A C ag) cs:=by
 cases o with
 |bool c=>simp_all
 |_=>exact .inr (by cases K<;>exact fd)
def MS:∃c,cM 4 (BT K u L z i ao len cap (.bool H) m q v A C ag) (uR K c L z i ao len cap m q) cs:=by cases K<;>exact da
def MU(w):stepG PG true (am (uR K u L z i ao len cap m q) cs) w=.go (am (Frame.enter PG 77 #[.agg #[.int .u32 m,.int .i64 q]] .normal) ((uR K u L z i ao len cap m q)::cs)) w #[]:=by cases K<;>kernel_rfl
def MT:∃c,cM 2 ((uR K u L z i ao len cap m q).finish (.bool b)) (BU K c L z i b ao len cap) cs:=by cases K<;>exact da
def MV:eZ (BU K u L z i false ao len cap) cs:=by cases K<;>exact dd 1
def MW:∃c,cM 7 (BU K u L z i true ao len cap) (an K (.int .i64 z:: .agg #[.slice ao len cap]::sq c 2 18 (.slice ao len cap:: .int .i64 len::sq c 22 3 (.int .i64 (IntKind.i64.wrap ((i:Int)+1))::sq c 26 25 L))) Mb) cs:=by cases K<;>exact da
def N9:∃c,cM 7 (oY K u L (n:Int) ao len cap) (fG K c L n ao len cap) cs:=by cases K<;>exact da
theorem NB(w):stepG PG true (am (fG K u L 0 ao len cap) cs) w=.go (fin (am (fG K u L 0 ao len cap) cs) (.slice (some ⟨w.heap.size,0,none⟩) 0 0)) {w with heap:=w.heap.push (.cells #[] 46)} #[]:=by cases K<;>kernel_rfl
theorem NC(w):stepG PG true (am (fG K u L 1 ao len cap) cs) w=.go (fin (am (fG K u L 1 ao len cap) cs) (.slice (some ⟨w.heap.size,0,none⟩) 1 1)) {w with heap:=w.heap.push (.cells #[.slice none 0 0] 46)} #[]:=by cases K<;>kernel_rfl
theorem ND(w):stepG PG true (am (fG K u L 2 ao len cap) cs) w=.go (fin (am (fG K u L 2 ao len cap) cs) (.slice (some ⟨w.heap.size,0,none⟩) 2 2)) {w with heap:=w.heap.push (.cells #[.slice none 0 0,.slice none 0 0] 46)} #[]:=by cases K<;>kernel_rfl
def NE(w):stepG PG true (am (fG K u L 3 ao len cap) cs) w=.go (fin (am (fG K u L 3 ao len cap) cs) (.slice (some ⟨w.heap.size,0,none⟩) 3 3)) {w with heap:=w.heap.push (.cells #[.slice none 0 0,.slice none 0 0,.slice none 0 0] 46)} #[]:=by cases K<;>kernel_rfl
def NG(w):stepG PG true (am (fG K u L 4 ao len cap) cs) w=.go (fin (am (fG K u L 4 ao len cap) cs) (.slice (some ⟨w.heap.size,0,none⟩) 4 4)) {w with heap:=w.heap.push (.cells #[.slice none 0 0,.slice none 0 0,.slice none 0 0,.slice none 0 0] 46)} #[]:=by cases K<;>kernel_rfl
def NH(w):stepG PG true (am (fG K u L 5 ao len cap) cs) w=.go (fin (am (fG K u L 5 ao len cap) cs) (.slice (some ⟨w.heap.size,0,none⟩) 5 5)) {w with heap:=w.heap.push (.cells #[.slice none 0 0,.slice none 0 0,.slice none 0 0,.slice none 0 0,.slice none 0 0] 46)} #[]:=by cases K<;>kernel_rfl
def NI(w):stepG PG true (am (fG K u L 6 ao len cap) cs) w=.go (fin (am (fG K u L 6 ao len cap) cs) (.slice (some ⟨w.heap.size,0,none⟩) 6 6)) {w with heap:=w.heap.push (.cells #[.slice none 0 0,.slice none 0 0,.slice none 0 0,.slice none 0 0,.slice none 0 0,.slice none 0 0] 46)} #[]:=by cases K<;>kernel_rfl
def NJ(w):stepG PG true (am (fG K u L 7 ao len cap) cs) w=.go (fin (am (fG K u L 7 ao len cap) cs) (.slice (some ⟨w.heap.size,0,none⟩) 7 7)) {w with heap:=w.heap.push (.cells #[.slice none 0 0,.slice none 0 0,.slice none 0 0,.slice none 0 0,.slice none 0 0,.slice none 0 0,.slice none 0 0] 46)} #[]:=by cases K<;>kernel_rfl
def NK(w):stepG PG true (am (fG K u L 8 ao len cap) cs) w=.go (fin (am (fG K u L 8 ao len cap) cs) (.slice (some ⟨w.heap.size,0,none⟩) 8 8)) {w with heap:=w.heap.push (.cells #[.slice none 0 0,.slice none 0 0,.slice none 0 0,.slice none 0 0,.slice none 0 0,.slice none 0 0,.slice none 0 0,.slice none 0 0] 46)} #[]:=by cases K<;>kernel_rfl
def NM(w)(c:n<=8):stepG PG true (am (fG K u L n ao len cap) cs) w=.go (fin (am (fG K u L n ao len cap) cs) (.slice (some ⟨w.heap.size,0,none⟩) n n)) {w with heap:=w.heap.push (.cells (Array.replicate n (.slice none 0 0)) 46)} #[]:=by
 obtain _|_|_|_|_|_|_|_|_|n:=n
 .grind[NB]
 .grind[NC]
 .grind[ND]
 .exact NE K ao len cap u L cs w
 .exact NG K ao len cap u L cs w
 .exact NH K ao len cap u L cs w
 .exact NI K ao len cap u L cs w
 .exact NJ K ao len cap u L cs w
 .exact NK K ao len cap u L cs w
 .omega
def NL:∃c,cM 10 ((fG K u L n ao len cap).finish (.slice (some ⟨tb,0,none⟩) n n)) (gJ K c L n 0 tb ao len cap) cs:=by cases K<;>exact da
def Em:∃c,cM 5 (gJ K u L n k tb ao len cap) (BY K c L n k tb (decide ((k:Int)<(n:Int))) ao len cap) cs:=by cases K<;>exact da
def Nl:∃c,cM 4 (BY K u L n k tb true ao len cap) (uT K c L n k tb ao len cap) cs:=by cases K<;>exact da
def Nv(w):stepG PG true (am (uT K u L n k tb ao len cap) cs) w=.go (am (Frame.enter PG 43 #[.int .i64 k,.agg #[.slice ao len cap]] .normal) ((uT K u L n k tb ao len cap)::cs)) w #[]:=by cases K<;>kernel_rfl
def Nu:∃c,cM 4 ((uT K u L n k tb ao len cap).finish x) (uS K c L n k tb ao len cap x) cs:=by cases K<;>exact da
def Nm(w):stepG PG true (am (uS K u L n k tb ao len cap x) cs) w=stepG.apply PG true (uS K u L n k tb ao len cap x) cs none (do pure (.value (<-Instr.indexAt 80 (.slice (some ⟨tb,0,none⟩) n n) (.int .i64 k)))) w:=by cases K<;>kernel_rfl
def Nn:((uS K u L n k tb ao len cap x).kind==.early)=false:=by cases K<;>kernel_rfl
def No:∃c,cM 0 ((uS K u L n k tb ao len cap x).finish (.pointer (some a))) (qi K c L n k tb ao a len cap x) cs:=by cases K<;>exact da
def Nr(c d e w):stepG PG true (am (qi K u L n k tb ao a len cap (.slice c d e)) cs) w=stepG.apply PG true (qi K u L n k tb ao a len cap (.slice c d e)) cs none (.store .plain (a.add 0) (.slice c d e) (.pure .skip)) w:=by cases K<;>kernel_rfl
def Ns:((qi K u L n k tb ao a len cap x).kind==.early)=false:=by cases K<;>kernel_rfl
def Nt:∃c,cM 6 ((qi K u L n k tb ao a len cap x).finish undef) (an K (c 0:: .agg #[.slice ao len cap]::sq c 2 3 (.slice (some ⟨tb,0,none⟩) n n::sq c 6 4 (.int .i64 n:: .int .i64 (IntKind.i64.wrap ((k:Int)+1))::sq c 12 39 L))) Mc) cs:=by cases K<;>exact da
def Nk:∃c,cM 4 (BY K u L n k tb false ao len cap) (oX K c L n tb) cs:=by cases K<;>exact da
def Nq(w):stepG PG true (am (oX K u L n tb) cs) w=.go (am (Frame.enter PG 156 #[.slice (some ⟨tb,0,none⟩) n n] .normal) ((oX K u L n tb)::cs)) w #[]:=by cases K<;>kernel_rfl
noncomputable def ym(K:Bool)(u:Nat->aj)(L:List aj)(tb n:Nat)(x:aj):aw:=aD PG true 3 (am ((oX K u L n tb).finish x) [])
def Np:cM 3 ((oX K u L n tb).finish x) (ym K u L tb n x).frame cs:=by cases K<;>exact Kw
def UB(c w):stepG PG true (am (ym K u L tb n x).frame (c::cs)) w=doReturn PG true (ym K u L tb n x).frame (c::cs) none x w:=by cases K<;>kernel_rfl
def UA:(ym K u L tb n x).frame.kind=kd K:=by cases K<;>kernel_rfl
end
end Go.Proofs.Each
end
section
namespace Go.Proofs.Each
open Go.Conc Go.Mir Go.RowKit
def ub(P:aA)(w:aa)(s:Sem Next):Prop:=(∃x w1,s.run P w=.ok (.value x) w1)\/∃h w1,s.run P w=.halt h w1/\fi h=true
section
variable{P:aA}{trap:ah}{Stop:ah->List ah->aa->Prop}{fr fr1:ah}{gs gs1:List ah}{w w1:aa}
def uJ[nu P](c:∀fr g w,Stop fr g w->g=[])(d:gs≠[])(hF:Fin P trap Stop fr gs w){s}(j:∀w,stepG P true (am fr (gs++[trap])) w=stepG.apply P true fr (gs++[trap]) none s w)(k:(fr.kind==.early)=false)(l:ub P w s):∃x w1,s.run P w=.ok (.value x) w1/\Fin P trap Stop (fr.finish x) gs w1/\Mir.Reach P trap Stop fr gs w (fr.finish x) gs w1:=by
 obtain⟨x,w1,n,b,f,o⟩:=G7 c d hF j k w.tape w.drawn (λr n i=>by
  have e:s.run P w=r:=by have:=Sem.runT_fst (p:=P) s w #[];rw[mc]at i;rw[<-this,i]
  obtain⟨x,w1,h⟩|⟨h,w1,b,f⟩:=l
  .exact .inl ⟨x,w1,by rw[<-e];exact h⟩
  .exact .inr ⟨h,w1,by rw[<-e];exact b,f⟩)
 refine⟨x,w1,?_,f,o⟩;rw[mc]at b;have:=Sem.runT_fst (p:=P) s w #[];rw[<-this,b]
def qd(b: ¬Stop fr gs w)(hF:Fin P trap Stop fr gs w){es}(h:stepG P true (am fr (gs++[trap])) w=.go (am fr1 (gs1++[trap])) w1 es):Fin P trap Stop fr1 gs1 w1/\Mir.Reach P trap Stop fr gs w fr1 gs1 w1:=by obtain⟨l,n,o,e,c,f⟩:=uI hF b w.tape w.drawn;rw[mc]at c;have g:=c;rw[h]at c;simp only[GStep.go.injEq]at c;obtain⟨i,j,_⟩:=c;obtain⟨k,d⟩:=dG i;have d:=fS d;subst j k d;exact⟨f,.step w.tape w.drawn b (by rw[mc];exact g) .refl⟩
def qn{k a}{x:Next}(c:∀s t,w.heap[a.block]? ≠some (.view s t))(h:(Sem.load .plain a k).run P w=.ok x w1):∃v,w.cell? a=some v/\(k v).run P w=.ok x w1:=by
 simp only[Sem.run]at h;cases f:w.cell? a with
 |some v=>rw[f]at h;exact⟨v,rfl,h⟩
 |none=>
  rw[f]at h;dsimp only at h;cases b:w.farLoad P a (Mode.plain==.atomic)with
  |error e=>rw[b]at h;cases h
  |ok q=>
   exfalso;unfold World.farLoad at b;cases d:w.heap[a.block]? with
   |none=>rw[d]at b;cases b
   |some o=>
    rw[d]at b;cases o with
    |view s t=>exact c s t d
    |_=>cases b
def qo{k a}(b:∀s t,w.heap[a.block]? ≠some (.view s t))(c:∀v,ub P w (k v)):ub P w (Sem.load .plain a k):=by
 unfold ub;simp only[Sem.run];cases e:w.cell? a with
 |some v=>exact c v
 |none=>
  dsimp only;refine .inr ?_;unfold World.farLoad World.noCell;cases d:w.heap[a.block]? with
  |none=>exact⟨_,_,rfl,rfl⟩
  |some o=>
   cases o with
   |view s t=>exact absurd d (b s t)
   |_=>exact⟨_,_,rfl,rfl⟩
end
def pR(a:aF)(j):(a.add j).block=a.block:=by unfold Addr.add;split<;>rfl
def PE{w:aa}{a v}(h:w.cell? a=some v):a.spot=none:=by
 unfold World.cell? at h;cases b:w.heap[a.block]? with
 |none=>rw[b]at h;cases h
 |some o=>
  rw[b]at h;cases o with
  |cells c e z=>
   dsimp only at h;cases d:a.spot with
   |none=>rfl
   |some s=>rw[d]at h;cases h
  |_=>cases h
def L7(a:aF):Sem Next:=.load .plain (a.add 0) λb=>.load .plain (a.add 1) λc=>.load .plain (a.add 2) λd=>.load .plain (a.add 3) λe=>.load .plain (a.add 4) λf=>.load .plain (a.add 5) λg=>.load .plain (a.add 6) λh=>.pure (.value (.agg #[b,c,d,e,f,g,h]))
section
variable{P:aA}{w w1:aa}{a:aF}
def a3A(c:∀s t,w.heap[a.block]? ≠some (.view s t)):ub P w (L7 a):=by
 unfold L7;have b:∀j,∀s t,w.heap[(a.add j).block]? ≠some (.view s t):=λj=>by rw[pR];exact c
 refine qo (b _) λd=>qo (b _) λe=>qo (b _) λf=>qo (b _) λg=>qo (b _) λh=>qo (b _) λi=>qo (b _) λk=>.inl ⟨_,_,rfl⟩
def a3z{x}(l:∀s t,w.heap[a.block]? ≠some (.view s t))(h:(L7 a).run P w=.ok (.value x) w1):∃c d e f g i k,w.cell? (a.add 0)=some c/\w.cell? (a.add 1)=some d/\w.cell? (a.add 2)=some e/\w.cell? (a.add 3)=some f/\w.cell? (a.add 4)=some g/\w.cell? (a.add 5)=some i/\w.cell? (a.add 6)=some k/\x=.agg #[c,d,e,f,g,i,k]/\w1=w:=by
 unfold L7 at h;have b:∀j,∀s t,w.heap[(a.add j).block]? ≠some (.view s t):=λj=>by rw[pR];exact l
 obtain⟨c,n,h⟩:=qn (b 0) h;obtain⟨d,c1,h⟩:=qn (b 1) h;obtain⟨e,c2,h⟩:=qn (b 2) h;obtain⟨f,o,h⟩:=qn (b 3) h;obtain⟨g,p,h⟩:=qn (b 4) h;obtain⟨i,q,h⟩:=qn (b 5) h;obtain⟨k,r,h⟩:=qn (b 6) h;simp only[Sem.run,Result.ok.injEq,Next.value.injEq]at h;exact⟨c,d,e,f,g,i,k,n,c1,c2,o,p,q,r,h.1.symm,h.2.symm⟩
end
def iC{P α β s}{f:α->Sem β}{w w' y}(h:s.run P w=.ok y w'):(s>>=f).run P w=(f y).run P w':=by simp[h]
def LQ{P w r c e z}(h:w.heap[r]?=some (.cells c e z)):(viewAt r).run P w=.ok none w:=by simp[viewAt,shape,Sem.run,World.shape?,h]
def a5L{P w r}(h:w.heap[r]?=none):∃q,(viewAt r).run P w=.halt (.stuck q) w:=by exact⟨_,by simp[viewAt,shape,getObj,Sem.run,World.shape?,h];rfl⟩
def a5M{P w r s t}(h:w.heap[r]?=some (.view s t)):(viewAt r).run P w=.ok (some (s,t)) w:=by simp[viewAt,shape,getObj,Sem.run,World.shape?,h]
def a5K{P w r o}(h:w.heap[r]?=some o)(b:∀c e z,o≠.cells c e z)(d:∀s t,o≠.view s t):(viewAt r).run P w=.ok none w:=by
 have f:w.shape? r=none:=by unfold World.shape?;rw[h];cases o<;>first|rfl|exact absurd rfl (b _ _ _)
 have g:∀k:Obj->Sem (Option (aF×bD)),Sem.run P (.getObj r k) w=(k o).run P w:=λk=>by simp only[Sem.run];rw[h];cases o<;>first|rfl|exact absurd rfl (b _ _ _)
 unfold viewAt;simp only[shape,getObj,bind,Sem.bind,Sem.run,f];refine(g _).trans ?_;cases o<;>first|rfl|exact absurd rfl (d _ _)
def Z1(w f v)(A:w.heap[f]?=some (.cells #[v] 46 (0,0)))(ao len cap):(∃B k,(callFunc 194 #[.slice (some ⟨f,0,none⟩) 1 1,.slice ao len cap]).run PG w=.ok (.value (.bool B)) k/\(k=w\/k=w.drew)/\∀a,ao=some a->0<len->∀s t,w.heap[a.block]? ≠some (.view s t))\/∃h,(callFunc 194 #[.slice (some ⟨f,0,none⟩) 1 1,.slice ao len cap]).run PG w=.halt h w/\fi h=true:=by
 have C:w.shape? f=some (46,1):=by simp[World.shape?,A]
 have g:w.frozen? ⟨f,0,none⟩=false:=by simp[World.frozen?,A]
 have D:w.frozen? {block:=f,off:=1}=false:=by simp[World.frozen?,A]
 have l:=LQ (P:=PG) A;have r:PG.underlying 118=some (.slice 137):=Gh.underlying118;have u:∀w,(Go.sizeOf 137).run PG w=.ok 7 w:=Gh.sizeOf137;rw[run_callFunc_extern (show PG.funcs[194]?=some _ from Gh.func194) a9k a9k a9k (e:=Extern.SlicesOverlaps.overlaps #[118,118] #[4]) a9k];suffices I:(∃B k,(Extern.SlicesOverlaps.overlaps #[118,118] #[4] #[.slice (some ⟨f,0,none⟩) 1 1,.slice ao len cap]).run PG w=.ok (.bool B) k/\(k=w\/k=w.drew)/\∀a,ao=some a->0<len->∀s t,w.heap[a.block]? ≠some (.view s t))\/∃h,(Extern.SlicesOverlaps.overlaps #[118,118] #[4] #[.slice (some ⟨f,0,none⟩) 1 1,.slice ao len cap]).run PG w=.halt h w/\fi h=true by
  obtain⟨B,k,J,K⟩|⟨h,J,K⟩:=I
  .exact .inl ⟨B,k,by rw[J];rfl,K⟩
  .exact .inr ⟨h,by rw[J];rfl,K⟩
 cases ao with
 |none=>exact .inl ⟨false,w,(iC (run_underlying r w)).trans (iC (u w)),.inl rfl,λa h=>(by cases h)⟩
 |some b=>
  by_cases h0:len=0
  .subst h0;exact .inl ⟨false,w,(iC (run_underlying r w)).trans (iC (u w)),.inl rfl,λa _ h=>absurd h (oC _)⟩
  .by_cases H:f=b.block
   .have i:(f !=b.block)=false:=by simpa using H
    refine .inl ⟨_,w,(iC (run_underlying r w)).trans ((iC (u w)).trans (by dsimp only;simp[h0,i,frozen,Sem.run];rfl)),.inl rfl,λa L _ s t n=>?_⟩;cases L;rw[<-H,A]at n;cases n
   .have i:(f !=b.block)=true:=by simpa using H
    have d:(f==b.block)=false:=by simpa using H
    cases n:w.heap[b.block]? with
    |none=>obtain⟨q,y⟩:=a5L (P:=PG) n;exact .inr ⟨.stuck q,(iC (run_underlying r w)).trans ((iC (u w)).trans (by dsimp only;simp[h0,i,d,frozen,noView,Sem.run,g,l,y])),rfl⟩
    |some o=>
     by_cases E:∃s t,o=.view s t
     .obtain⟨s,t,rfl⟩:=E;have y:=a5M (P:=PG) n;exact .inr ⟨_,(iC (run_underlying r w)).trans ((iC (u w)).trans (by dsimp only;simp[h0,i,d,frozen,noView,unsupported,Sem.run,g,l,y];rfl)),rfl⟩
     .have p:∀s t,o≠.view s t:=λs t h=>E ⟨s,t,h⟩;have y:(viewAt b.block).run PG w=.ok none w:=by
       by_cases N:∃c e z,o=.cells c e z
       .obtain⟨c,e,z,rfl⟩:=N;exact LQ n
       .exact a5K n (λc e z h=>N ⟨c,e,z,h⟩) p
      have j:∀a,some b=some a->0<len->∀s t,w.heap[a.block]? ≠some (.view s t):=λa L _ s t O=>(by cases L;rw[n]at O;cases O;exact p _ _ rfl);obtain⟨B,Q⟩:∃B,(mayBeOne ⟨f,0,none⟩ b).run PG w=.ok B w:=by
       cases F:w.shape? b.block with
       |none=>cases x:w.frozen? b<;>simp[mayBeOne,stringish,frozen,shape,Sem.run,C,g,D,x,F]
       |some q=>obtain⟨e,m⟩:=q;cases M:w.frozen? ⟨b.block,m,none⟩<;>cases x:w.frozen? b<;>cases m<;>simp[mayBeOne,stringish,frozen,shape,Sem.run,C,g,D,x,F,M]
      cases B with
      |false=>exact .inl ⟨false,w,(iC (run_underlying r w)).trans ((iC (u w)).trans (by dsimp only;simp[h0,i,d,frozen,noView,Sem.run,g,l,y,Q])),.inl rfl,j⟩
      |true=>refine .inl ⟨_,w.drew,(iC (run_underlying r w)).trans ((iC (u w)).trans (by dsimp only;simp[h0,i,d,frozen,noView,Sem.run,g,l,y,Q,choose];rfl)),.inr rfl,j⟩
def H4(w)(t e b:Nat)(c:PG.underlying t=some (.slice e))(d:∀w,(Go.sizeOf e).run PG w=.ok b w)(a i len cap)(f:i<len):(do pure (.value (<-Instr.indexAt t (.slice (some a) len cap) (.int .i64 i))):Sem Next).run PG w=.ok (.value (.pointer (some (a.add (i*b))))) w:=by
 have h0:(0:Int)<=(i:Int)/\(i:Int)<(len:Int):=a9h
 simp[Instr.indexAt,asIntOf,run_underlying c,d,h0];intro h;omega
end Go.Proofs.Each
end
section
namespace Go.Proofs.Each
open Go.Conc Go.Mir Go.RowKit Go.Proofs.q
def Am(Stop:ah->List ah->aa->Prop):Prop:=∀a fs w,Stop a fs w->fs=[]/\a.mode=.returning/\a.defers=[]/\a.kind=.normal
abbrev ji(Stop):=Fin PG (ay PG) Stop
abbrev pP(Stop):=Mir.Reach PG (ay PG) Stop
def CC:PG.inits.idxOf? PG.funcs.size=none:=vK.{0}
def L9{i:Nat}(h:i<1000):IntKind.i64.wrap ((i:Int)+1)=((i+1:Nat):Int):=by
 have a:IntKind.i64.bits=64:=rfl
 grind[IntKind.wrap]
structure dz (B:Nat) (w w':aa):Prop where
 os:oo w'=oo w
 size:w.heap.size<=w'.heap.size
 block:∀k,k<B->w'.heap[k]?=w.heap[k]?
def dz.refl(B w):dz B w w:=⟨rfl,az _,λ_ _=>rfl⟩
def dz.trans{B a b d}(h:dz B a b)(k:dz B b d):dz B a d:=⟨k.os.trans h.os,dt h.size k.size,λi e=>(k.block i e).trans (h.block i e)⟩
def dz.mono{B a w w'}(h:dz B w w')(b:a<=B):dz a w w':=⟨h.os,h.size,λk d=>h.block k (bL d b)⟩
def dz.of{B w w'}(h:Below B w w'):dz B w w':=⟨jY h.os h.output,h.size,h.block⟩
def dz.cell{B w w'}(h:dz B w w'){a}(b:a.block<B):w'.cell? a=w.cell? a:=by unfold World.cell?;rw[h.block _ b]
section
variable{Stop:ah->List ah->aa->Prop}(ab:Am Stop){c:ah}{fs:List ah}{K:Bool}{L:List aj}
include ab
def pp:∀fr fs w,Stop fr fs w->fs=[]:=λa b c h=>(ab a b c h).1
def qt{fr d gs w}: ¬Stop fr (d::gs) w:=λh=>by have:=(ab _ _ _ h).1;cases this
def ask{w}{b:Bool}{p}[Decidable p](f:Bool->ah)(a:eZ (f false) ((c::fs)++[ay PG]))(hF:ji Stop (f (decide p)) (c::fs) w):p/\ji Stop (f true) (c::fs) w:=by
 by_cases h:p
 .rw[decide_eq_true h]at hF;simp_all
 .rw[decide_eq_false h]at hF;exact(jA (pp ab) a9i a hF).elim
def OQ{u x tv w}(hF:ji Stop (sr K u L x tv) (c::fs) w):∃(n:Nat) (f:Option aF) (a d:Nat) (k:Nat->aj),n<=8/\a<=100/\x=.int .i64 n/\tv=.agg #[.slice f a d]/\ji Stop (nM K k L n f a d) (c::fs) w/\pP Stop (sr K u L x tv) (c::fs) w (nM K k L n f a d) (c::fs) w:=by
 have s:=pp ab;have e:(c::fs)≠[]:=a9i
 let ⟨u1,s1⟩:=Ng K u L ((c::fs)++[ay PG]) x tv;let ⟨F1,r1⟩:=cE s e s1 hF;obtain⟨z,rfl⟩:=(Mi K u1 L ((c::fs)++[ay PG]) x tv).resolve_right λh=>jA s e h F1;let ⟨u2,s2⟩:=Mj K z u1 L ((c::fs)++[ay PG]) tv;let ⟨F2,r2⟩:=cE s e s2 F1;have g:z<9:=(ask ab (b:=true) (λb=>yc K u2 L z b tv) (Mk K z u2 L _ tv) F2).1;rw[decide_eq_true g]at F2 r2;let ⟨u3,s3⟩:=Ml K z u2 L ((c::fs)++[ay PG]) tv;let ⟨F3,r3⟩:=cE s e s3 F2;have i: -1<z:=(ask ab (b:=true) (λb=>yd K u3 L z b tv) (Mm K z u3 L _ tv) F3).1;rw[decide_eq_true i]at F3 r3;let ⟨u4,s4⟩:=Mn K z u3 L ((c::fs)++[ay PG]) tv;let ⟨F4,r4⟩:=cE s e s4 F3;obtain⟨x,r,rfl⟩:=(Mo K z u4 L ((c::fs)++[ay PG]) tv).resolve_right λh=>jA s e h F4;let ⟨u5,s5⟩:=Mp K z u4 L ((c::fs)++[ay PG]) x r;let ⟨F5,r5⟩:=cE s e s5 F4;obtain rfl:=(Mz K z u5 L ((c::fs)++[ay PG]) x r).resolve_right λh=>jA s e h F5;let ⟨u6,s6⟩:=MA K z u5 L ((c::fs)++[ay PG]) x;let ⟨F6,r6⟩:=cE s e s6 F5;obtain⟨f,a,d,rfl⟩:=(Mq K z u6 L ((c::fs)++[ay PG]) x).resolve_right λh=>jA s e h F6;let ⟨u7,s7⟩:=Mr K z f a d u6 L ((c::fs)++[ay PG]);let ⟨F7,r7⟩:=cE s e s7 F6;have j:(a:Int)<101:=(ask ab (b:=true) (λb=>ye K u7 L z b f a d) (Ms K z f a d u7 L _) F7).1;rw[decide_eq_true j]at F7 r7;let ⟨u8,s8⟩:=Mu K z f a d u7 L ((c::fs)++[ay PG]);let ⟨F8,r8⟩:=cE s e s8 F7;obtain⟨n,rfl⟩:∃n:Nat,z=n:=⟨z.toNat,a9h⟩;exact⟨n,f,a,d,u8,a9h,a9h,rfl,rfl,F8,r1.trans (r2.trans (r3.trans (r4.trans (r5.trans (r6.trans (r7.trans r8))))))⟩
def OS{u z ao len cap w}(hF:ji Stop (nM K u L z ao len cap) (c::fs) w):∃(p:Nat->aj) (w1:aa),w1.heap=w.heap.push (.cells #[.slice none 0 0] 46)/\(∀a,ao=some a->0<len->∀s t,w1.heap[a.block]? ≠some (.view s t))/\dz w.heap.size w w1/\ji Stop (gH K p L z 0 ao len cap) (c::fs) w1/\pP Stop (nM K u L z ao len cap) (c::fs) w (gH K p L z 0 ao len cap) (c::fs) w1:=by
 have s:=pp ab;have g:(c::fs)≠[]:=a9i
 let ⟨q,i⟩:=qd (fr1:=(nM K u L z ao len cap).finish (.slice (some ⟨w.heap.size,0,none⟩) 1 1)) (gs1:=c::fs) (qt ab) hF (Mw K z ao len cap u L ((c::fs)++[ay PG]) w);let ⟨u1,s1⟩:=Mv K z w.heap.size ao len cap u L ((c::fs)++[ay PG]);let ⟨j,k⟩:=cE s g s1 q;generalize d:({w with heap:=w.heap.push (.cells #[.slice none 0 0] 46)}:aa)=w0 at q i j k;have v:w0.heap[w.heap.size]?=some (.cells #[.slice none 0 0] 46 (0,0)):=by rw[<-d];simp_all
 have r:w0.heap=w.heap.push (.cells #[.slice none 0 0] 46):=by rw[<-d]
 have b:dz w.heap.size w w0:=by rw[<-d];simp[dz.of,bZ]
 obtain⟨B,w1,e,l,f⟩|⟨h,e,y⟩:=Z1 w0 w.heap.size _ v ao len cap
 .let ⟨x,w1',h1,F3,r3⟩:=uJ s g j (Eh K z w.heap.size ao len cap u1 L ((c::fs)++[ay PG])) (Ei K z w.heap.size ao len cap u1 L) (.inl ⟨_,_,e⟩);rw[e]at h1;cases h1;let ⟨u2,s2⟩:=Mx K z w.heap.size B ao len cap u1 L ((c::fs)++[ay PG]);let ⟨F4,r4⟩:=cE s g s2 F3;obtain rfl|rfl:=l
  .exact⟨u2,_,r,λa n o s t=>f a n o s t,b,F4,i.trans (k.trans (r3.trans r4))⟩
  .exact⟨u2,w0.drew,r,λa n o s t=>f a n o s t,⟨b.os,b.size,b.block⟩,F4,i.trans (k.trans (r3.trans r4))⟩
 .let ⟨x,w1',h1,_⟩:=uJ s g j (Eh K z w.heap.size ao len cap u1 L ((c::fs)++[ay PG])) (Ei K z w.heap.size ao len cap u1 L) (.inr ⟨_,_,e,y⟩);rw[e]at h1;cases h1
def OT{u z i a len cap w}(I:i<len)(A:len<=100)(q:∀s t,w.heap[a.block]? ≠some (.view s t))(hF:ji Stop (gX K u L z i (some a) len cap) (c::fs) w):∃(r:Rw) (B:Nat->aj) (w1:aa),jb [r]/\w.cell? ((a.add (i*7)).add 0)=some (.int .u32 r.addr)/\w.cell? ((a.add (i*7)).add 1)=some (.int .i64 r.len)/\w.cell? ((a.add (i*7)).add 2)=some (.int .i64 r.tag)/\w.cell? ((a.add (i*7)).add 3)=some (.int .i64 r.met)/\w.cell? ((a.add (i*7)).add 4)=some (.int .i64 r.an)/\w.cell? ((a.add (i*7)).add 5)=some (.int .i64 r.bi)/\w.cell? ((a.add (i*7)).add 6)=some (.bool r.bM)/\dz w.heap.size w w1/\ji Stop (gH K B L z (i+1) (some a) len cap) (c::fs) w1/\pP Stop (gX K u L z i (some a) len cap) (c::fs) w (gH K B L z (i+1) (some a) len cap) (c::fs) w1:=by
 have s:=pp ab;have k:(c::fs)≠[]:=a9i
 generalize J:(c::fs)++[ay PG]=CS;have C:=H4 w 118 137 7 Gh.underlying118 Gh.sizeOf137 a i len cap I;let ⟨x,w',h1,F1,r1⟩:=uJ s k hF (NW K z i (some a) len cap u L ((c::fs)++[ay PG])) (NX K z i (some a) len cap u L) (.inl ⟨_,_,C⟩);rw[C]at h1;cases h1;let ⟨u1,s1⟩:=NY K z i (some a) (a.add (i*7)) len cap u L ((c::fs)++[ay PG]);let ⟨F2,r2⟩:=cE s k s1 F1;have D:(a.add (i*7)).block=a.block:=pR a _;let ⟨x,w',h1,F3,r3⟩:=uJ s k F2 (s:=L7 (a.add (i*7))) (Nw K z i (some a) (a.add (i*7)) len cap u1 L ((c::fs)++[ay PG])) (Ny K z i (some a) (a.add (i*7)) len cap u1 L) (a3A (by rw[D];exact q));obtain⟨E,o,n,x3,l,j,f,M,c1,c2,N,O,P,Q,rfl,R⟩:=a3z (by rw[D];exact q) h1;obtain rfl:w=w':=R.symm;let ⟨u2,s2⟩:=Nz K z i (some a) (a.add (i*7)) len cap u1 L ((c::fs)++[ay PG]) E o n x3 l j f;let ⟨F4,r4⟩:=cE s k s2 F3;obtain⟨ad,rfl⟩:=(ML K z i (some a) len cap u2 L ((c::fs)++[ay PG]) E o n x3 l j f).resolve_right λh=>jA s k h F4;let ⟨u3,s3⟩:=MM K z i (some a) len cap u2 L ((c::fs)++[ay PG]) o n x3 l j f ad;let ⟨F5,r5⟩:=cE s k s3 F4;have S: -1<ad:=(ask ab (b:=true) (λb=>yf K u3 L z i b (some a) len cap o n x3 l j f ad) (MX K z i (some a) len cap u3 L _ o n x3 l j f ad) F5).1;rw[decide_eq_true S]at F5 r5;let ⟨u4,s4⟩:=MY K z i (some a) len cap u3 L ((c::fs)++[ay PG]) o n x3 l j f ad;let ⟨F6,r6⟩:=cE s k s4 F5;have v:ad<4294967296:=(ask ab (b:=true) (λb=>yh K u4 L z i b (some a) len cap o n x3 l j f ad) (MZ K z i (some a) len cap u4 L _ o n x3 l j f ad) F6).1;rw[decide_eq_true v]at F6 r6;let ⟨u5,s5⟩:=M0 K z i (some a) len cap u4 L ((c::fs)++[ay PG]) o n x3 l j f ad;let ⟨F7,r7⟩:=cE s k s5 F6;obtain⟨g,rfl⟩:=(M1 K z i (some a) len cap u5 L ((c::fs)++[ay PG]) o n x3 l j f ad).resolve_right λh=>jA s k h F7;let ⟨u6,s6⟩:=M2 K z i (some a) len cap u5 L ((c::fs)++[ay PG]) n x3 l j f ad g;let ⟨F8,r8⟩:=cE s k s6 F7;obtain⟨tg,rfl⟩:=(M3 K z i (some a) len cap u6 L ((c::fs)++[ay PG]) n x3 l j f ad g).resolve_right λh=>jA s k h F8;let ⟨u7,s7⟩:=M4 K z i (some a) len cap u6 L ((c::fs)++[ay PG]) x3 l j f ad g tg;let ⟨F9,r9⟩:=cE s k s7 F8;have T: -1<tg:=(ask ab (b:=true) (λb=>yi K u7 L z i b (some a) len cap x3 l j f ad g tg) (M5 K z i (some a) len cap u7 L _ x3 l j f ad g tg) F9).1;rw[decide_eq_true T]at F9 r9;let ⟨u8,s8⟩:=M6 K z i (some a) len cap u7 L ((c::fs)++[ay PG]) x3 l j f ad g tg;let ⟨F10,r10⟩:=cE s k s8 F9;have U:tg<65536:=(ask ab (b:=true) (λb=>yj K u8 L z i b (some a) len cap x3 l j f ad g tg) (M7 K z i (some a) len cap u8 L _ x3 l j f ad g tg) F10).1;rw[decide_eq_true U]at F10 r10;let ⟨u9,s9⟩:=M8 K z i (some a) len cap u8 L ((c::fs)++[ay PG]) x3 l j f ad g tg;let ⟨F11,r11⟩:=cE s k s9 F10;obtain⟨me,rfl⟩:=(M9 K z i (some a) len cap u9 L ((c::fs)++[ay PG]) x3 l j f ad g tg).resolve_right λh=>jA s k h F11;let ⟨u10,s10⟩:=Na K z i (some a) len cap u9 L ((c::fs)++[ay PG]) l j f ad g tg me;let ⟨F12,r12⟩:=cE s k s10 F11;have V:0<me:=(ask ab (b:=true) (λb=>yk K u10 L z i b (some a) len cap l j f ad g tg me) (Nb K z i (some a) len cap u10 L _ l j f ad g tg me) F12).1;rw[decide_eq_true V]at F12 r12;let ⟨u11,s11⟩:=Nc K z i (some a) len cap u10 L ((c::fs)++[ay PG]) l j f ad g tg me;let ⟨F13,r13⟩:=cE s k s11 F12;have W:me<17:=(ask ab (b:=true) (λb=>yl K u11 L z i b (some a) len cap l j f ad g tg me) (Nd K z i (some a) len cap u11 L _ l j f ad g tg me) F13).1;rw[decide_eq_true W]at F13 r13;let ⟨u12,s12⟩:=Nf K z i (some a) len cap u11 L ((c::fs)++[ay PG]) l j f ad g tg me;let ⟨F14,r14⟩:=cE s k s12 F13;obtain⟨p,rfl⟩:=(MN K z i (some a) len cap u12 L ((c::fs)++[ay PG]) l j f ad g tg me).resolve_right λh=>jA s k h F14;let ⟨u13,s13⟩:=MO K z i (some a) len cap u12 L ((c::fs)++[ay PG]) j f ad g tg me p;let ⟨F15,r15⟩:=cE s k s13 F14;obtain⟨ag,rfl⟩:=(MP K z i (some a) len cap u13 L ((c::fs)++[ay PG]) j f ad g tg me p).resolve_right λh=>jA s k h F15;let ⟨u14,s14⟩:=MQ K z i (some a) len cap u13 L ((c::fs)++[ay PG]) f ad g tg me p ag;let ⟨F16,r16⟩:=cE s k s14 F15;obtain⟨F,rfl⟩:=(MR K z i (some a) len cap u14 L ((c::fs)++[ay PG]) f ad g tg me p ag).resolve_right λh=>jA s k h F16;let ⟨u15,s15⟩:=MS K z i (some a) len cap u14 L ((c::fs)++[ay PG]) ad g tg me p ag F;let ⟨F17,r17⟩:=cE s k s15 F16;let ⟨F18,r18⟩:=qd (fr1:=Frame.enter PG 77 #[.agg #[.int .u32 ad,.int .i64 g]] .normal) (gs1:=uR K u15 L z i (some a) len cap ad g::c::fs) (qt ab) F17 (MU K z i (some a) len cap u15 L ((c::fs)++[ay PG]) ad g w);let ⟨x,w1,hq,F19,r19⟩:=BE CC ab k (τ:=w.tape) (d:=w.drawn) (An.{0} ad g w a9h v) (λe w' h=>⟨_,h.1⟩) F18;obtain⟨X,y⟩:=hq;cases X;let ⟨u16,s16⟩:=MT K z i (dn ad g) (some a) len cap u15 L ((c::fs)++[ay PG]) ad g;let ⟨F20,r20⟩:=cE s k s16 F19;have H:dn ad g=true:=by
  cases Y:dn ad g with
  |true=>rfl
  |false=>rw[Y]at F20;exact(jA s k (MV K z i (some a) len cap u16 L _) F20).elim
 rw[H]at F20 r20 r19;let ⟨u17,s17⟩:=MW K z i (some a) len cap u16 L ((c::fs)++[ay PG]);rw[L9 a9h]at s17;let ⟨F21,r21⟩:=cE (fr':=gH K u17 L z (i+1) (some a) len cap) s k s17 F20;refine⟨⟨ad,g,tg,me,p,ag,F⟩,u17,w1,?_,M,c1,c2,N,O,P,Q,dz.of y,F21,r1.trans (r2.trans (r3.trans (r4.trans (r5.trans (r6.trans (r7.trans (r8.trans (r9.trans (r10.trans (r11.trans (r12.trans (r13.trans (r14.trans (r15.trans (r16.trans (r17.trans (r18.trans (r19.trans (r20.trans r21)))))))))))))))))))⟩;intro r Z;obtain rfl:=fM.1 Z;refine⟨⟨a9l,v⟩,H,?_,?_⟩
 .simp[kz];omega
 .simp[fH];omega
omit ab in
def a2X{w b a R r}(h:kt w b a R)(h0:w.cell? ⟨b,a+R.length*7,none⟩=some (.int .u32 r.addr))(e:w.cell? ⟨b,a+R.length*7+1,none⟩=some (.int .i64 r.len))(f:w.cell? ⟨b,a+R.length*7+2,none⟩=some (.int .i64 r.tag))(g:w.cell? ⟨b,a+R.length*7+3,none⟩=some (.int .i64 r.met))(i:w.cell? ⟨b,a+R.length*7+4,none⟩=some (.int .i64 r.an))(j:w.cell? ⟨b,a+R.length*7+5,none⟩=some (.int .i64 r.bi))(l:w.cell? ⟨b,a+R.length*7+6,none⟩=some (.bool r.bM)):kt w b a (R++[r]):=by
 intro k n;by_cases d:k<R.length
 .simp_all;exact h k d
 grind
def OU{z a len cap w B}(C:len<=100)(I:B.heap=w.heap.push (.cells #[.slice none 0 0] 46))(J:∀s t,B.heap[a.block]? ≠some (.view s t))(M:dz w.heap.size w B):∀m i u n R,len - i=m->i<=len->R.length=i->jb R->((i=0/\n=B)\/(a.spot=none/\a.block<w.heap.size/\kt w a.block a.off R))->dz w.heap.size w n->ji Stop (gH K u L z i (some a) len cap) (c::fs) n->∃(D:List Rw) (T:Nat->aj) (w':aa),D.length=len/\jb D/\gy w (some a) D/\dz w.heap.size w w'/\ji Stop (oY K T L z (some a) len cap) (c::fs) w'/\pP Stop (gH K u L z i (some a) len cap) (c::fs) n (oY K T L z (some a) len cap) (c::fs) w':=by
 have s:=pp ab;have E:(c::fs)≠[]:=a9i
 intro m;induction m with
 |zero=>
  intro i u n R V W l b d p hF;obtain rfl:i=len:=a9h
  obtain⟨u1,N⟩:=wE K z i (some a) i cap u L ((c::fs)++[ay PG]);obtain⟨F,H⟩:=cE s E N hF;simp at F H;obtain⟨u2,s2⟩:=Al K z i (some a) i cap u1 L ((c::fs)++[ay PG]);obtain⟨O,P⟩:=cE s E s2 F;refine⟨R,u2,n,l,b,?_,p,O,H.trans P⟩;obtain⟨h0,_⟩|⟨X,h2,Y⟩:=d
  .exact .inl (gj a9h)
  .exact .inr ⟨a.block,a.off,by rw[<-X],Y⟩
 |succ m Z=>
  intro i u n R V W l b d p hF;have Q:i<len:=a9h
  let ⟨u1,N⟩:=wE K z i (some a) len cap u L ((c::fs)++[ay PG]);let ⟨F,H⟩:=cE s E N hF;rw[decide_eq_true a9h]at F H;let ⟨u2,s2⟩:=MD K z i a len cap u1 L ((c::fs)++[ay PG]);let ⟨O,P⟩:=cE s E s2 F;let ⟨u3,s3⟩:=NZ K z i (some a) len cap u2 L ((c::fs)++[ay PG]);let ⟨F3,r3⟩:=cE s E s3 O;have y:n.heap[a.block]?=B.heap[a.block]? :=by
   obtain⟨_,h⟩|⟨_,h,_⟩:=d
   .rw[h]
   .rw[p.block _ h,M.block _ h]
  let ⟨r,u4,w2,hr,c0,c1,c2,c3,c4,c5,c6,hk2,F4,r4⟩:=OT ab Q C (by rw[y];exact J) F3;have q:a.block<w.heap.size:=by
   obtain⟨_,h⟩|⟨_,h,_⟩:=d
   .subst h;have U:=World.block_lt_of_cell? _ _ c1;rw[pR,pR]at U;rw[I,Array.size_push]at U;refine eQ λhn=>?_
    grind[World.cell?,Addr.add]
   .exact h
  have A:=PE c0;have e:∀x:aF,x.add 0=x:=λx=>by simp[Addr.add]
  rw[e]at A c0;have f:a.spot=none:=by
   obtain⟨h,_⟩|⟨h,_⟩:=d
   .subst h;rw[show 0*7=0 from rfl,e]at A;exact A
   .exact h
  have v:a.add (i*7)=⟨a.block,a.off+i*7,none⟩:=by
   unfold Addr.add;split
   .rename_i h;rw[h,<-f];rfl
   .rfl
  have g:∀o:Nat,n.cell? ⟨a.block,o,none⟩=w.cell? ⟨a.block,o,none⟩:=λo=>p.cell (a:=⟨a.block,o,none⟩) q;have hj:∀j,0<j->(a.add (i*7)).add j=⟨a.block,a.off+i*7+j,none⟩:=λj h=>by rw[v];unfold Addr.add;rw[if_neg a9h]
  rw[hj _ a9h,g]at c1 c2 c3 c4 c5 c6;rw[v,g]at c0;have S:kt w a.block a.off R:=by
   obtain⟨h,_⟩|⟨_,_,h⟩:=d
   .have:R=[]:=gj a9h;subst this;intro k p;cases p
   .exact h
  let ⟨D,u5,w5,q1,q2,q3,q4,q5,q6⟩:=Z (i+1) u4 w2 (R++[r]) a9h a9h (by simp[l]) (λx hx=>by
   obtain h|h:=oy.1 hx
   .exact b x h
   .exact hr x h) (.inr ⟨f,q,a2X S (by rw[l];exact c0) (by rw[l];exact c1) (by rw[l];exact c2) (by rw[l];exact c3) (by rw[l];exact c4) (by rw[l];exact c5) (by rw[l];exact c6)⟩) (p.trans (hk2.mono p.size)) F4
  exact⟨D,u5,w5,q1,q2,q3,q4,q5,H.trans (P.trans (r3.trans (r4.trans q6)))⟩
def OP{u x tv w}(k:cA Tryz.progTables.globals.size w)(hF:ji Stop (sr K u L x tv) (c::fs) w):∃(n:Nat) (f:Option aF) (b:Nat) (R:List Rw) (l:Nat->aj) (w':aa),n<=8/\R.length<=100/\x=.int .i64 n/\tv=.agg #[.slice f R.length b]/\jb R/\gy w f R/\dz w.heap.size w w'/\ji Stop (oY K l L n f R.length b) (c::fs) w'/\pP Stop (sr K u L x tv) (c::fs) w (oY K l L n f R.length b) (c::fs) w':=by
 have s:=pp ab;have g:(c::fs)≠[]:=a9i
 obtain⟨n,f,d,b,u1,i,e,rfl,rfl,o,j⟩:=OQ ab hF;let ⟨u2,w1,hw1,hnv,hk1,F2,r2⟩:=OS ab o;cases f with
 |none=>
  let ⟨u3,s3⟩:=wE K n 0 none d b u2 L ((c::fs)++[ay PG]);let ⟨F3,r3⟩:=cE s g s3 F2;by_cases h0:0<d
  .rw[decide_eq_true a9h]at F3;exact(jA s g (MC K n 0 d b u3 L _) F3).elim
  .obtain rfl:d=0:=a9h
   rw[decide_eq_false a9h]at F3 r3;let ⟨u4,s4⟩:=Al K n 0 none 0 b u3 L ((c::fs)++[ay PG]);let ⟨F4,r4⟩:=cE s g s4 F3;exact⟨n,none,b,[],u4,w1,i,a9i,rfl,rfl,λr h=>(by cases h),.inl rfl,hk1,F4,j.trans (r2.trans (r3.trans r4))⟩
 |some a=>
  by_cases h0:0<d
  .let ⟨R,u3,w3,q1,q2,q3,q4,q5,q6⟩:=OU ab e hw1 (hnv a rfl h0) hk1 (d - 0) 0 u2 w1 [] rfl (iP _) rfl (λr h=>(by cases h)) (.inl ⟨rfl,rfl⟩) hk1 F2;subst q1;exact⟨n,some a,b,R,u3,w3,i,e,rfl,rfl,q2,q3,q4,q5,j.trans (r2.trans q6)⟩
  .obtain rfl:d=0:=a9h
   let ⟨u3,s3⟩:=wE K n 0 (some a) 0 b u2 L ((c::fs)++[ay PG]);let ⟨F3,r3⟩:=cE s g s3 F2;simp at F3 r3;let ⟨u4,s4⟩:=Al K n 0 (some a) 0 b u3 L ((c::fs)++[ay PG]);let ⟨F4,r4⟩:=cE s g s4 F3;exact⟨n,some a,b,[],u4,w1,i,a9i,rfl,rfl,λr h=>(by cases h),.inl rfl,hk1,F4,j.trans (r2.trans (r3.trans r4))⟩
end
end Go.Proofs.Each
end
