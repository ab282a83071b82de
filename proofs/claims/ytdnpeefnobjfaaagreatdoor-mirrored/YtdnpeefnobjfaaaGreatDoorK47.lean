import Derived.Test.YtdnpeefnobjfaaaGreatDoorK37
import Derived.Test.YtdnpeefnobjfaaaGreatDoorK45
set_option maxRecDepth 100000
set_option maxHeartbeats 4000000
set_option linter.all false
section
namespace Go.Mir
open Go Go.Conc
section
variable{P:ay}{Stop:ah->List ah->aa->Prop}
def a1A(c:P.inits.idxOf? P.funcs.size=none){fr}(f:fr.mode=.returning)(i:fr.defers=[])(g:fr.kind=.normal):∀{n} {fr'} {b} {w w'},runN P n (lone fr [aB P] w)=.next (lone fr' b w')->b.length<=1:=by
 intro n fr' b w w' h;cases n with
 |zero=>simp only[runN,Stepped.next.injEq]at h;obtain⟨_,rfl,_⟩:=mJ h;simp
 |succ n=>
  simp only[runN]at h;have d:(∃x a es,stepG P true (an fr [aB P]) w=.go (an ((aB P).finish x) []) a es)\/∃o a es,stepG P true (an fr [aB P]) w=.ended o a es:=by
   rw[j4 (by rw[f];simp)];unfold unwind;rw[i];dsimp only;rw[f];dsimp only;cases m:P.funcs[fr.fn]? with
   |none=>dsimp only;simp only[doReturn,g];exact .inl ⟨_,_,_,rfl⟩
   |some j=>
    dsimp only;rcases p:(results j fr.tmps).runT P w #[]with⟨r,es⟩;cases r with
    |ok v a=>dsimp only;simp only[doReturn,g,GStep.after];exact .inl ⟨v,a,_,rfl⟩
    |halt h a=>cases h<;>exact .inr ⟨_,_,_,rfl⟩
  obtain⟨x,a,es,e⟩|⟨o,a,es,e⟩:=d
  .rw[sE e]at h;dsimp only at h;cases n with
   |zero=>simp only[runN,Stepped.next.injEq]at h;obtain⟨_,rfl,_⟩:=mJ h;simp
   |succ n=>obtain⟨o,q,k,l⟩:=A4 (w:=a) c (t:=(aB P).finish x) (.inr (.inl ⟨x,rfl⟩));simp only[runN]at h;rw[oN l]at h;cases h
  .rw[oN e]at h;cases h
def QY{trap fr gs w}(a: ¬Stop fr gs w)(h:Fin P trap Stop fr gs w)(τ d):Fin P trap Stop fr gs (re w τ d):=by
 cases h with
 |stop b=>exact absurd b a
 |step c e f g h i=>exact .step c e f g h i
def Reach.first{trap fr fr2 gs a w w2}(h:Reach P trap Stop fr gs w fr2 a w2):a=gs\/∃τ d b c e f,¬Stop fr gs w/\stepG P true (an fr (gs++[trap])) (re w τ d)=.go (an b (c++[trap])) e f/\Reach P trap Stop b c e fr2 a w2:=by
 cases h with
 |refl=>exact .inl rfl
 |step τ d g i j=>exact .inr ⟨τ,d,_,_,_,_,g,i,j⟩
def QW(c:P.inits.idxOf? P.funcs.size=none)(d:∀fr g w,Stop fr g w->g=[]/\fr.mode=.returning/\fr.defers=[]/\fr.kind=.normal):∀{n} {fr fr'} {gs a} {w w'},a≠[]->Fin P (aB P) Stop fr gs w->runN P n (lone fr (gs++[aB P]) w)=.next (lone fr' (a++[aB P]) w')->Fin P (aB P) Stop fr' a w'/\Reach P (aB P) Stop fr gs w fr' a w':=by
 intro n;induction n with
 |zero=>intro fr fr' gs a w w' _ hF h;simp only[runN,Stepped.next.injEq]at h;obtain⟨rfl,i,rfl⟩:=mJ h;have:=jA i;subst this;exact⟨hF,.refl⟩
 |succ n j=>
  intro fr fr' gs a w w' b hF h;by_cases e:Stop fr gs w
  .exfalso;obtain⟨rfl,k,l,m⟩:=d _ _ _ e;have:=a1A c k l m h;rw[ia]at this;have:a.length≠0:=λh=>b (fq h);simp only[a7Z]at*;omega
  .obtain⟨o,p,s,t,f,q⟩:=rW hF e w.tape w.drawn;rw[lp]at f;simp only[runN,sE f]at h;obtain⟨q1,r⟩:=j b q h;exact⟨q1,.step w.tape w.drawn e (by rw[lp];exact f) r⟩
def zy(m:P.inits.idxOf? P.funcs.size=none)(i:∀k a w,Stop k a w->a=[]/\k.mode=.returning/\k.defers=[]/\k.kind=.normal){f args c a}(o:a≠[]){w τ d Q}(r:Calls P f args (re w τ d) Q)(s:∀e w',Q e w'->∃x,e=.returned x)(hF:Fin P (aB P) Stop (Frame.enter P f args .normal) (c::a) w):∃x w',Q (.returned x) w'/\Fin P (aB P) Stop (c.finish x) a w'/\Reach P (aB P) Stop (Frame.enter P f args .normal) (c::a) w (c.finish x) a w':=by
 obtain⟨e,w',k,p,b,_,g⟩:=r ((c::a)++[aB P]);obtain⟨x,rfl⟩:=s _ _ p;obtain⟨n,t⟩:Steps P _ _:=b;have l: ¬Stop (Frame.enter P f args .normal) (c::a) w:=λh=>by have:=(i _ _ _ h).1;cases this
 have u:runN P (n+1) (lone (Frame.enter P f args .normal) ((c::a)++[aB P]) (re w τ d))=.next (lone (c.finish x) (a++[aB P]) w'):=by rw[xd _ 1 _ _ t];have:=step_leave_returned (c:=c) (cs:=a++[aB P]) g;simp only[runN];rw[show(c::a)++[aB P]=c::(a++[aB P])from rfl,this]
 refine⟨x,w',p,?_⟩;have q: ¬Stop (Frame.enter P f args .normal) (c::a) (re w τ d):=λh=>by have:=(i _ _ _ h).1;cases this
 obtain⟨q1,v⟩:=QW m i o (QY l hF τ d) u;refine⟨q1,?_⟩;obtain h|⟨y,z,A,B,D,E,_,C,j⟩:=v.first
 .exfalso;have:=congrArg List.length h;simp at this
 .exact .step y z l C j
end
end Go.Mir
end
section
namespace Go.Proofs.Each
open Go.Conc Go.Mir
def de(n:Nat)(fr fr':ah)(cs:List ah):Prop:=aS PG true n (an fr cs) (an fr' cs)/\∀i,i<=n->(aG PG true i (an fr cs)).callers=cs
def Ig{n fr fr' cs}(h:∀w,pf PG true n (an fr cs) w=oI PG true n (an fr cs) w)(c:qx PG true n (an fr cs)=List.replicate n .running)(d:aG PG true n (an fr cs)=an fr' cs)(e:((List.range (n+1)).map λi=>(aG PG true i (an fr cs)).callers)=List.replicate (n+1) cs):de n fr fr' cs:=
 ⟨eN h c d,λi f=>iA e i (by omega)⟩
def eT(fr:ah)(cs:List ah):Prop:=∃n c,aS PG true n (an fr cs) c/\(∀i,i<=n->(aG PG true i (an fr cs)).callers=cs)/\∀w,lO (stepG PG true c w)=true
def eW{fr cs}(h:∀w,lO (stepG PG true (an fr cs) w)=true):eT fr cs:=⟨0,_,.nil,λi c=>Nat.le_zero.1 c▸rfl,h⟩
def du{n fr}{F:(Nat->af)->ah}{cs}(h:∀w,(pf PG true n (an fr cs) w,qx PG true n (an fr cs),aG PG true n (an fr cs),(List.range (n+1)).map λi=>(aG PG true i (an fr cs)).callers)=(oI PG true n (an fr cs) w,List.replicate n .running,an (F (uo (aG PG true n (an fr cs)))) cs,List.replicate (n+1) cs)):∃c,de n fr (F c) cs:=
 ⟨_,Ig (λw=>congrArg (·.1) (h w)) (congrArg (·.2.1) (h default)) (congrArg (·.2.2.1) (h default)) (congrArg (·.2.2.2) (h default))⟩
def dd(n){fr cs}(h:∀w,(pf PG true n (an fr cs) w,qx PG true n (an fr cs),lO (stepG PG true (aG PG true n (an fr cs)) w),(List.range (n+1)).map λi=>(aG PG true i (an fr cs)).callers)=(oI PG true n (an fr cs) w,List.replicate n .running,true,List.replicate (n+1) cs)):eT fr cs:=
 ⟨n,_,cq (λw=>congrArg (·.1) (h w)) (congrArg (·.2.1) (h default)),λi c=>iA (congrArg (·.2.2.2) (h default)) i (by omega),λw=>congrArg (·.2.2.1) (h w)⟩
section
variable{Stop:ah->List ah->aa->Prop}{fr fr':ah}{gs:List ah}{w:aa}
def cU(c:∀fr f w,Stop fr f w->f=[])(d:gs≠[]){n}(g:de n fr fr' (gs++[aB PG]))(hF:Fin PG (aB PG) Stop fr gs w):Fin PG (aB PG) Stop fr' gs w/\Mir.Reach PG (aB PG) Stop fr gs w fr' gs w:=by obtain⟨l,e,h,j⟩:=lN c d rfl g.1 rfl g.2 hF;obtain⟨rfl,_⟩:=ej e;exact⟨h,j⟩
def jg(c:∀fr e w,Stop fr e w->e=[])(d:gs≠[])(f:eT fr (gs++[aB PG]))(hF:Fin PG (aB PG) Stop fr gs w):False:=by obtain⟨n,l,g,h,j⟩:=f;exact oC c d rfl g rfl h j hF
end
noncomputable def JE:List Item:=[.code (Gh.iD.body.getD .skip)]
noncomputable def a0W:aw:=an ⟨106,⟨.int .i64 2:: .agg #[.slice (some ⟨3,0,none⟩) 1 1]::List.replicate 49 undef⟩,JE,[],.run,.normal,none⟩ []
noncomputable def Ik:aw:=aG PG true 2 (a0W)
noncomputable def a4O:List Item:=Ik.frame.todo
noncomputable def Il:aw:=aG PG true 3 (Ik)
noncomputable def a4P:List Item:=Il.frame.todo
noncomputable def Im:aw:=aG PG true 7 (Il)
noncomputable def a4Q:List Item:=Im.frame.todo
noncomputable def Io:aw:=aG PG true 4 (Im)
noncomputable def a4R:List Item:=Io.frame.todo
noncomputable def It:aw:=aG PG true 1 (Io)
noncomputable def a4W:List Item:=It.frame.todo
noncomputable def Ip:aw:=aG PG true 4 (It)
noncomputable def a4S:List Item:=Ip.frame.todo
noncomputable def Iq:aw:=aG PG true 7 (Ip)
noncomputable def a4T:List Item:=Iq.frame.todo
noncomputable def Ir:aw:=aG PG true 4 (Iq)
noncomputable def a4U:List Item:=Ir.frame.todo
noncomputable def Is:aw:=aG PG true 3 (fin Ir (.slice (some ⟨7,0,none⟩) 1 1))
noncomputable def a4V:List Item:=Is.frame.todo
noncomputable def II:aw:=aG PG true 8 (fin Is (.bool false))
noncomputable def JF:List Item:=II.frame.todo
noncomputable def xl:aw:=aG PG true 5 (II)
noncomputable def a4X:List Item:=xl.frame.todo
noncomputable def IQ:aw:=aG PG true 7 (xl)
noncomputable def a5v:List Item:=IQ.frame.todo
noncomputable def IP:aw:=aG PG true 4 (IQ)
noncomputable def a5u:List Item:=IP.frame.todo
noncomputable def IM:aw:=aG PG true 0 (fin IP (.pointer (some ⟨3,0,none⟩)))
noncomputable def a5s:List Item:=IM.frame.todo
noncomputable def Iu:aw:=aG PG true 15 (fin IM (.agg #[.int .u32 0,.int .i64 0,.int .i64 0,.int .i64 1,.int .i64 0,.int .i64 0,.bool true]))
noncomputable def a4Y:List Item:=Iu.frame.todo
noncomputable def Iv:aw:=aG PG true 3 (Iu)
noncomputable def a4Z:List Item:=Iv.frame.todo
noncomputable def IA:aw:=aG PG true 7 (Iv)
noncomputable def a5f:List Item:=IA.frame.todo
noncomputable def IB:aw:=aG PG true 4 (IA)
noncomputable def a5g:List Item:=IB.frame.todo
noncomputable def IC:aw:=aG PG true 4 (IB)
noncomputable def a5h:List Item:=IC.frame.todo
noncomputable def ID:aw:=aG PG true 3 (IC)
noncomputable def a5i:List Item:=ID.frame.todo
noncomputable def IE:aw:=aG PG true 7 (ID)
noncomputable def a5j:List Item:=IE.frame.todo
noncomputable def IF:aw:=aG PG true 4 (IE)
noncomputable def a5k:List Item:=IF.frame.todo
noncomputable def IG:aw:=aG PG true 3 (IF)
noncomputable def a5l:List Item:=IG.frame.todo
noncomputable def IH:aw:=aG PG true 7 (IG)
noncomputable def a5m:List Item:=IH.frame.todo
noncomputable def Iw:aw:=aG PG true 4 (IH)
noncomputable def a5a:List Item:=Iw.frame.todo
noncomputable def Ix:aw:=aG PG true 4 (Iw)
noncomputable def a5b:List Item:=Ix.frame.todo
noncomputable def Iy:aw:=aG PG true 4 (Ix)
noncomputable def a5c:List Item:=Iy.frame.todo
noncomputable def Iz:aw:=aG PG true 4 (Iy)
noncomputable def a5d:List Item:=Iz.frame.todo
noncomputable def a0V:aw:=aG PG true 2 (an (Iz.frame.finish (.bool true)) [])
noncomputable def a5e:List Item:=a0V.frame.todo
noncomputable def IR:aw:=aG PG true 2 (an {xl.frame with tmps:=xl.frame.tmps.setIfInBounds 26 (.bool false)} [])
noncomputable def a5w:List Item:=IR.frame.todo
noncomputable def IN:aw:=aG PG true 7 (IR)
noncomputable def a5t:List Item:=IN.frame.todo
noncomputable def IJ:aw:=aG PG true 10 (fin IN (.slice (some ⟨8,0,none⟩) 2 2))
noncomputable def JG:List Item:=IJ.frame.todo
noncomputable def xm:aw:=aG PG true 5 (IJ)
noncomputable def a5n:List Item:=xm.frame.todo
noncomputable def IL:aw:=aG PG true 4 (xm)
noncomputable def a5r:List Item:=IL.frame.todo
noncomputable def IK:aw:=aG PG true 4 (an (IL.frame.finish (.slice none 0 0)) [])
noncomputable def a5o:List Item:=IK.frame.todo
noncomputable def a0Y:aw:=aG PG true 0 (fin IK (.pointer (some ⟨8,0,none⟩)))
noncomputable def a5q:List Item:=a0Y.frame.todo
noncomputable def a0X:aw:=aG PG true 4 (an {xm.frame with tmps:=xm.frame.tmps.setIfInBounds 12 (.bool false)} [])
noncomputable def a5p:List Item:=a0X.frame.todo
section
variable(K:Bool)(u:Nat->af)(L:List af)(z:Int)(n D i k tb:Nat)(b:Bool)(ao:Option ap)(a:ap)(len cap:Nat)(x E tv x1 B x3 t s o:af)(m q v A C H:Int)
noncomputable def pU:ah:=az K (x::tv::sq u 2 49 L) JE
noncomputable def zJ:ah:=az K (x::tv::sq u 2 49 L) a4O
noncomputable def vw:ah:=az K (.int .i64 z::tv::sq u 2 15 (.bool b::sq u 18 33 L)) a4P
noncomputable def vz:ah:=az K (.int .i64 z::tv::sq u 2 16 (.bool b::sq u 19 32 L)) a4Q
noncomputable def zK:ah:=az K (.int .i64 z::tv::sq u 2 49 L) a4R
noncomputable def zM:ah:=az K (.int .i64 z::tv::sq u 2 18 (x::sq u 21 30 L)) a4W
noncomputable def zL:ah:=az K (.int .i64 z:: .agg #[x]::sq u 2 18 (x::sq u 21 30 L)) a4S
noncomputable def vA:ah:=az K (.int .i64 z:: .agg #[.slice ao len cap]::sq u 2 18 (.slice ao len cap:: .int .i64 len:: .bool b::sq u 23 28 L)) a4T
noncomputable def mG:ah:=az K (.int .i64 z:: .agg #[.slice ao len cap]::sq u 2 18 (.slice ao len cap:: .int .i64 len::sq u 22 29 L)) a4U
noncomputable def sd:ah:=az K (.int .i64 z:: .agg #[.slice ao len cap]::sq u 2 18 (.slice ao len cap:: .int .i64 len::u 22:: .slice (some ⟨D,0,none⟩) 1 1::sq u 24 27 L)) a4V
noncomputable def gH:ah:=az K (.int .i64 z:: .agg #[.slice ao len cap]::sq u 2 18 (.slice ao len cap:: .int .i64 len::sq u 22 3 (.int .i64 i::sq u 26 25 L))) JF
noncomputable def gC:ah:=az K (.int .i64 z:: .agg #[.slice ao len cap]::sq u 2 18 (.slice ao len cap:: .int .i64 len::sq u 22 3 (.int .i64 i:: .bool b::sq u 27 24 L))) a4X
noncomputable def gY:ah:=az K (.int .i64 z:: .agg #[.slice ao len cap]::sq u 2 18 (.slice ao len cap:: .int .i64 len::sq u 22 3 (.int .i64 i::sq u 26 24 (.bool b::L)))) a5v
noncomputable def gX:ah:=az K (.int .i64 z:: .agg #[.slice ao len cap]::sq u 2 18 (.slice ao len cap:: .int .i64 len::sq u 22 3 (.int .i64 i::sq u 26 25 L))) a5u
noncomputable def sk:ah:=az K (.int .i64 z:: .agg #[.slice ao len cap]::sq u 2 18 (.slice ao len cap:: .int .i64 len::sq u 22 3 (.int .i64 i::u 26:: .pointer (some a)::sq u 28 23 L))) a5s
noncomputable def zN:ah:=az K (.int .i64 z:: .agg #[.slice ao len cap]::sq u 2 18 (.slice ao len cap:: .int .i64 len::sq u 22 3 (.int .i64 i::sq u 26 4 (.agg #[E,x1]::E::x1::B::x3::t::s::o::sq u 38 13 L)))) a4Y
noncomputable def vB:ah:=az K (.int .i64 z:: .agg #[.slice ao len cap]::sq u 2 18 (.slice ao len cap:: .int .i64 len::sq u 22 3 (.int .i64 i::sq u 26 4 (.agg #[.int .u32 m,x1]:: .int .u32 m::x1::B::x3::t::s::o:: .bool b::sq u 39 12 L)))) a4Z
noncomputable def vC:ah:=az K (.int .i64 z:: .agg #[.slice ao len cap]::sq u 2 18 (.slice ao len cap:: .int .i64 len::sq u 22 3 (.int .i64 i::sq u 26 4 (.agg #[.int .u32 m,x1]:: .int .u32 m::x1::B::x3::t::s::o::u 38:: .bool b::sq u 40 11 L)))) a5f
noncomputable def zV:ah:=az K (.int .i64 z:: .agg #[.slice ao len cap]::sq u 2 18 (.slice ao len cap:: .int .i64 len::sq u 22 3 (.int .i64 i::sq u 26 4 (.agg #[.int .u32 m,x1]:: .int .u32 m::x1::B::x3::t::s::o::sq u 38 13 L)))) a5g
noncomputable def zW:ah:=az K (.int .i64 z:: .agg #[.slice ao len cap]::sq u 2 18 (.slice ao len cap:: .int .i64 len::sq u 22 3 (.int .i64 i::sq u 26 4 (.agg #[.int .u32 m,.int .i64 q]:: .int .u32 m:: .int .i64 q::B::x3::t::s::o::sq u 38 13 L)))) a5h
noncomputable def vD:ah:=az K (.int .i64 z:: .agg #[.slice ao len cap]::sq u 2 18 (.slice ao len cap:: .int .i64 len::sq u 22 3 (.int .i64 i::sq u 26 4 (.agg #[.int .u32 m,.int .i64 q]:: .int .u32 m:: .int .i64 q:: .int .i64 v::x3::t::s::o::sq u 38 3 (.bool b::sq u 42 9 L))))) a5i
noncomputable def vE:ah:=az K (.int .i64 z:: .agg #[.slice ao len cap]::sq u 2 18 (.slice ao len cap:: .int .i64 len::sq u 22 3 (.int .i64 i::sq u 26 4 (.agg #[.int .u32 m,.int .i64 q]:: .int .u32 m:: .int .i64 q:: .int .i64 v::x3::t::s::o::sq u 38 4 (.bool b::sq u 43 8 L))))) a5j
noncomputable def zX:ah:=az K (.int .i64 z:: .agg #[.slice ao len cap]::sq u 2 18 (.slice ao len cap:: .int .i64 len::sq u 22 3 (.int .i64 i::sq u 26 4 (.agg #[.int .u32 m,.int .i64 q]:: .int .u32 m:: .int .i64 q:: .int .i64 v::x3::t::s::o::sq u 38 13 L)))) a5k
noncomputable def vF:ah:=az K (.int .i64 z:: .agg #[.slice ao len cap]::sq u 2 18 (.slice ao len cap:: .int .i64 len::sq u 22 3 (.int .i64 i::sq u 26 4 (.agg #[.int .u32 m,.int .i64 q]:: .int .u32 m:: .int .i64 q:: .int .i64 v:: .int .i64 A::t::s::o::sq u 38 5 (.bool b::sq u 44 7 L))))) a5l
noncomputable def vG:ah:=az K (.int .i64 z:: .agg #[.slice ao len cap]::sq u 2 18 (.slice ao len cap:: .int .i64 len::sq u 22 3 (.int .i64 i::sq u 26 4 (.agg #[.int .u32 m,.int .i64 q]:: .int .u32 m:: .int .i64 q:: .int .i64 v:: .int .i64 A::t::s::o::sq u 38 6 (.bool b::sq u 45 6 L))))) a5m
noncomputable def zO:ah:=az K (.int .i64 z:: .agg #[.slice ao len cap]::sq u 2 18 (.slice ao len cap:: .int .i64 len::sq u 22 3 (.int .i64 i::sq u 26 4 (.agg #[.int .u32 m,.int .i64 q]:: .int .u32 m:: .int .i64 q:: .int .i64 v:: .int .i64 A::t::s::o::sq u 38 13 L)))) a5a
noncomputable def zQ:ah:=az K (.int .i64 z:: .agg #[.slice ao len cap]::sq u 2 18 (.slice ao len cap:: .int .i64 len::sq u 22 3 (.int .i64 i::sq u 26 4 (.agg #[.int .u32 m,.int .i64 q]:: .int .u32 m:: .int .i64 q:: .int .i64 v:: .int .i64 A:: .int .i64 C::s::o::sq u 38 13 L)))) a5b
noncomputable def zR:ah:=az K (.int .i64 z:: .agg #[.slice ao len cap]::sq u 2 18 (.slice ao len cap:: .int .i64 len::sq u 22 3 (.int .i64 i::sq u 26 4 (.agg #[.int .u32 m,.int .i64 q]:: .int .u32 m:: .int .i64 q:: .int .i64 v:: .int .i64 A:: .int .i64 C:: .int .i64 H::o::sq u 38 13 L)))) a5c
noncomputable def sf:ah:=az K (.int .i64 z:: .agg #[.slice ao len cap]::sq u 2 18 (.slice ao len cap:: .int .i64 len::sq u 22 3 (.int .i64 i::sq u 26 4 (.agg #[.int .u32 m,.int .i64 q]::sq u 31 20 L)))) a5d
noncomputable def zU:ah:=az K (.int .i64 z:: .agg #[.slice ao len cap]::sq u 2 18 (.slice ao len cap:: .int .i64 len::sq u 22 3 (.int .i64 i::sq u 26 21 (.bool b::sq u 48 3 L)))) a5e
noncomputable def nC:ah:=az K (.int .i64 z:: .agg #[.slice ao len cap]::sq u 2 49 L) a5w
noncomputable def fE:ah:=az K (.int .i64 n:: .agg #[.slice ao len cap]::sq u 2 6 (.int .i64 n::sq u 9 42 L)) a5t
noncomputable def gJ:ah:=az K (u 0:: .agg #[.slice ao len cap]::sq u 2 3 (.slice (some ⟨tb,0,none⟩) n n::sq u 6 4 (.int .i64 n:: .int .i64 k::sq u 12 39 L))) JG
noncomputable def zY:ah:=az K (u 0:: .agg #[.slice ao len cap]::sq u 2 3 (.slice (some ⟨tb,0,none⟩) n n::sq u 6 4 (.int .i64 n:: .int .i64 k:: .bool b::sq u 13 38 L))) a5n
noncomputable def sj:ah:=az K (u 0:: .agg #[.slice ao len cap]::sq u 2 3 (.slice (some ⟨tb,0,none⟩) n n::sq u 6 4 (.int .i64 n:: .int .i64 k::sq u 12 39 L))) a5r
noncomputable def si:ah:=az K (u 0:: .agg #[.slice ao len cap]::sq u 2 3 (.slice (some ⟨tb,0,none⟩) n n::x::sq u 7 3 (.int .i64 n:: .int .i64 k::sq u 12 39 L))) a5o
noncomputable def oH:ah:=az K (u 0:: .agg #[.slice ao len cap]::sq u 2 3 (.slice (some ⟨tb,0,none⟩) n n::x::sq u 7 3 (.int .i64 n:: .int .i64 k::u 12::u 13:: .pointer (some a)::sq u 15 36 L))) a5q
noncomputable def nB:ah:=az K (sq u 0 5 (.slice (some ⟨tb,0,none⟩) n n::sq u 6 45 L)) a5p
end
section
variable(K:Bool)(z:Int)(n i k D tb:Nat)(b:Bool)(ao:Option ap)(a:ap)(len cap:Nat)(u:Nat->af)(L:List af)(cs:List ah)(x tv E x1 B x3 t s o:af)(m q v A C H:Int)(I:Bool)
def KO:∃c,de 2 (pU K u L x tv) (zJ K c L x tv) cs:=by cases K<;>exact du λw=>by kernel_rfl
def JM:(∃c,x=.int .i64 c)\/eT (zJ K u L x tv) cs:=by
 cases x with
 |int kd c=>cases kd<;>first|exact .inl ⟨c,rfl⟩|exact .inr (eW λw=>by cases K<;>kernel_rfl)
 |pointer p=>cases p<;>exact .inr (eW λw=>by cases K<;>kernel_rfl)
 |_=>exact .inr (eW λw=>by cases K<;>kernel_rfl)
def JN:∃c,de 3 (zJ K u L (.int .i64 z) tv) (vw K c L z (decide (z<9)) tv) cs:=by cases K<;>exact du λw=>by kernel_rfl
def JO:eT (vw K u L z false tv) cs:=by cases K<;>exact dd 1 λw=>by kernel_rfl
def JP:∃c,de 7 (vw K u L z true tv) (vz K c L z (decide (-1<z)) tv) cs:=by cases K<;>exact du λw=>by kernel_rfl
def JQ:eT (vz K u L z false tv) cs:=by cases K<;>exact dd 1 λw=>by kernel_rfl
def JR:∃c,de 4 (vz K u L z true tv) (zK K c L z tv) cs:=by cases K<;>exact du λw=>by kernel_rfl
def JS:(∃x r,tv=.agg ⟨x::r⟩)\/eT (zK K u L z tv) cs:=by
 cases tv with
 |agg c=>
  obtain⟨c⟩:=c;cases c with
  |nil=>exact .inr (eW λw=>by cases K<;>kernel_rfl)
  |cons x r=>exact .inl ⟨x,r,rfl⟩
 |_=>exact .inr (eW λw=>by cases K<;>kernel_rfl)
def JT(r):∃c,de 1 (zK K u L z (.agg ⟨x::r⟩)) (zM K c L z x (.agg ⟨x::r⟩)) cs:=by cases K<;>exact du λw=>by kernel_rfl
def J2(r):r=[]\/eT (zM K u L z x (.agg ⟨x::r⟩)) cs:=by
 cases r with
 |nil=>exact .inl rfl
 |cons y r=>exact .inr (eW λw=>by cases K<;>kernel_rfl)
def J3:∃c,de 4 (zM K u L z x (.agg #[x])) (zL K c L z x) cs:=by cases K<;>exact du λw=>by kernel_rfl
def JU:(∃ao len cap,x=.slice ao len cap)\/eT (zL K u L z x) cs:=by
 cases x with
 |slice ao len cap=>exact .inl ⟨ao,len,cap,rfl⟩
 |_=>exact .inr (eW λw=>by cases K<;>kernel_rfl)
def JV:∃c,de 7 (zL K u L z (.slice ao len cap)) (vA K c L z (decide ((len:Int)<101)) ao len cap) cs:=by cases K<;>exact du λw=>by kernel_rfl
def JW:eT (vA K u L z false ao len cap) cs:=by cases K<;>exact dd 1 λw=>by kernel_rfl
def JX:∃c,de 4 (vA K u L z true ao len cap) (mG K c L z ao len cap) cs:=by cases K<;>exact du λw=>by kernel_rfl
def JZ(w):stepG PG true (an (mG K u L z ao len cap) cs) w=.go (fin (an (mG K u L z ao len cap) cs) (.slice (some ⟨w.heap.size,0,none⟩) 1 1)) {w with heap:=w.heap.push (.cells #[.slice none 0 0] 46)} #[]:=by cases K<;>kernel_rfl
def JY:∃c,de 3 ((mG K u L z ao len cap).finish (.slice (some ⟨D,0,none⟩) 1 1)) (sd K c L z D ao len cap) cs:=by cases K<;>exact du λw=>by kernel_rfl
def B2(w):stepG PG true (an (sd K u L z D ao len cap) cs) w=stepG.apply PG true (sd K u L z D ao len cap) cs none (callFunc 194 #[.slice (some ⟨D,0,none⟩) 1 1,.slice ao len cap]) w:=by cases K<;>kernel_rfl
def B3:((sd K u L z D ao len cap).kind==.early)=false:=by cases K<;>kernel_rfl
def J0:∃c,de 8 ((sd K u L z D ao len cap).finish (.bool b)) (gH K c L z 0 ao len cap) cs:=by cases K<;>exact du λw=>by kernel_rfl
def tV:∃c,de 5 (gH K u L z i ao len cap) (gC K c L z i (decide ((i:Int)<(len:Int))) ao len cap) cs:=by cases K<;>exact du λw=>by kernel_rfl
def J5:∃c,de 7 (gC K u L z i true (some a) len cap) (gY K c L z i false (some a) len cap) cs:=by cases K<;>exact du λw=>by kernel_rfl
def J4:eT (gC K u L z i true none len cap) cs:=by cases K<;>exact dd 8 λw=>by kernel_rfl
def Lw:∃c,de 4 (gY K u L z i false ao len cap) (gX K c L z i ao len cap) cs:=by cases K<;>exact du λw=>by kernel_rfl
def xQ:∃c,de 2 (gC K u L z i false ao len cap) (nC K c L z ao len cap) cs:=by cases K<;>exact du λw=>by kernel_rfl
def Lt(w):stepG PG true (an (gX K u L z i ao len cap) cs) w=stepG.apply PG true (gX K u L z i ao len cap) cs none (do pure (.value (<-Instr.indexAt 118 (.slice ao len cap) (.int .i64 i)))) w:=by cases K<;>kernel_rfl
def Lu:((gX K u L z i ao len cap).kind==.early)=false:=by cases K<;>kernel_rfl
def Lv:∃c,de 0 ((gX K u L z i ao len cap).finish (.pointer (some a))) (sk K c L z i ao a len cap) cs:=by cases K<;>exact du λw=>by kernel_rfl
def K4(w):stepG PG true (an (sk K u L z i ao a len cap) cs) w=stepG.apply PG true (sk K u L z i ao a len cap) cs none (.load .plain (a.add 0) λc=>.load .plain (a.add 1) λd=>.load .plain (a.add 2) λe=>.load .plain (a.add 3) λf=>.load .plain (a.add 4) λg=>.load .plain (a.add 5) λh=>.load .plain (a.add 6) λj=>.pure (.value (.agg #[c,d,e,f,g,h,j]))) w:=by cases K<;>kernel_rfl
def K5:((sk K u L z i ao a len cap).kind==.early)=false:=by cases K<;>kernel_rfl
def K6:∃c,de 15 ((sk K u L z i ao a len cap).finish (.agg #[E,x1,B,x3,t,s,o])) (zN K c L z i ao len cap E x1 B x3 t s o) cs:=by cases K<;>exact du λw=>by kernel_rfl
def Ki:(∃c,E=.int .u32 c)\/eT (zN K u L z i ao len cap E x1 B x3 t s o) cs:=by
 cases E with
 |int kd c=>cases kd<;>first|exact .inl ⟨c,rfl⟩|exact .inr (eW λw=>by cases K<;>kernel_rfl)
 |pointer p=>cases p<;>exact .inr (eW λw=>by cases K<;>kernel_rfl)
 |_=>exact .inr (eW λw=>by cases K<;>kernel_rfl)
def Kj:∃c,de 3 (zN K u L z i ao len cap (.int .u32 m) x1 B x3 t s o) (vB K c L z i (decide (-1<m)) ao len cap x1 B x3 t s o m) cs:=by cases K<;>exact du λw=>by kernel_rfl
def Ku:eT (vB K u L z i false ao len cap x1 B x3 t s o m) cs:=by cases K<;>exact dd 1 λw=>by kernel_rfl
def Kv:∃c,de 7 (vB K u L z i true ao len cap x1 B x3 t s o m) (vC K c L z i (decide (m<4294967296)) ao len cap x1 B x3 t s o m) cs:=by cases K<;>exact du λw=>by kernel_rfl
def Kw:eT (vC K u L z i false ao len cap x1 B x3 t s o m) cs:=by cases K<;>exact dd 1 λw=>by kernel_rfl
def Kx:∃c,de 4 (vC K u L z i true ao len cap x1 B x3 t s o m) (zV K c L z i ao len cap x1 B x3 t s o m) cs:=by cases K<;>exact du λw=>by kernel_rfl
def Ky:(∃c,x1=.int .i64 c)\/eT (zV K u L z i ao len cap x1 B x3 t s o m) cs:=by
 cases x1 with
 |int kd c=>cases kd<;>first|exact .inl ⟨c,rfl⟩|exact .inr (eW λw=>by cases K<;>kernel_rfl)
 |pointer p=>cases p<;>exact .inr (eW λw=>by cases K<;>kernel_rfl)
 |_=>exact .inr (eW λw=>by cases K<;>kernel_rfl)
def Kz:∃c,de 4 (zV K u L z i ao len cap (.int .i64 q) B x3 t s o m) (zW K c L z i ao len cap B x3 t s o m q) cs:=by cases K<;>exact du λw=>by kernel_rfl
def KA:(∃c,B=.int .i64 c)\/eT (zW K u L z i ao len cap B x3 t s o m q) cs:=by
 cases B with
 |int kd c=>cases kd<;>first|exact .inl ⟨c,rfl⟩|exact .inr (eW λw=>by cases K<;>kernel_rfl)
 |pointer p=>cases p<;>exact .inr (eW λw=>by cases K<;>kernel_rfl)
 |_=>exact .inr (eW λw=>by cases K<;>kernel_rfl)
def KB:∃c,de 3 (zW K u L z i ao len cap (.int .i64 v) x3 t s o m q) (vD K c L z i (decide (-1<v)) ao len cap x3 t s o m q v) cs:=by cases K<;>exact du λw=>by kernel_rfl
def KD:eT (vD K u L z i false ao len cap x3 t s o m q v) cs:=by cases K<;>exact dd 1 λw=>by kernel_rfl
def KE:∃c,de 7 (vD K u L z i true ao len cap x3 t s o m q v) (vE K c L z i (decide (v<65536)) ao len cap x3 t s o m q v) cs:=by cases K<;>exact du λw=>by kernel_rfl
def KF:eT (vE K u L z i false ao len cap x3 t s o m q v) cs:=by cases K<;>exact dd 1 λw=>by kernel_rfl
def KG:∃c,de 4 (vE K u L z i true ao len cap x3 t s o m q v) (zX K c L z i ao len cap x3 t s o m q v) cs:=by cases K<;>exact du λw=>by kernel_rfl
def KH:(∃c,x3=.int .i64 c)\/eT (zX K u L z i ao len cap x3 t s o m q v) cs:=by
 cases x3 with
 |int kd c=>cases kd<;>first|exact .inl ⟨c,rfl⟩|exact .inr (eW λw=>by cases K<;>kernel_rfl)
 |pointer p=>cases p<;>exact .inr (eW λw=>by cases K<;>kernel_rfl)
 |_=>exact .inr (eW λw=>by cases K<;>kernel_rfl)
def KI:∃c,de 3 (zX K u L z i ao len cap (.int .i64 A) t s o m q v) (vF K c L z i (decide (0<A)) ao len cap t s o m q v A) cs:=by cases K<;>exact du λw=>by kernel_rfl
def KJ:eT (vF K u L z i false ao len cap t s o m q v A) cs:=by cases K<;>exact dd 1 λw=>by kernel_rfl
def KL:∃c,de 7 (vF K u L z i true ao len cap t s o m q v A) (vG K c L z i (decide (A<17)) ao len cap t s o m q v A) cs:=by cases K<;>exact du λw=>by kernel_rfl
def KM:eT (vG K u L z i false ao len cap t s o m q v A) cs:=by cases K<;>exact dd 1 λw=>by kernel_rfl
def KN:∃c,de 4 (vG K u L z i true ao len cap t s o m q v A) (zO K c L z i ao len cap t s o m q v A) cs:=by cases K<;>exact du λw=>by kernel_rfl
def Kk:(∃c,t=.int .i64 c)\/eT (zO K u L z i ao len cap t s o m q v A) cs:=by
 cases t with
 |int kd c=>cases kd<;>first|exact .inl ⟨c,rfl⟩|exact .inr (eW λw=>by cases K<;>kernel_rfl)
 |pointer p=>cases p<;>exact .inr (eW λw=>by cases K<;>kernel_rfl)
 |_=>exact .inr (eW λw=>by cases K<;>kernel_rfl)
def Kl:∃c,de 4 (zO K u L z i ao len cap (.int .i64 C) s o m q v A) (zQ K c L z i ao len cap s o m q v A C) cs:=by cases K<;>exact du λw=>by kernel_rfl
def Km:(∃c,s=.int .i64 c)\/eT (zQ K u L z i ao len cap s o m q v A C) cs:=by
 cases s with
 |int kd c=>cases kd<;>first|exact .inl ⟨c,rfl⟩|exact .inr (eW λw=>by cases K<;>kernel_rfl)
 |pointer p=>cases p<;>exact .inr (eW λw=>by cases K<;>kernel_rfl)
 |_=>exact .inr (eW λw=>by cases K<;>kernel_rfl)
def Kn:∃c,de 4 (zQ K u L z i ao len cap (.int .i64 H) o m q v A C) (zR K c L z i ao len cap o m q v A C H) cs:=by cases K<;>exact du λw=>by kernel_rfl
def Ko:(∃c,o=.bool c)\/eT (zR K u L z i ao len cap o m q v A C H) cs:=by
 cases o with
 |bool c=>exact .inl ⟨c,rfl⟩
 |_=>exact .inr (eW λw=>by cases K<;>kernel_rfl)
def Kp:∃c,de 4 (zR K u L z i ao len cap (.bool I) m q v A C H) (sf K c L z i ao len cap m q) cs:=by cases K<;>exact du λw=>by kernel_rfl
def Kr(w):stepG PG true (an (sf K u L z i ao len cap m q) cs) w=.go (an (Frame.enter PG 77 #[.agg #[.int .u32 m,.int .i64 q]] .normal) ((sf K u L z i ao len cap m q)::cs)) w #[]:=by cases K<;>kernel_rfl
def Kq:∃c,de 2 ((sf K u L z i ao len cap m q).finish (.bool b)) (zU K c L z i b ao len cap) cs:=by cases K<;>exact du λw=>by kernel_rfl
def Ks:eT (zU K u L z i false ao len cap) cs:=by cases K<;>exact dd 1 λw=>by kernel_rfl
def Kt:∃c,de 7 (zU K u L z i true ao len cap) (az K (.int .i64 z:: .agg #[.slice ao len cap]::sq c 2 18 (.slice ao len cap:: .int .i64 len::sq c 22 3 (.int .i64 (IntKind.i64.wrap ((i:Int)+1))::sq c 26 25 L))) JF) cs:=by cases K<;>exact du λw=>by kernel_rfl
def Lx:∃c,de 7 (nC K u L (n:Int) ao len cap) (fE K c L n ao len cap) cs:=by cases K<;>exact du λw=>by kernel_rfl
def K9(w):stepG PG true (an (fE K u L 0 ao len cap) cs) w=.go (fin (an (fE K u L 0 ao len cap) cs) (.slice (some ⟨w.heap.size,0,none⟩) 0 0)) {w with heap:=w.heap.push (.cells #[] 46)} #[]:=by cases K<;>kernel_rfl
def La(w):stepG PG true (an (fE K u L 1 ao len cap) cs) w=.go (fin (an (fE K u L 1 ao len cap) cs) (.slice (some ⟨w.heap.size,0,none⟩) 1 1)) {w with heap:=w.heap.push (.cells #[.slice none 0 0] 46)} #[]:=by cases K<;>kernel_rfl
def Lb(w):stepG PG true (an (fE K u L 2 ao len cap) cs) w=.go (fin (an (fE K u L 2 ao len cap) cs) (.slice (some ⟨w.heap.size,0,none⟩) 2 2)) {w with heap:=w.heap.push (.cells #[.slice none 0 0,.slice none 0 0] 46)} #[]:=by cases K<;>kernel_rfl
def Lc(w):stepG PG true (an (fE K u L 3 ao len cap) cs) w=.go (fin (an (fE K u L 3 ao len cap) cs) (.slice (some ⟨w.heap.size,0,none⟩) 3 3)) {w with heap:=w.heap.push (.cells #[.slice none 0 0,.slice none 0 0,.slice none 0 0] 46)} #[]:=by cases K<;>kernel_rfl
def Ld(w):stepG PG true (an (fE K u L 4 ao len cap) cs) w=.go (fin (an (fE K u L 4 ao len cap) cs) (.slice (some ⟨w.heap.size,0,none⟩) 4 4)) {w with heap:=w.heap.push (.cells #[.slice none 0 0,.slice none 0 0,.slice none 0 0,.slice none 0 0] 46)} #[]:=by cases K<;>kernel_rfl
def Le(w):stepG PG true (an (fE K u L 5 ao len cap) cs) w=.go (fin (an (fE K u L 5 ao len cap) cs) (.slice (some ⟨w.heap.size,0,none⟩) 5 5)) {w with heap:=w.heap.push (.cells #[.slice none 0 0,.slice none 0 0,.slice none 0 0,.slice none 0 0,.slice none 0 0] 46)} #[]:=by cases K<;>kernel_rfl
def Lf(w):stepG PG true (an (fE K u L 6 ao len cap) cs) w=.go (fin (an (fE K u L 6 ao len cap) cs) (.slice (some ⟨w.heap.size,0,none⟩) 6 6)) {w with heap:=w.heap.push (.cells #[.slice none 0 0,.slice none 0 0,.slice none 0 0,.slice none 0 0,.slice none 0 0,.slice none 0 0] 46)} #[]:=by cases K<;>kernel_rfl
def Lg(w):stepG PG true (an (fE K u L 7 ao len cap) cs) w=.go (fin (an (fE K u L 7 ao len cap) cs) (.slice (some ⟨w.heap.size,0,none⟩) 7 7)) {w with heap:=w.heap.push (.cells #[.slice none 0 0,.slice none 0 0,.slice none 0 0,.slice none 0 0,.slice none 0 0,.slice none 0 0,.slice none 0 0] 46)} #[]:=by cases K<;>kernel_rfl
def Lh(w):stepG PG true (an (fE K u L 8 ao len cap) cs) w=.go (fin (an (fE K u L 8 ao len cap) cs) (.slice (some ⟨w.heap.size,0,none⟩) 8 8)) {w with heap:=w.heap.push (.cells #[.slice none 0 0,.slice none 0 0,.slice none 0 0,.slice none 0 0,.slice none 0 0,.slice none 0 0,.slice none 0 0,.slice none 0 0] 46)} #[]:=by cases K<;>kernel_rfl
def Lj(w)(c:n<=8):stepG PG true (an (fE K u L n ao len cap) cs) w=.go (fin (an (fE K u L n ao len cap) cs) (.slice (some ⟨w.heap.size,0,none⟩) n n)) {w with heap:=w.heap.push (.cells (Array.replicate n (.slice none 0 0)) 46)} #[]:=by
 obtain _|_|_|_|_|_|_|_|_|n:=n
 .exact K9 K ao len cap u L cs w
 .exact La K ao len cap u L cs w
 .exact Lb K ao len cap u L cs w
 .exact Lc K ao len cap u L cs w
 .exact Ld K ao len cap u L cs w
 .exact Le K ao len cap u L cs w
 .exact Lf K ao len cap u L cs w
 .exact Lg K ao len cap u L cs w
 .exact Lh K ao len cap u L cs w
 .omega
def Li:∃c,de 10 ((fE K u L n ao len cap).finish (.slice (some ⟨tb,0,none⟩) n n)) (gJ K c L n 0 tb ao len cap) cs:=by cases K<;>exact du λw=>by kernel_rfl
def B6:∃c,de 5 (gJ K u L n k tb ao len cap) (zY K c L n k tb (decide ((k:Int)<(n:Int))) ao len cap) cs:=by cases K<;>exact du λw=>by kernel_rfl
def KT:∃c,de 4 (zY K u L n k tb true ao len cap) (sj K c L n k tb ao len cap) cs:=by cases K<;>exact du λw=>by kernel_rfl
def K3(w):stepG PG true (an (sj K u L n k tb ao len cap) cs) w=.go (an (Frame.enter PG 43 #[.int .i64 k,.agg #[.slice ao len cap]] .normal) ((sj K u L n k tb ao len cap)::cs)) w #[]:=by cases K<;>kernel_rfl
def K2:∃c,de 4 ((sj K u L n k tb ao len cap).finish x) (si K c L n k tb ao len cap x) cs:=by cases K<;>exact du λw=>by kernel_rfl
def KU(w):stepG PG true (an (si K u L n k tb ao len cap x) cs) w=stepG.apply PG true (si K u L n k tb ao len cap x) cs none (do pure (.value (<-Instr.indexAt 80 (.slice (some ⟨tb,0,none⟩) n n) (.int .i64 k)))) w:=by cases K<;>kernel_rfl
def KV:((si K u L n k tb ao len cap x).kind==.early)=false:=by cases K<;>kernel_rfl
def KW:∃c,de 0 ((si K u L n k tb ao len cap x).finish (.pointer (some a))) (oH K c L n k tb ao a len cap x) cs:=by cases K<;>exact du λw=>by kernel_rfl
def KZ(c d e w):stepG PG true (an (oH K u L n k tb ao a len cap (.slice c d e)) cs) w=stepG.apply PG true (oH K u L n k tb ao a len cap (.slice c d e)) cs none (.store .plain (a.add 0) (.slice c d e) (.pure .skip)) w:=by cases K<;>kernel_rfl
def K0:((oH K u L n k tb ao a len cap x).kind==.early)=false:=by cases K<;>kernel_rfl
def K1:∃c,de 6 ((oH K u L n k tb ao a len cap x).finish undef) (az K (c 0:: .agg #[.slice ao len cap]::sq c 2 3 (.slice (some ⟨tb,0,none⟩) n n::sq c 6 4 (.int .i64 n:: .int .i64 (IntKind.i64.wrap ((k:Int)+1))::sq c 12 39 L))) JG) cs:=by cases K<;>exact du λw=>by kernel_rfl
def KS:∃c,de 4 (zY K u L n k tb false ao len cap) (nB K c L n tb) cs:=by cases K<;>exact du λw=>by kernel_rfl
def KY(w):stepG PG true (an (nB K u L n tb) cs) w=.go (an (Frame.enter PG 156 #[.slice (some ⟨tb,0,none⟩) n n] .normal) ((nB K u L n tb)::cs)) w #[]:=by cases K<;>kernel_rfl
noncomputable def vH(K:Bool)(u:Nat->af)(L:List af)(tb n:Nat)(x:af):aw:=aG PG true 3 (an ((nB K u L n tb).finish x) [])
def KX:de 3 ((nB K u L n tb).finish x) (vH K u L tb n x).frame cs:=by cases K<;>exact Ig (λw=>by kernel_rfl) (by kernel_rfl) (by kernel_rfl) (by kernel_rfl)
def RH(c w):stepG PG true (an (vH K u L tb n x).frame (c::cs)) w=doReturn PG true (vH K u L tb n x).frame (c::cs) none x w:=by cases K<;>kernel_rfl
def RG:(vH K u L tb n x).frame.kind=kd K:=by cases K<;>kernel_rfl
end
end Go.Proofs.Each
end
section
namespace Go.Proofs.Each
open Go.Conc Go.Mir Go.RowKit
def ra(P:ay)(w:aa)(s:Sem Next):Prop:=(∃x w1,s.run P w=.ok (.value x) w1)\/∃h w1,s.run P w=.halt h w1/\eO h=true
section
variable{P:ay}{trap:ah}{Stop:ah->List ah->aa->Prop}{fr fr1:ah}{gs gs1:List ah}{w w1:aa}
def rX[mj P](c:∀fr g w,Stop fr g w->g=[])(d:gs≠[])(hF:Fin P trap Stop fr gs w){s}(j:∀w,stepG P true (an fr (gs++[trap])) w=stepG.apply P true fr (gs++[trap]) none s w)(k:(fr.kind==.early)=false)(l:ra P w s):∃x w1,s.run P w=.ok (.value x) w1/\Fin P trap Stop (fr.finish x) gs w1/\Mir.Reach P trap Stop fr gs w (fr.finish x) gs w1:=by
 obtain⟨x,w1,m,b,f,n⟩:=EN c d hF j k w.tape w.drawn (λr m i=>by
  have e:s.run P w=r:=by have:=Sem.runT_fst (p:=P) s w #[];rw[lp]at i;rw[<-this,i]
  obtain⟨x,w1,h⟩|⟨h,w1,b,f⟩:=l
  .exact .inl ⟨x,w1,by rw[<-e];exact h⟩
  .exact .inr ⟨h,w1,by rw[<-e];exact b,f⟩)
 refine⟨x,w1,?_,f,n⟩;rw[lp]at b;have:=Sem.runT_fst (p:=P) s w #[];rw[<-this,b]
def oD(b: ¬Stop fr gs w)(hF:Fin P trap Stop fr gs w){es}(h:stepG P true (an fr (gs++[trap])) w=.go (an fr1 (gs1++[trap])) w1 es):Fin P trap Stop fr1 gs1 w1/\Mir.Reach P trap Stop fr gs w fr1 gs1 w1:=by obtain⟨l,m,n,e,c,f⟩:=rW hF b w.tape w.drawn;rw[lp]at c;have g:=c;rw[h]at c;simp only[GStep.go.injEq]at c;obtain⟨i,j,_⟩:=c;obtain⟨k,d⟩:=ej i;have d:=jA d;subst j k d;exact⟨f,.step w.tape w.drawn b (by rw[lp];exact g) .refl⟩
def oL{k a}{x:Next}(c:∀s t,w.heap[a.block]? ≠some (.view s t))(h:(Sem.load .plain a k).run P w=.ok x w1):∃v,w.cell? a=some v/\(k v).run P w=.ok x w1:=by
 simp only[Sem.run]at h;cases f:w.cell? a with
 |some v=>rw[f]at h;exact⟨v,rfl,h⟩
 |none=>
  rw[f]at h;dsimp only at h;cases b:w.farLoad P a (Mode.plain==.atomic)with
  |error e=>rw[b]at h;cases h
  |ok q=>
   exfalso;unfold World.farLoad at b;cases d:w.heap[a.block]? with
   |none=>rw[d]at b;cases b
   |some o=>
    rw[d]at b;cases o with
    |view s t=>exact c s t d
    |_=>cases b
def oM{k a}(b:∀s t,w.heap[a.block]? ≠some (.view s t))(c:∀v,ra P w (k v)):ra P w (Sem.load .plain a k):=by
 unfold ra;simp only[Sem.run];cases e:w.cell? a with
 |some v=>exact c v
 |none=>
  dsimp only;refine .inr ?_;unfold World.farLoad World.noCell;cases d:w.heap[a.block]? with
  |none=>exact⟨_,_,rfl,rfl⟩
  |some o=>
   cases o with
   |view s t=>exact absurd d (b s t)
   |_=>exact⟨_,_,rfl,rfl⟩
end
def ob(a:ap)(j):(a.add j).block=a.block:=by unfold Addr.add;split<;>rfl
def MY{w:aa}{a v}(h:w.cell? a=some v):a.spot=none:=by
 unfold World.cell? at h;cases b:w.heap[a.block]? with
 |none=>rw[b]at h;cases h
 |some o=>
  rw[b]at h;cases o with
  |cells c e z=>
   dsimp only at h;cases d:a.spot with
   |none=>rfl
   |some s=>rw[d]at h;cases h
  |_=>cases h
def L7(a:ap):Sem Next:=.load .plain (a.add 0) λb=>.load .plain (a.add 1) λc=>.load .plain (a.add 2) λd=>.load .plain (a.add 3) λe=>.load .plain (a.add 4) λf=>.load .plain (a.add 5) λg=>.load .plain (a.add 6) λh=>.pure (.value (.agg #[b,c,d,e,f,g,h]))
section
variable{P:ay}{w w1:aa}{a:ap}
def a0U(c:∀s t,w.heap[a.block]? ≠some (.view s t)):ra P w (L7 a):=by
 unfold L7;have b:∀j,∀s t,w.heap[(a.add j).block]? ≠some (.view s t):=λj=>by rw[ob];exact c
 refine oM (b _) λd=>oM (b _) λe=>oM (b _) λf=>oM (b _) λg=>oM (b _) λh=>oM (b _) λi=>oM (b _) λk=>.inl ⟨_,_,rfl⟩
def a0T{x}(l:∀s t,w.heap[a.block]? ≠some (.view s t))(h:(L7 a).run P w=.ok (.value x) w1):∃c d e f g i k,w.cell? (a.add 0)=some c/\w.cell? (a.add 1)=some d/\w.cell? (a.add 2)=some e/\w.cell? (a.add 3)=some f/\w.cell? (a.add 4)=some g/\w.cell? (a.add 5)=some i/\w.cell? (a.add 6)=some k/\x=.agg #[c,d,e,f,g,i,k]/\w1=w:=by
 unfold L7 at h;have b:∀j,∀s t,w.heap[(a.add j).block]? ≠some (.view s t):=λj=>by rw[ob];exact l
 obtain⟨c,m,h⟩:=oL (b 0) h;obtain⟨d,c1,h⟩:=oL (b 1) h;obtain⟨e,c2,h⟩:=oL (b 2) h;obtain⟨f,n,h⟩:=oL (b 3) h;obtain⟨g,o,h⟩:=oL (b 4) h;obtain⟨i,p,h⟩:=oL (b 5) h;obtain⟨k,q,h⟩:=oL (b 6) h;simp only[Sem.run,Result.ok.injEq,Next.value.injEq]at h;exact⟨c,d,e,f,g,i,k,m,c1,c2,n,o,p,q,h.1.symm,h.2.symm⟩
end
def jb{P α β s}{f:α->Sem β}{w w' y}(h:s.run P w=.ok y w'):(s>>=f).run P w=(f y).run P w':=by simp[h]
def Jm{P w r c e z}(h:w.heap[r]?=some (.cells c e z)):(viewAt r).run P w=.ok none w:=by simp[viewAt,shape,Sem.run,World.shape?,h]
def a3d{P w r}(h:w.heap[r]?=none):∃q,(viewAt r).run P w=.halt (.stuck q) w:=by exact⟨_,by simp[viewAt,shape,getObj,Sem.run,World.shape?,h];rfl⟩
def a3e{P w r s t}(h:w.heap[r]?=some (.view s t)):(viewAt r).run P w=.ok (some (s,t)) w:=by simp[viewAt,shape,getObj,Sem.run,World.shape?,h]
def a3c{P w r o}(h:w.heap[r]?=some o)(b:∀c e z,o≠.cells c e z)(d:∀s t,o≠.view s t):(viewAt r).run P w=.ok none w:=by
 have f:w.shape? r=none:=by unfold World.shape?;rw[h];cases o<;>first|rfl|exact absurd rfl (b _ _ _)
 have g:∀k:Obj->Sem (Option (ap×aA)),Sem.run P (.getObj r k) w=(k o).run P w:=λk=>by simp only[Sem.run];rw[h];cases o<;>first|rfl|exact absurd rfl (b _ _ _)
 unfold viewAt;simp only[shape,getObj,bind,Sem.bind,Sem.run,f];refine(g _).trans ?_;cases o<;>first|rfl|exact absurd rfl (d _ _)
def XZ(w f v)(A:w.heap[f]?=some (.cells #[v] 46 (0,0)))(ao len cap):(∃B k,(callFunc 194 #[.slice (some ⟨f,0,none⟩) 1 1,.slice ao len cap]).run PG w=.ok (.value (.bool B)) k/\(k=w\/k=w.drew)/\∀a,ao=some a->0<len->∀s t,w.heap[a.block]? ≠some (.view s t))\/∃h,(callFunc 194 #[.slice (some ⟨f,0,none⟩) 1 1,.slice ao len cap]).run PG w=.halt h w/\eO h=true:=by
 have C:w.shape? f=some (46,1):=by simp[World.shape?,A]
 have g:w.frozen? ⟨f,0,none⟩=false:=by simp[World.frozen?,A]
 have D:w.frozen? {block:=f,off:=1}=false:=by simp[World.frozen?,A]
 have l:=Jm (P:=PG) A;have r:PG.underlying 118=some (.slice 137):=Gh.underlying118;have u:∀w,(Go.sizeOf 137).run PG w=.ok 7 w:=Gh.sizeOf137;rw[run_callFunc_extern (show PG.funcs[194]?=some _ from Gh.func194) (by kernel_rfl) (by kernel_rfl) (by kernel_rfl) (e:=Extern.SlicesOverlaps.overlaps #[118,118] #[4]) (by kernel_rfl)];suffices I:(∃B k,(Extern.SlicesOverlaps.overlaps #[118,118] #[4] #[.slice (some ⟨f,0,none⟩) 1 1,.slice ao len cap]).run PG w=.ok (.bool B) k/\(k=w\/k=w.drew)/\∀a,ao=some a->0<len->∀s t,w.heap[a.block]? ≠some (.view s t))\/∃h,(Extern.SlicesOverlaps.overlaps #[118,118] #[4] #[.slice (some ⟨f,0,none⟩) 1 1,.slice ao len cap]).run PG w=.halt h w/\eO h=true by
  obtain⟨B,k,J,K⟩|⟨h,J,K⟩:=I
  .exact .inl ⟨B,k,by rw[J];rfl,K⟩
  .exact .inr ⟨h,by rw[J];rfl,K⟩
 cases ao with
 |none=>exact .inl ⟨false,w,(jb (run_underlying r w)).trans (jb (u w)),.inl rfl,λa h=>(by cases h)⟩
 |some b=>
  by_cases h0:len=0
  .subst h0;exact .inl ⟨false,w,(jb (run_underlying r w)).trans (jb (u w)),.inl rfl,λa _ h=>absurd h (a7h _)⟩
  .by_cases H:f=b.block
   .have i:(f !=b.block)=false:=by simpa using H
    refine .inl ⟨_,w,(jb (run_underlying r w)).trans ((jb (u w)).trans (by dsimp only;simp[h0,i,frozen,Sem.run];rfl)),.inl rfl,λa L _ s t n=>?_⟩;cases L;rw[<-H,A]at n;cases n
   .have i:(f !=b.block)=true:=by simpa using H
    have d:(f==b.block)=false:=by simpa using H
    cases n:w.heap[b.block]? with
    |none=>obtain⟨q,y⟩:=a3d (P:=PG) n;exact .inr ⟨.stuck q,(jb (run_underlying r w)).trans ((jb (u w)).trans (by dsimp only;simp[h0,i,d,frozen,noView,Sem.run,g,l,y])),rfl⟩
    |some o=>
     by_cases E:∃s t,o=.view s t
     .obtain⟨s,t,rfl⟩:=E;have y:=a3e (P:=PG) n;exact .inr ⟨_,(jb (run_underlying r w)).trans ((jb (u w)).trans (by dsimp only;simp[h0,i,d,frozen,noView,unsupported,Sem.run,g,l,y];rfl)),rfl⟩
     .have p:∀s t,o≠.view s t:=λs t h=>E ⟨s,t,h⟩;have y:(viewAt b.block).run PG w=.ok none w:=by
       by_cases N:∃c e z,o=.cells c e z
       .obtain⟨c,e,z,rfl⟩:=N;exact Jm n
       .exact a3c n (λc e z h=>N ⟨c,e,z,h⟩) p
      have j:∀a,some b=some a->0<len->∀s t,w.heap[a.block]? ≠some (.view s t):=λa L _ s t O=>(by cases L;rw[n]at O;cases O;exact p _ _ rfl);obtain⟨B,Q⟩:∃B,(mayBeOne ⟨f,0,none⟩ b).run PG w=.ok B w:=by
       cases F:w.shape? b.block with
       |none=>cases x:w.frozen? b<;>simp[mayBeOne,stringish,frozen,shape,Sem.run,C,g,D,x,F]
       |some q=>obtain⟨e,m⟩:=q;cases M:w.frozen? ⟨b.block,m,none⟩<;>cases x:w.frozen? b<;>cases m<;>simp[mayBeOne,stringish,frozen,shape,Sem.run,C,g,D,x,F,M]
      cases B with
      |false=>exact .inl ⟨false,w,(jb (run_underlying r w)).trans ((jb (u w)).trans (by dsimp only;simp[h0,i,d,frozen,noView,Sem.run,g,l,y,Q])),.inl rfl,j⟩
      |true=>refine .inl ⟨_,w.drew,(jb (run_underlying r w)).trans ((jb (u w)).trans (by dsimp only;simp[h0,i,d,frozen,noView,Sem.run,g,l,y,Q,choose];rfl)),.inr rfl,j⟩
def Fs(w)(t e b:Nat)(c:PG.underlying t=some (.slice e))(d:∀w,(Go.sizeOf e).run PG w=.ok b w)(a i len cap)(f:i<len):(do pure (.value (<-Instr.indexAt t (.slice (some a) len cap) (.int .i64 i))):Sem Next).run PG w=.ok (.value (.pointer (some (a.add (i*b))))) w:=by
 have h0:(0:Int)<=(i:Int)/\(i:Int)<(len:Int):=by omega
 simp[Instr.indexAt,asIntOf,run_underlying c,d,h0];intro h;omega
end Go.Proofs.Each
end
