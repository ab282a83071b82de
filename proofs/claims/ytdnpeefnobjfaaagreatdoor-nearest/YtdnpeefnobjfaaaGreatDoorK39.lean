import Derived.Conc.CrowdSel
import Derived.Test.YtdnpeefnobjfaaaGreatDoorK07
import Derived.Test.YtdnpeefnobjfaaaGreatDoorK38
set_option maxRecDepth 100000
set_option maxHeartbeats 4000000
set_option linter.all false
section
namespace Go.Proofs.Each
open Go.Conc Go.Mir
section
variable(r i:Nat)(c d:Nat)
noncomputable def bf:ah:={(default:ah)with fn:=285,mode:=.panicking [goexitEntry]}
noncomputable def Ac:aw:=am (Frame.enter Tryz.prog 154 #[.pointer (some ⟨r,0,none⟩),.int .i64 i,.chan (some c)] .deferred) [bf]
noncomputable def tN:aw:=aD Tryz.prog false 19 (Ac r i c)
noncomputable def Ad:aw:=fin (tN r i c) (.chan (some d))
def a6h:aR Tryz.prog false 19 (Ac r i c) (tN r i c):=sgo
theorem a6d(w):stepG Tryz.prog false (tN r i c) w=stepG.apply Tryz.prog true (tN r i c).frame (tN r i c).callers none (.load .plain ⟨r,3,none⟩ λv=>.pure (.value v)) w:=by kernel_rfl
def a6e{w}(a:w.cell? ⟨r,3,none⟩=some (.chan (some d))):stepG Tryz.prog false (tN r i c) w=.go (Ad r i c d) w #[⟨.cell ⟨r,3,none⟩,false,false⟩]:=by have:=jv (v:=.chan (some d)) (a6d r i c w) (by rw[qm a];rfl) a9k;exact this.trans (congrArg (λx=>GStep.go (Ad r i c d) w x) a9k)
end
section
variable(r i:Nat)(c d:Nat)(ao:Option aF)(l k n:Nat)
noncomputable def zT:aj:=.agg #[.slice none 0 0]
noncomputable def tO:aw:=aD Tryz.prog false 3 (Ad r i c d)
def a6i:aR Tryz.prog false 3 (Ad r i c d) (tO r i c d):=sgo
theorem a6n(w):stepG Tryz.prog false (tO r i c d) w=.comm (tO r i c d) #[rcase c zT,rcase d (.agg #[])] true .select w #[]:=by kernel_rfl
noncomputable def D9:aw:=(tO r i c d).finishComm Tryz.prog #[rcase c zT,rcase d (.agg #[])] .select 0 (.agg #[.slice ao l k]) true
noncomputable def Ea:aw:=aD Tryz.prog false 9 (D9 r i c d ao l k)
noncomputable def tP:aw:=fin (Ea r i c d ao l k) (.pointer (some ⟨n,0,none⟩))
noncomputable def Ae:aw:=fin (tP r i c d ao l k n) undef
noncomputable def rh:aw:=aD Tryz.prog false 2 (Ae r i c d ao l k n)
def a6j:aR Tryz.prog false 9 (D9 r i c d ao l k) (Ea r i c d ao l k):=sgo
theorem a6f(w):stepG Tryz.prog false (Ea r i c d ao l k) w=.go (tP r i c d ao l k w.heap.size) {w with heap:=w.heap.push (.cells #[.slice none 0 0] 120)} #[]:=by kernel_rfl
theorem a6p(w):stepG Tryz.prog false (tP r i c d ao l k n) w=stepG.apply Tryz.prog true (tP r i c d ao l k n).frame (tP r i c d ao l k n).callers none (.store .plain ⟨n,0,none⟩ (.slice ao l k) (.pure .skip)) w:=by kernel_rfl
def a6o{w v}(a:w.cell? ⟨n,0,none⟩=some v)(b:w.frozen? ⟨n,0,none⟩=false):stepG Tryz.prog false (tP r i c d ao l k n) w=.go (Ae r i c d ao l k n) (w.setCell ⟨n,0,none⟩ (.slice ao l k)) #[⟨.cell ⟨n,0,none⟩,true,false⟩]:=by have:=Ay (a6p r i c d ao l k n w) (by rw[DL a9i a9i a b];rfl) a9k;exact this.trans (congrArg (λx=>GStep.go (Ae r i c d ao l k n) (w.setCell ⟨n,0,none⟩ (.slice ao l k)) x) a9k)
def a6k:aR Tryz.prog false 2 (Ae r i c d ao l k n) (rh r i c d ao l k n):=sgo
end
noncomputable def q0:aw:=am (Frame.enter Tryz.prog 106 #[.int .i64 2,.agg #[.slice none 0 0]] .normal) []
noncomputable def q1:aw:=aD Tryz.prog true 2 q0
noncomputable def q3:aw:=aD Tryz.prog true 3 (fin q1 (.pointer (some ⟨3,0,none⟩)))
noncomputable def dX:Array Oper:=match q3.frame.todo with
 | .code (.region _ a _)::_=>a
 |_=> #[]
noncomputable def Dg:List Item:=q3.frame.todo.tail
noncomputable def q7:aw:=am {q3.frame with tmps:=q3.frame.tmps.setIfInBounds 5 (.pointer (some ⟨6,0,none⟩)),todo:=.inRegion dX []::Dg} []
noncomputable def q8:aw:=aD Tryz.prog true 8 q7
noncomputable def EN:ah:=q8.callers.headD default
noncomputable def q9:aw:=am (EN.finish (.tuple #[])) []
noncomputable def EO:ah:=(aD Tryz.prog true 8 q9).callers.headD default
noncomputable def qA:aw:=am (EO.finish (.tuple #[])) []
noncomputable def tH:List Item:=(aD Tryz.prog true 11 qA).frame.todo
noncomputable def tC:List Item:=(aD Tryz.prog true 12 qA).frame.todo
noncomputable def yZ:aw:=aD Tryz.prog true 25 qA
noncomputable def a4B:List Item:=yZ.frame.todo
noncomputable def JM:aw:=aD Tryz.prog true 7 (fin yZ (.chan (some 7)))
noncomputable def a4x:List Item:=JM.frame.todo
noncomputable def JN:aw:=aD Tryz.prog true 3 (fin JM undef)
noncomputable def a4A:List Item:=JN.frame.todo
noncomputable def a4C:List Item:=(fin JN (.agg #[.slice none 0 0])).frame.todo
noncomputable def qX:aw:=aD Tryz.prog true 10 (am {yZ.frame with tmps:=yZ.frame.tmps.setIfInBounds 25 (.bool false),todo:=tC} [])
noncomputable def a4D:List Item:=(qX.callers.headD default).todo
noncomputable def qB:aw:=am ((qX.callers.headD default).finish (.tuple #[])) []
noncomputable def a4z:List Item:=(aD Tryz.prog true 6 qB).frame.todo
noncomputable def JL:aw:=fin (aD Tryz.prog true 6 qB) (.chan (some 5))
noncomputable def a4u:List Item:=JL.frame.todo
noncomputable def qD:aw:=aD Tryz.prog true 7 (fin JL (.tuple #[]))
noncomputable def a4E:List Item:=(qD.callers.headD default).todo
section
variable(K:Bool)(bx r n k:Nat)(u:Nat->aj)(L:List aj)(cs:List ah)
noncomputable def an(s:List aj)(t:List Item):ah:=⟨106,⟨s⟩,t,[],.run,cond K .deferred .normal,none⟩
noncomputable def eH:ah:=an K (.int .i64 n::u 1::u 2:: .pointer (some ⟨bx,0,none⟩)::u 4:: .pointer (some ⟨r,0,none⟩)::sq u 6 17 (.int .i64 n:: .int .i64 k::sq u 25 26 L)) tH
noncomputable def eC(b:Bool):ah:=an K (.int .i64 n::u 1::u 2:: .pointer (some ⟨bx,0,none⟩)::u 4:: .pointer (some ⟨r,0,none⟩)::sq u 6 17 (.int .i64 n:: .int .i64 k:: .bool b::sq u 26 25 L)) tC
noncomputable def p6:ah:=an K (.int .i64 n::u 1::u 2:: .pointer (some ⟨bx,0,none⟩)::u 4:: .pointer (some ⟨r,0,none⟩):: .int .i64 k::sq u 7 16 (.int .i64 n:: .int .i64 k::sq u 25 26 L)) a4B
noncomputable def p5(c:Nat):ah:=an K (.int .i64 n::u 1::u 2:: .pointer (some ⟨bx,0,none⟩)::u 4:: .pointer (some ⟨r,0,none⟩):: .int .i64 k:: .chan (some c)::sq u 8 15 (.int .i64 n:: .int .i64 k::sq u 25 3 (.pointer (some ⟨r,0,none⟩):: .int .i64 k:: .chan (some c)::sq u 31 20 L))) a4x
noncomputable def rV(c:Nat):ah:=an K (.int .i64 n::u 1::u 2:: .pointer (some ⟨bx,0,none⟩)::u 4:: .pointer (some ⟨r,0,none⟩)::u 6:: .chan (some c)::sq u 8 15 (.int .i64 n:: .int .i64 k::sq u 25 6 (.chan (some c)::sq u 32 19 L))) a4A
noncomputable def rW(c:Nat)(ao:Option aF)(len cap:Nat):ah:=an K (.int .i64 n::u 1::u 2:: .pointer (some ⟨bx,0,none⟩)::u 4:: .pointer (some ⟨r,0,none⟩)::sq u 6 17 (.int .i64 n:: .int .i64 k::sq u 25 6 (.chan (some c):: .agg #[.slice ao len cap]::sq u 33 18 L))) a4C
noncomputable def xC:ah:=an K (.int .i64 n::u 1::u 2:: .pointer (some ⟨bx,0,none⟩)::u 4:: .pointer (some ⟨r,0,none⟩)::sq u 6 45 L) a4D
noncomputable def rU:ah:=an K (.int .i64 n::u 1::u 2:: .pointer (some ⟨bx,0,none⟩)::u 4:: .pointer (some ⟨r,0,none⟩)::sq u 6 34 (.pointer (some ⟨r,3,none⟩)::sq u 41 10 L)) a4z
noncomputable def nH(c:Nat):ah:=an K (.int .i64 n::u 1::u 2:: .pointer (some ⟨bx,0,none⟩)::u 4:: .pointer (some ⟨r,0,none⟩)::sq u 6 35 (.chan (some c)::sq u 42 9 L)) a4u
noncomputable def uv:ah:=an K (.int .i64 n::u 1::u 2:: .pointer (some ⟨bx,0,none⟩)::u 4:: .pointer (some ⟨r,0,none⟩)::sq u 6 45 L) a4E
variable(w:aa)(c:Nat)(ao:Option aF)(len cap:Nat)
noncomputable def EY:aw:=match stepG Tryz.prog true (am (p5 false 0 r 0 k (λ_=>undef) [] c) []) default with
 | .spawn _ g _ _=>g
 |_=>default
def PO:aR Tryz.prog false 1 (EY r k c) (Ac r k c):=eN
noncomputable def uo(g:aw):Nat->aj:=λi=>g.frame.tmps.getD i undef
def FD:∃a,aR Tryz.prog true 1 (am (eH K bx r n k u L) cs) (am (eC K bx r n k a L (decide ((k:Int)<(n:Int)))) cs):=by cases K<;>exact⟨u,eN⟩
def FB:∃a,aR Tryz.prog true 13 (am (eC K bx r n k u L true) cs) (am (p6 K bx r n k a L) cs):=⟨uo (aD Tryz.prog true 13 (am (eC K bx r n k u L true) cs)),by cases K<;>exact eN⟩
def FA:∃a,aR Tryz.prog true 10 (am (eC K bx r n k u L false) cs) (wx r 1 (xC K bx r n a L::cs)):=⟨uo (am ((aD Tryz.prog true 10 (am (eC K bx r n k u L false) cs)).callers.headD default) []),by cases K<;>exact eN⟩
def Ra:stepG Tryz.prog true (am (p6 K bx r n k u L) cs) w=.go (fin (am (p6 K bx r n k u L) cs) (.chan (some w.heap.size))) {w with heap:=w.heap.push (.chan 1 #[] false 0 0 false)} #[]:=by cases K<;>kernel_rfl
def Q9:∃a,aR Tryz.prog true 7 (fin (am (p6 K bx r n k u L) cs) (.chan (some c))) (am (p5 K bx r n k a L c) cs):=⟨uo (aD Tryz.prog true 7 (fin (am (p6 K bx r n k u L) cs) (.chan (some c)))),by cases K<;>exact eN⟩
def QZ:stepG Tryz.prog true (am (p5 K bx r n k u L c) cs) w=.spawn (fin (am (p5 K bx r n k u L c) cs) undef) (EY r k c) w #[]:=by cases K<;>kernel_rfl
def QY:∃a,aR Tryz.prog true 3 (fin (am (p5 K bx r n k u L c) cs) undef) (am (rV K bx r n k a L c) cs):=⟨uo (aD Tryz.prog true 3 (fin (am (p5 K bx r n k u L c) cs) undef)),by cases K<;>exact eN⟩
def Q6:stepG Tryz.prog true (am (rV K bx r n k u L c) cs) w=stepG.apply Tryz.prog true (am (rV K bx r n k u L c) cs).frame cs none (.load .plain ⟨bx,0,none⟩ λv=>.pure (.value (.agg #[v]))) w:=by cases K<;>kernel_rfl
def Q7:∃a,fin (am (rV K bx r n k u L c) cs) (.agg #[.slice ao len cap])=am (rW K bx r n k a L c ao len cap) cs:=⟨uo (fin (am (rV K bx r n k u L c) cs) (.agg #[.slice ao len cap])),by cases K<;>kernel_rfl⟩
def Q8:((am (rV K bx r n k u L c) cs).frame.kind==.early)=false:=by cases K<;>kernel_rfl
def Rv:stepG Tryz.prog true (am (rW K bx r n k u L c ao len cap) cs) w=.comm (am (rW K bx r n k u L c ao len cap) cs) #[scase c (.agg #[.slice ao len cap]) undef] true .send w #[]:=by cases K<;>kernel_rfl
def Ru:∃a,aR Tryz.prog true 9 ((am (rW K bx r n k u L c ao len cap) cs).finishComm Tryz.prog #[scase c (.agg #[.slice ao len cap]) undef] .send 0 undef false) (am (an K (.int .i64 n::a 1::a 2:: .pointer (some ⟨bx,0,none⟩)::a 4:: .pointer (some ⟨r,0,none⟩)::sq a 6 17 (.int .i64 n:: .int .i64 (IntKind.i64.wrap ((k:Int)+1))::sq a 25 26 L)) tH) cs):=⟨uo (aD Tryz.prog true 9 ((am (rW K bx r n k u L c ao len cap) cs).finishComm Tryz.prog #[scase c (.agg #[.slice ao len cap]) undef] .send 0 undef false)),by cases K<;>exact eN⟩
def Rx:∃a,aR Tryz.prog true 6 (am ((xC K bx r n u L).finish (.tuple #[])) cs) (am (rU K bx r n a L) cs):=⟨uo (aD Tryz.prog true 6 (am ((xC K bx r n u L).finish (.tuple #[])) cs)),by cases K<;>exact eN⟩
def Q3:stepG Tryz.prog true (am (rU K bx r n u L) cs) w=stepG.apply Tryz.prog true (am (rU K bx r n u L) cs).frame cs none (.load .plain ⟨r,3,none⟩ λv=>.pure (.value v)) w:=by cases K<;>kernel_rfl
def Q4:∃a,fin (am (rU K bx r n u L) cs) (.chan (some c))=am (nH K bx r n a L c) cs:=⟨uo (fin (am (rU K bx r n u L) cs) (.chan (some c))),by cases K<;>kernel_rfl⟩
def Q5:((am (rU K bx r n u L) cs).frame.kind==.early)=false:=by cases K<;>kernel_rfl
def QS:stepG Tryz.prog true (am (nH K bx r n u L c) cs) w=stepG.apply Tryz.prog true (am (nH K bx r n u L c) cs).frame cs none (do pure (Next.value (<-Builtin.close_ #[252] 0 #[.chan (some c)]))) w:=by cases K<;>kernel_rfl
def QT:((am (nH K bx r n u L c) cs).frame.kind==.early)=false:=by cases K<;>kernel_rfl
def QV:mayWake Tryz.prog (am (nH K bx r n u L c) cs)=true:=by cases K<;>kernel_rfl
def QU:∃a,aR Tryz.prog true 7 (fin (am (nH K bx r n u L c) cs) (.tuple #[])) (wx r 4 (uv K bx r n a L::cs)):=⟨uo (am ((aD Tryz.prog true 7 (fin (am (nH K bx r n u L c) cs) (.tuple #[]))).callers.headD default) []),by cases K<;>exact eN⟩
end
def oc{b l r}(a:Region.ready .any dX b=r)(h:gF dX b l):(r=[]/\l=[])\/∃i l',i∈r/\l=i::l'/\gF dX (b.setIfInBounds i true) l':=by
 cases h with
 |nil h=>exact .inl ⟨a.symm.trans h,rfl⟩
 |cons c k=>exact .inr ⟨_,_,a▸c,rfl,k⟩
theorem a0T:Region.ready .any dX #[false,false,false,false,false,false]=[0,2]:=by kernel_rfl
theorem a0V:Region.ready .any dX #[true,false,false,false,false,false]=[1,2]:=by kernel_rfl
theorem a0U:Region.ready .any dX #[false,false,true,false,false,false]=[0]:=by kernel_rfl
theorem a0X:Region.ready .any dX #[true,true,false,false,false,false]=[2]:=by kernel_rfl
theorem a0W:Region.ready .any dX #[true,false,true,false,false,false]=[1]:=by kernel_rfl
theorem a0Y:Region.ready .any dX #[true,true,true,false,false,false]=[3]:=by kernel_rfl
theorem a0Z:Region.ready .any dX #[true,true,true,true,false,false]=[4]:=by kernel_rfl
theorem a1a:Region.ready .any dX #[true,true,true,true,true,false]=[5]:=by kernel_rfl
theorem a1b:Region.ready .any dX #[true,true,true,true,true,true]=[]:=by kernel_rfl
def ZX{l}(h:gF dX #[true,true,true,true,true,true] l):l=[]:=by
 obtain⟨_,h⟩|⟨i,b,a,_⟩:=oc a1b h
 .exact h
 .cases a
def ZW{l}(h:gF dX #[true,true,true,true,true,false] l):l=[5]:=by
 obtain⟨h,_⟩|⟨i,b,a,rfl,k⟩:=oc a1a h
 .cases h
 .obtain rfl:=fM.1 a;have k:=ZX k;rw[k]
def ZV{l}(h:gF dX #[true,true,true,true,false,false] l):l=[4,5]:=by
 obtain⟨h,_⟩|⟨i,b,a,rfl,k⟩:=oc a0Z h
 .cases h
 .obtain rfl:=fM.1 a;have k:=ZW k;rw[k]
def Jl{l}(h:gF dX #[true,true,true,false,false,false] l):l=[3,4,5]:=by
 obtain⟨h,_⟩|⟨i,b,a,rfl,k⟩:=oc a0Y h
 .cases h
 .obtain rfl:=fM.1 a;have k:=ZV k;rw[k]
def ZU{l}(h:gF dX #[true,true,false,false,false,false] l):l=[2,3,4,5]:=by
 obtain⟨h,_⟩|⟨i,b,a,rfl,k⟩:=oc a0X h
 .cases h
 .obtain rfl:=fM.1 a;have k:=Jl k;rw[k]
def Jk{l}(h:gF dX #[true,false,true,false,false,false] l):l=[1,3,4,5]:=by
 obtain⟨h,_⟩|⟨i,b,a,rfl,k⟩:=oc a0W h
 .cases h
 .obtain rfl:=fM.1 a;have k:=Jl k;rw[k]
def ZT{l}(h:gF dX #[true,false,false,false,false,false] l):l=[1,2,3,4,5]\/l=[2,1,3,4,5]:=by
 obtain⟨h,_⟩|⟨i,b,a,rfl,k⟩:=oc a0V h
 .cases h
 .rcases dj.1 a with rfl|a
  .have k:=ZU k;rw[k];simp
  .obtain rfl:=fM.1 a;have k:=Jk k;rw[k];simp
def ZS{l}(h:gF dX #[false,false,true,false,false,false] l):l=[0,1,3,4,5]:=by
 obtain⟨h,_⟩|⟨i,b,a,rfl,k⟩:=oc a0U h
 .cases h
 .obtain rfl:=fM.1 a;have k:=Jk k;rw[k]
def ZR{l}(h:gF dX #[false,false,false,false,false,false] l):l=[0,1,2,3,4,5]\/l=[0,2,1,3,4,5]\/l=[2,0,1,3,4,5]:=by
 obtain⟨h,_⟩|⟨i,b,a,rfl,k⟩:=oc a0T h
 .cases h
 .rcases dj.1 a with rfl|a
  .have k:=ZT k;obtain k|k:=k<;>(rw[k];simp)
  .obtain rfl:=fM.1 a;have k:=ZS k;rw[k];simp
def ZZ{l}(h:gF dX (Array.replicate dX.size false) l):l=[0,1,2,3,4,5]\/l=[0,2,1,3,4,5]\/l=[2,0,1,3,4,5]:=by
 have e:Array.replicate dX.size false=#[false,false,false,false,false,false]:=a9k
 rw[e]at h;exact ZR h
noncomputable def a4w:List Item:=[.code (Tryz.f106.body.getD .skip)]
noncomputable def a4s:List Item:=q1.frame.todo
noncomputable def a4v:List Item:=q3.frame.todo
noncomputable def a4q:List Item:=EN.todo
noncomputable def a4r:List Item:=EO.todo
section
variable(K:Bool)(bx r n:Nat)(u:Nat->aj)(L:List aj)(cs:List ah)(ao:Option aF)(len cap:Nat)(p o g j m:aj)(l:List Nat)(w:aa)
noncomputable def ut:ah:=an K (.int .i64 n:: .agg #[.slice ao len cap]::sq u 2 49 L) a4w
noncomputable def rS:ah:=an K (.int .i64 n:: .agg #[.slice ao len cap]::sq u 2 49 L) a4s
noncomputable def FC:ah:=an K (.int .i64 n::u 1::u 2:: .pointer (some ⟨bx,0,none⟩)::sq u 4 47 L) a4v
noncomputable def dA:ah:=an K (.int .i64 n::u 1::u 2:: .pointer (some ⟨bx,0,none⟩)::sq u 4 4 (p::o::g::j::m::sq u 13 38 L)) (.inRegion dX l::Dg)
noncomputable def A5:ah:=an K (.int .i64 n::u 1::u 2:: .pointer (some ⟨bx,0,none⟩)::u 4:: .pointer (some ⟨r,0,none⟩)::sq u 6 45 L) (.inRegion dX []::Dg)
noncomputable def A3:ah:=an K (.int .i64 n::u 1::u 2:: .pointer (some ⟨bx,0,none⟩)::u 4:: .pointer (some ⟨r,0,none⟩)::sq u 6 45 L) a4q
noncomputable def A4:ah:=an K (.int .i64 n::u 1::u 2:: .pointer (some ⟨bx,0,none⟩)::u 4:: .pointer (some ⟨r,0,none⟩)::sq u 6 45 L) a4r
def QX:aR Tryz.prog true 2 (am (ut K n u L ao len cap) cs) (am (rS K n u L ao len cap) cs):=by cases K<;>exact eN
def QR:stepG Tryz.prog true (am (rS K n u L ao len cap) cs) w=.go (fin (am (rS K n u L ao len cap) cs) (.pointer (some ⟨w.heap.size,0,none⟩))) {w with heap:=w.heap.push (.cells #[.slice ao len cap] 120)} #[]:=by cases K<;>kernel_rfl
def QQ:∃a,aR Tryz.prog true 3 (fin (am (rS K n u L ao len cap) cs) (.pointer (some ⟨bx,0,none⟩))) (am (FC K bx n a L) cs):=⟨uo (aD Tryz.prog true 3 (fin (am (rS K n u L ao len cap) cs) (.pointer (some ⟨bx,0,none⟩)))),by cases K<;>exact eN⟩
def QW:stepG Tryz.prog true (am (FC K bx n u L) cs) w=.go (am (dA K bx n u L (u 8) (u 9) (u 10) (u 11) (u 12) (Region.schedule (Tryz.prog.follows .mixedOrders) dX ((Question.order 106 1).cut (w.tape w.drawn (.order 106 1))))) cs) {w with drawn:=w.drawn+1} #[]:=by cases K<;>kernel_rfl
def A6:stepG Tryz.prog true (am (dA K bx n u L p o g j m (0::l)) cs) w=.go (am (dA K bx n u L (.int .i64 n) o g j m l) cs) w #[]:=by cases K<;>kernel_rfl
def A7:stepG Tryz.prog true (am (dA K bx n u L p o g j m (2::l)) cs) w=.go (am (dA K bx n u L p o (.chan (some w.heap.size)) j m l) cs) {w with heap:=w.heap.push (.chan 0 #[] false 0 0 false)} #[]:=by cases K<;>kernel_rfl
def Rm(tb dc):stepG Tryz.prog true (am (dA K bx n u L p (.slice (some ⟨tb,0,none⟩) n n) (.chan (some dc)) j m (3::l)) cs) w=.go (am (dA K bx n u L p (.slice (some ⟨tb,0,none⟩) n n) (.chan (some dc)) (.agg #[.slice (some ⟨tb,0,none⟩) n n,.int .u64 0,.int .u32 0,.chan (some dc),.int .u64 0,.int .u32 0]) m l) cs) w #[]:=by cases K<;>kernel_rfl
def Rn(a b c d e f):stepG Tryz.prog true (am (dA K bx n u L p o g (.agg #[a,b,c,d,e,f]) m (4::l)) cs) w=.go (am (dA K bx n u L p o g (.agg #[a,b,c,d,e,f]) (.pointer (some ⟨w.heap.size,0,none⟩)) l) cs) {w with heap:=w.heap.push (.cells #[a,b,c,d,e,f] 260)} #[]:=by cases K<;>kernel_rfl
def FF:∃a,stepG Tryz.prog true (am (dA K bx n u L p o g j (.pointer (some ⟨r,0,none⟩)) [5]) cs) w=.go (am (A5 K bx r n a L) cs) w #[]:=⟨λi=>if i=8 then p else if i=9 then o else if i=10 then g else if i=11 then j else if i=12 then .pointer (some ⟨r,0,none⟩)else u i,by cases K<;>kernel_rfl⟩
def QP:∃a,aR Tryz.prog true 8 (am (A5 K bx r n u L) cs) (am (Frame.enter Tryz.prog 153 #[.pointer (some ⟨r,1,none⟩),.int .i64 n] .normal) (A3 K bx r n a L::cs)):=⟨uo (am ((aD Tryz.prog true 8 (am (A5 K bx r n u L) cs)).callers.headD default) []),by cases K<;>exact eN⟩
def QN:∃a,aR Tryz.prog true 8 (am ((A3 K bx r n u L).finish (.tuple #[])) cs) (am (Frame.enter Tryz.prog 153 #[.pointer (some ⟨r,4,none⟩),.int .i64 n] .normal) (A4 K bx r n a L::cs)):=⟨uo (am ((aD Tryz.prog true 8 (am ((A3 K bx r n u L).finish (.tuple #[])) cs)).callers.headD default) []),by cases K<;>exact eN⟩
def QO:∃a,aR Tryz.prog true 11 (am ((A4 K bx r n u L).finish (.tuple #[])) cs) (am (eH K bx r n 0 a L) cs):=⟨uo (aD Tryz.prog true 11 (am ((A4 K bx r n u L).finish (.tuple #[])) cs)),by cases K<;>exact eN⟩
def Rb:stepG Tryz.prog true (am (dA K bx 0 u L (.int .i64 (0:Nat)) o g j m (1::l)) cs) w=.go (am (dA K bx 0 u L (.int .i64 (0:Nat)) (.slice (some ⟨w.heap.size,0,none⟩) 0 0) g j m l) cs) {w with heap:=w.heap.push (.cells #[] 46)} #[]:=by cases K<;>kernel_rfl
def Rc:stepG Tryz.prog true (am (dA K bx 1 u L (.int .i64 (1:Nat)) o g j m (1::l)) cs) w=.go (am (dA K bx 1 u L (.int .i64 (1:Nat)) (.slice (some ⟨w.heap.size,0,none⟩) 1 1) g j m l) cs) {w with heap:=w.heap.push (.cells #[.slice none 0 0] 46)} #[]:=by cases K<;>kernel_rfl
def Rd:stepG Tryz.prog true (am (dA K bx 2 u L (.int .i64 (2:Nat)) o g j m (1::l)) cs) w=.go (am (dA K bx 2 u L (.int .i64 (2:Nat)) (.slice (some ⟨w.heap.size,0,none⟩) 2 2) g j m l) cs) {w with heap:=w.heap.push (.cells #[.slice none 0 0,.slice none 0 0] 46)} #[]:=by cases K<;>kernel_rfl
def Re:stepG Tryz.prog true (am (dA K bx 3 u L (.int .i64 (3:Nat)) o g j m (1::l)) cs) w=.go (am (dA K bx 3 u L (.int .i64 (3:Nat)) (.slice (some ⟨w.heap.size,0,none⟩) 3 3) g j m l) cs) {w with heap:=w.heap.push (.cells #[.slice none 0 0,.slice none 0 0,.slice none 0 0] 46)} #[]:=by cases K<;>kernel_rfl
def Rf:stepG Tryz.prog true (am (dA K bx 4 u L (.int .i64 (4:Nat)) o g j m (1::l)) cs) w=.go (am (dA K bx 4 u L (.int .i64 (4:Nat)) (.slice (some ⟨w.heap.size,0,none⟩) 4 4) g j m l) cs) {w with heap:=w.heap.push (.cells #[.slice none 0 0,.slice none 0 0,.slice none 0 0,.slice none 0 0] 46)} #[]:=by cases K<;>kernel_rfl
def Rg:stepG Tryz.prog true (am (dA K bx 5 u L (.int .i64 (5:Nat)) o g j m (1::l)) cs) w=.go (am (dA K bx 5 u L (.int .i64 (5:Nat)) (.slice (some ⟨w.heap.size,0,none⟩) 5 5) g j m l) cs) {w with heap:=w.heap.push (.cells #[.slice none 0 0,.slice none 0 0,.slice none 0 0,.slice none 0 0,.slice none 0 0] 46)} #[]:=by cases K<;>kernel_rfl
def Rh:stepG Tryz.prog true (am (dA K bx 6 u L (.int .i64 (6:Nat)) o g j m (1::l)) cs) w=.go (am (dA K bx 6 u L (.int .i64 (6:Nat)) (.slice (some ⟨w.heap.size,0,none⟩) 6 6) g j m l) cs) {w with heap:=w.heap.push (.cells #[.slice none 0 0,.slice none 0 0,.slice none 0 0,.slice none 0 0,.slice none 0 0,.slice none 0 0] 46)} #[]:=by cases K<;>kernel_rfl
def Ri:stepG Tryz.prog true (am (dA K bx 7 u L (.int .i64 (7:Nat)) o g j m (1::l)) cs) w=.go (am (dA K bx 7 u L (.int .i64 (7:Nat)) (.slice (some ⟨w.heap.size,0,none⟩) 7 7) g j m l) cs) {w with heap:=w.heap.push (.cells #[.slice none 0 0,.slice none 0 0,.slice none 0 0,.slice none 0 0,.slice none 0 0,.slice none 0 0,.slice none 0 0] 46)} #[]:=by cases K<;>kernel_rfl
def Rj:stepG Tryz.prog true (am (dA K bx 8 u L (.int .i64 (8:Nat)) o g j m (1::l)) cs) w=.go (am (dA K bx 8 u L (.int .i64 (8:Nat)) (.slice (some ⟨w.heap.size,0,none⟩) 8 8) g j m l) cs) {w with heap:=w.heap.push (.cells #[.slice none 0 0,.slice none 0 0,.slice none 0 0,.slice none 0 0,.slice none 0 0,.slice none 0 0,.slice none 0 0,.slice none 0 0] 46)} #[]:=by cases K<;>kernel_rfl
def FE(a:n<=8):stepG Tryz.prog true (am (dA K bx n u L (.int .i64 n) o g j m (1::l)) cs) w=.go (am (dA K bx n u L (.int .i64 n) (.slice (some ⟨w.heap.size,0,none⟩) n n) g j m l) cs) {w with heap:=w.heap.push (.cells (Array.replicate n (.slice none 0 0)) 46)} #[]:=by
 have:n=0\/n=1\/n=2\/n=3\/n=4\/n=5\/n=6\/n=7\/n=8:=a9h
 obtain rfl|rfl|rfl|rfl|rfl|rfl|rfl|rfl|rfl:=this
 .exact Rb K bx u L cs o g j m l w
 .exact Rc K bx u L cs o g j m l w
 .exact Rd K bx u L cs o g j m l w
 .exact Re K bx u L cs o g j m l w
 .exact Rf K bx u L cs o g j m l w
 .exact Rg K bx u L cs o g j m l w
 .exact Rh K bx u L cs o g j m l w
 .exact Ri K bx u L cs o g j m l w
 .exact Rj K bx u L cs o g j m l w
end
end Go.Proofs.Each
end
section
namespace Go.Mir
def KK:Int:=4294967296
end Go.Mir
end
section
namespace Go.Proofs.Each
open Go.Conc Go.Mir
noncomputable def lq:Array Oper:=match (rh 0 0 0 0 none 0 0 0).frame.todo with
 | .code (.region _ a _)::_=>a
 |_=> #[]
noncomputable def a1I:List Item:=(rh 0 0 0 0 none 0 0 0).frame.todo.tail
section
variable(r i c d:Nat)(ao:Option aF)(len k n:Nat)
noncomputable def rg(e x1 h x3 j f g o p:aj)(l:List Nat):aw:=
 am {(rh r i c d ao len k n).frame with tmps:=⟨(rh r i c d ao len k n).frame.tmps.toList.take 20++([e,x1,h,x3,j,f,g,o,p]++(rh r i c d ao len k n).frame.tmps.toList.drop 29)⟩,todo:=.inRegion lq l::a1I} [bf]
theorem a2a(w):stepG Tryz.prog false (rh r i c d ao len k n) w=.go (rg r i c d ao len k n undef undef undef undef undef undef undef undef undef (Region.schedule (Tryz.prog.follows .mixedOrders) lq ((Question.order 154 5).cut (w.tape w.drawn (.order 154 5))))) {w with drawn:=w.drawn+1} #[]:=by kernel_rfl
variable(e x1 h x3 j f g o p:aj)(l:List Nat)(w:aa)
theorem a1K:stepG Tryz.prog false (rg r i c d ao len k n e x1 h x3 j f g o p (0::l)) w=.go (rg r i c d ao len k n (.pointer (some ⟨r,0,none⟩)) x1 h x3 j f g o p l) w #[]:=by kernel_rfl
theorem a1L:stepG Tryz.prog false (rg r i c d ao len k n (.pointer (some ⟨r,0,none⟩)) x1 h x3 j f g o p (1::l)) w=.go (rg r i c d ao len k n (.pointer (some ⟨r,0,none⟩)) (.pointer (some ⟨r,0,none⟩)) h x3 j f g o p l) w #[]:=by kernel_rfl
theorem a1M:stepG Tryz.prog false (rg r i c d ao len k n e (.pointer (some ⟨r,0,none⟩)) h x3 j f g o p (2::l)) w=.go (rg r i c d ao len k n e (.pointer (some ⟨r,0,none⟩)) (.pointer (some ⟨r,0,none⟩)) x3 j f g o p l) w #[]:=by kernel_rfl
theorem a1N:stepG Tryz.prog false (rg r i c d ao len k n e x1 (.pointer (some ⟨r,0,none⟩)) x3 j f g o p (3::l)) w=stepG.apply Tryz.prog true (rg r i c d ao len k n e x1 (.pointer (some ⟨r,0,none⟩)) x3 j f g o p (3::l)).frame (rg r i c d ao len k n e x1 (.pointer (some ⟨r,0,none⟩)) x3 j f g o p (3::l)).callers none (.load .plain ⟨r,0,none⟩ λv=>.pure (.value v)) w:=by kernel_rfl
theorem a1O(v):fin (rg r i c d ao len k n e x1 h x3 j f g o p (3::l)) v=rg r i c d ao len k n e x1 h v j f g o p l:=by kernel_rfl
theorem a1P:stepG Tryz.prog false (rg r i c d ao len k n e x1 h x3 j f g o p (4::l)) w=.go (rg r i c d ao len k n e x1 h x3 (.int .i64 i) f g o p l) w #[]:=by kernel_rfl
theorem a1Q:stepG Tryz.prog false (rg r i c d ao len k n e x1 h x3 j f g o p (5::l)) w=.go (rg r i c d ao len k n e x1 h x3 j (.int .i64 i) g o p l) w #[]:=by kernel_rfl
theorem a1R:stepG Tryz.prog false (rg r i c d ao len k n e x1 h x3 j f g o p (6::l)) w=stepG.apply Tryz.prog true (rg r i c d ao len k n e x1 h x3 j f g o p (6::l)).frame (rg r i c d ao len k n e x1 h x3 j f g o p (6::l)).callers none (.load .plain ⟨n,0,none⟩ λv=>.pure (.value (.agg #[v]))) w:=by kernel_rfl
theorem a1S(v):fin (rg r i c d ao len k n e x1 h x3 j f g o p (6::l)) v=rg r i c d ao len k n e x1 h x3 j f v o p l:=by kernel_rfl
theorem a1T:stepG Tryz.prog false (rg r i c d ao len k n e x1 h x3 j (.int .i64 i) (.agg #[.slice ao len k]) o p (7::l)) w=.go (am (Frame.enter Tryz.prog 43 #[.int .i64 i,.agg #[.slice ao len k]] .normal) [(rg r i c d ao len k n e x1 h x3 j (.int .i64 i) (.agg #[.slice ao len k]) o p (7::l)).frame,bf]) w #[]:=by kernel_rfl
theorem a1U(v):am ((rg r i c d ao len k n e x1 h x3 j f g o p (7::l)).frame.finish v) [bf]=rg r i c d ao len k n e x1 h x3 j f g v p l:=by kernel_rfl
theorem a1V(tb m):stepG Tryz.prog false (rg r i c d ao len k n e x1 h (.slice (some ⟨tb,0,none⟩) m m) (.int .i64 i) f g o p (8::l)) w=stepG.apply Tryz.prog true (rg r i c d ao len k n e x1 h (.slice (some ⟨tb,0,none⟩) m m) (.int .i64 i) f g o p (8::l)).frame (rg r i c d ao len k n e x1 h (.slice (some ⟨tb,0,none⟩) m m) (.int .i64 i) f g o p (8::l)).callers none (do pure (.value (<-Instr.indexAt 80 (.slice (some ⟨tb,0,none⟩) m m) (.int .i64 i)))) w:=by kernel_rfl
theorem a1W(v):fin (rg r i c d ao len k n e x1 h x3 j f g o p (8::l)) v=rg r i c d ao len k n e x1 h x3 j f g o v l:=by kernel_rfl
theorem a1X(tb a m b):stepG Tryz.prog false (rg r i c d ao len k n e x1 h x3 j f g (.slice a m b) (.pointer (some ⟨tb,i,none⟩)) (9::l)) w=stepG.apply Tryz.prog true (rg r i c d ao len k n e x1 h x3 j f g (.slice a m b) (.pointer (some ⟨tb,i,none⟩)) (9::l)).frame (rg r i c d ao len k n e x1 h x3 j f g (.slice a m b) (.pointer (some ⟨tb,i,none⟩)) (9::l)).callers none (.store .plain ⟨tb,i,none⟩ (.slice a m b) (.pure .skip)) w:=by kernel_rfl
theorem a1Y:fin (rg r i c d ao len k n e x1 h x3 j f g o p (9::l)) undef=rg r i c d ao len k n e x1 h x3 j f g o p l:=by kernel_rfl
theorem zo:((rg r i c d ao len k n e x1 h x3 j f g o p l).frame.kind==.early)=false:=by kernel_rfl
noncomputable def D8:ah:=(aD Tryz.prog false 5 (rg r i c d ao len k n e x1 h x3 j f g o p [])).frame
def a1Z:aR Tryz.prog false 6 (rg r i c d ao len k n e x1 h x3 j f g o p []) (uq false r 1 [D8 r i c d ao len k n e x1 h x3 j f g o p,bf]):=eN
noncomputable def Eb:aw:=am ((D8 r i c d ao len k n e x1 h x3 j f g o p).finish (.tuple #[])) [bf]
end
section
variable(r i c d:Nat)(ao:Option aF)(len k n:Nat)(b x1 e x3 f h j l m:aj)
noncomputable def ri:aw:=aD Tryz.prog false 14 (Eb r i c d ao len k n b x1 e x3 f h j l m)
noncomputable def Af:aw:=fin (ri r i c d ao len k n b x1 e x3 f h j l m) (.chan (some d))
noncomputable def tQ:aw:=aD Tryz.prog false 3 (Af r i c d ao len k n b x1 e x3 f h j l m)
noncomputable def LV:aw:=(tQ r i c d ao len k n b x1 e x3 f h j l m).finishComm Tryz.prog #[rcase c zT,rcase d (.agg #[])] .select 1 (.agg #[]) false
noncomputable def Ee:ah:=(aD Tryz.prog false 9 (LV r i c d ao len k n b x1 e x3 f h j l m)).callers.headD default
def a6l:aR Tryz.prog false 14 (Eb r i c d ao len k n b x1 e x3 f h j l m) (ri r i c d ao len k n b x1 e x3 f h j l m):=sgo
theorem a5Y(w):stepG Tryz.prog false (ri r i c d ao len k n b x1 e x3 f h j l m) w=stepG.apply Tryz.prog true (ri r i c d ao len k n b x1 e x3 f h j l m).frame (ri r i c d ao len k n b x1 e x3 f h j l m).callers none (.load .plain ⟨r,3,none⟩ λv=>.pure (.value v)) w:=by kernel_rfl
def a5Z{w}(a:w.cell? ⟨r,3,none⟩=some (.chan (some d))):stepG Tryz.prog false (ri r i c d ao len k n b x1 e x3 f h j l m) w=.go (Af r i c d ao len k n b x1 e x3 f h j l m) w #[⟨.cell ⟨r,3,none⟩,false,false⟩]:=by have:=jv (v:=.chan (some d)) (a5Y r i c d ao len k n b x1 e x3 f h j l m w) (by rw[qm a];rfl) a9k;exact this.trans (congrArg (λx=>GStep.go (Af r i c d ao len k n b x1 e x3 f h j l m) w x) a9k)
def a6m:aR Tryz.prog false 3 (Af r i c d ao len k n b x1 e x3 f h j l m) (tQ r i c d ao len k n b x1 e x3 f h j l m):=sgo
theorem a6c(w):stepG Tryz.prog false (tQ r i c d ao len k n b x1 e x3 f h j l m) w=.comm (tQ r i c d ao len k n b x1 e x3 f h j l m) #[rcase c zT,rcase d (.agg #[])] true .select w #[]:=by kernel_rfl
theorem a6b:(tQ r i c d ao len k n b x1 e x3 f h j l m).status=.running:=by kernel_rfl
theorem a6a:(ri r i c d ao len k n b x1 e x3 f h j l m).status=.running:=by kernel_rfl
def a6g:aR Tryz.prog false 9 (LV r i c d ao len k n b x1 e x3 f h j l m) (uq true r 4 [Ee r i c d ao len k n b x1 e x3 f h j l m,bf]):=eN
def a0N:∃g,aR Tryz.prog false 6 (AZ true r 4 [Ee r i c d ao len k n b x1 e x3 f h j l m,bf]) g/\g.status=.finished:=⟨_,sgo,a9k⟩
end
structure Sl where
 ao:Option aF
 len:Nat
 k:Nat
 n:Nat
 x0:aj
 x1:aj
 x2:aj
 x3:aj
 x4:aj
 x5:aj
 x6:aj
 x7:aj
 x8:aj
noncomputable def mX(r i c d:Nat)(S:Sl):ah:=D8 r i c d S.ao S.len S.k S.n S.x0 S.x1 S.x2 S.x3 S.x4 S.x5 S.x6 S.x7 S.x8
noncomputable def mn(r i c d:Nat)(S:Sl):ah:=Ee r i c d S.ao S.len S.k S.n S.x0 S.x1 S.x2 S.x3 S.x4 S.x5 S.x6 S.x7 S.x8
noncomputable def LU(r i c d:Nat)(S:Sl):aw:=Eb r i c d S.ao S.len S.k S.n S.x0 S.x1 S.x2 S.x3 S.x4 S.x5 S.x6 S.x7 S.x8
noncomputable def Ec(r i c d:Nat)(S:Sl):aw:=tQ r i c d S.ao S.len S.k S.n S.x0 S.x1 S.x2 S.x3 S.x4 S.x5 S.x6 S.x7 S.x8
end Go.Proofs.Each
end
