import Derived.Conc.CrowdSel
import Derived.Test.YtdnpeefnobjfaaaGreatDoorK12
import Derived.Test.YtdnpeefnobjfaaaGreatDoorK36
set_option maxRecDepth 100000
set_option maxHeartbeats 4000000
set_option linter.all false
section
namespace Go.Proofs.Each
open Go.Conc Go.Mir
section
variable(r i:Nat)(c d:Nat)
noncomputable def bf:ah:={(default:ah)with fn:=285,mode:=.panicking [goexitEntry]}
noncomputable def xI:aw:=an (Frame.enter Tryz.prog 154 #[.pointer (some ⟨r,0,none⟩),.int .i64 i,.chan (some c)] .deferred) [bf]
noncomputable def qM:aw:=aG Tryz.prog false 19 (xI r i c)
noncomputable def xJ:aw:=fin (qM r i c) (.chan (some d))
def a3x:aS Tryz.prog false 19 (xI r i c) (qM r i c):=cq (λw=>by kernel_rfl) (by kernel_rfl)
theorem a3t(w):stepG Tryz.prog false (qM r i c) w=stepG.apply Tryz.prog true (qM r i c).frame (qM r i c).callers none (.load .plain ⟨r,3,none⟩ λv=>.pure (.value v)) w:=by kernel_rfl
def a3u{w}(a:w.cell? ⟨r,3,none⟩=some (.chan (some d))):stepG Tryz.prog false (qM r i c) w=.go (xJ r i c d) w #[⟨.cell ⟨r,3,none⟩,false,false⟩]:=by have:=i9 (v:=.chan (some d)) (a3t r i c w) (by rw[oK a];rfl) (by kernel_rfl);exact this.trans (congrArg (λx=>GStep.go (xJ r i c d) w x) (by kernel_rfl))
end
section
variable(r i:Nat)(c d:Nat)(ao:Option ap)(l k n:Nat)
noncomputable def zT:af:=.agg #[.slice none 0 0]
noncomputable def qN:aw:=aG Tryz.prog false 3 (xJ r i c d)
def a3y:aS Tryz.prog false 3 (xJ r i c d) (qN r i c d):=cq (λw=>by kernel_rfl) (by kernel_rfl)
theorem a3D(w):stepG Tryz.prog false (qN r i c d) w=.comm (qN r i c d) #[rcase c zT,rcase d (.agg #[])] true .select w #[]:=by kernel_rfl
noncomputable def BS:aw:=(qN r i c d).finishComm Tryz.prog #[rcase c zT,rcase d (.agg #[])] .select 0 (.agg #[.slice ao l k]) true
noncomputable def BT:aw:=aG Tryz.prog false 9 (BS r i c d ao l k)
noncomputable def qO:aw:=fin (BT r i c d ao l k) (.pointer (some ⟨n,0,none⟩))
noncomputable def xK:aw:=fin (qO r i c d ao l k n) undef
noncomputable def pj:aw:=aG Tryz.prog false 2 (xK r i c d ao l k n)
def a3z:aS Tryz.prog false 9 (BS r i c d ao l k) (BT r i c d ao l k):=cq (λw=>by kernel_rfl) (by kernel_rfl)
theorem a3v(w):stepG Tryz.prog false (BT r i c d ao l k) w=.go (qO r i c d ao l k w.heap.size) {w with heap:=w.heap.push (.cells #[.slice none 0 0] 120)} #[]:=by kernel_rfl
theorem a3F(w):stepG Tryz.prog false (qO r i c d ao l k n) w=stepG.apply Tryz.prog true (qO r i c d ao l k n).frame (qO r i c d ao l k n).callers none (.store .plain ⟨n,0,none⟩ (.slice ao l k) (.pure .skip)) w:=by kernel_rfl
def a3E{w v}(a:w.cell? ⟨n,0,none⟩=some v)(b:w.frozen? ⟨n,0,none⟩=false):stepG Tryz.prog false (qO r i c d ao l k n) w=.go (xK r i c d ao l k n) (w.setCell ⟨n,0,none⟩ (.slice ao l k)) #[⟨.cell ⟨n,0,none⟩,true,false⟩]:=by have:=yc (a3F r i c d ao l k n w) (by rw[BH (by simp) (by simp) a b];rfl) (by kernel_rfl);exact this.trans (congrArg (λx=>GStep.go (xK r i c d ao l k n) (w.setCell ⟨n,0,none⟩ (.slice ao l k)) x) (by kernel_rfl))
def a3A:aS Tryz.prog false 2 (xK r i c d ao l k n) (pj r i c d ao l k n):=cq (λw=>by kernel_rfl) (by kernel_rfl)
end
noncomputable def q0:aw:=an (Frame.enter Tryz.prog 106 #[.int .i64 2,.agg #[.slice none 0 0]] .normal) []
noncomputable def q1:aw:=aG Tryz.prog true 2 q0
noncomputable def q3:aw:=aG Tryz.prog true 3 (fin q1 (.pointer (some ⟨3,0,none⟩)))
noncomputable def ez:Array Oper:=match q3.frame.todo with
 | .code (.region _ a _)::_=>a
 |_=> #[]
noncomputable def Be:List Item:=q3.frame.todo.tail
noncomputable def q7:aw:=an {q3.frame with tmps:=q3.frame.tmps.setIfInBounds 5 (.pointer (some ⟨6,0,none⟩)),todo:=.inRegion ez []::Be} []
noncomputable def q8:aw:=aG Tryz.prog true 8 q7
noncomputable def Cv:ah:=q8.callers.headD default
noncomputable def q9:aw:=an (Cv.finish (.tuple #[])) []
noncomputable def Cw:ah:=(aG Tryz.prog true 8 q9).callers.headD default
noncomputable def qA:aw:=an (Cw.finish (.tuple #[])) []
noncomputable def tH:List Item:=(aG Tryz.prog true 11 qA).frame.todo
noncomputable def tC:List Item:=(aG Tryz.prog true 12 qA).frame.todo
noncomputable def wP:aw:=aG Tryz.prog true 25 qA
noncomputable def a1S:List Item:=wP.frame.todo
noncomputable def Hq:aw:=aG Tryz.prog true 7 (fin wP (.chan (some 7)))
noncomputable def a1O:List Item:=Hq.frame.todo
noncomputable def Hr:aw:=aG Tryz.prog true 3 (fin Hq undef)
noncomputable def a1R:List Item:=Hr.frame.todo
noncomputable def a1T:List Item:=(fin Hr (.agg #[.slice none 0 0])).frame.todo
noncomputable def qX:aw:=aG Tryz.prog true 10 (an {wP.frame with tmps:=wP.frame.tmps.setIfInBounds 25 (.bool false),todo:=tC} [])
noncomputable def a1U:List Item:=(qX.callers.headD default).todo
noncomputable def qB:aw:=an ((qX.callers.headD default).finish (.tuple #[])) []
noncomputable def a1Q:List Item:=(aG Tryz.prog true 6 qB).frame.todo
noncomputable def Ho:aw:=fin (aG Tryz.prog true 6 qB) (.chan (some 5))
noncomputable def a1L:List Item:=Ho.frame.todo
noncomputable def qD:aw:=aG Tryz.prog true 7 (fin Ho (.tuple #[]))
noncomputable def a1V:List Item:=(qD.callers.headD default).todo
section
variable(K:Bool)(bx r n k:Nat)(u:Nat->af)(L:List af)(cs:List ah)
noncomputable def az(s:List af)(t:List Item):ah:=⟨106,⟨s⟩,t,[],.run,cond K .deferred .normal,none⟩
noncomputable def eH:ah:=az K (.int .i64 n::u 1::u 2:: .pointer (some ⟨bx,0,none⟩)::u 4:: .pointer (some ⟨r,0,none⟩)::sq u 6 17 (.int .i64 n:: .int .i64 k::sq u 25 26 L)) tH
noncomputable def eC(b:Bool):ah:=az K (.int .i64 n::u 1::u 2:: .pointer (some ⟨bx,0,none⟩)::u 4:: .pointer (some ⟨r,0,none⟩)::sq u 6 17 (.int .i64 n:: .int .i64 k:: .bool b::sq u 26 25 L)) tC
noncomputable def or:ah:=az K (.int .i64 n::u 1::u 2:: .pointer (some ⟨bx,0,none⟩)::u 4:: .pointer (some ⟨r,0,none⟩):: .int .i64 k::sq u 7 16 (.int .i64 n:: .int .i64 k::sq u 25 26 L)) a1S
noncomputable def oq(c:Nat):ah:=az K (.int .i64 n::u 1::u 2:: .pointer (some ⟨bx,0,none⟩)::u 4:: .pointer (some ⟨r,0,none⟩):: .int .i64 k:: .chan (some c)::sq u 8 15 (.int .i64 n:: .int .i64 k::sq u 25 3 (.pointer (some ⟨r,0,none⟩):: .int .i64 k:: .chan (some c)::sq u 31 20 L))) a1O
noncomputable def pK(c:Nat):ah:=az K (.int .i64 n::u 1::u 2:: .pointer (some ⟨bx,0,none⟩)::u 4:: .pointer (some ⟨r,0,none⟩)::u 6:: .chan (some c)::sq u 8 15 (.int .i64 n:: .int .i64 k::sq u 25 6 (.chan (some c)::sq u 32 19 L))) a1R
noncomputable def pL(c:Nat)(ao:Option ap)(len cap:Nat):ah:=az K (.int .i64 n::u 1::u 2:: .pointer (some ⟨bx,0,none⟩)::u 4:: .pointer (some ⟨r,0,none⟩)::sq u 6 17 (.int .i64 n:: .int .i64 k::sq u 25 6 (.chan (some c):: .agg #[.slice ao len cap]::sq u 33 18 L))) a1T
noncomputable def uG:ah:=az K (.int .i64 n::u 1::u 2:: .pointer (some ⟨bx,0,none⟩)::u 4:: .pointer (some ⟨r,0,none⟩)::sq u 6 45 L) a1U
noncomputable def pJ:ah:=az K (.int .i64 n::u 1::u 2:: .pointer (some ⟨bx,0,none⟩)::u 4:: .pointer (some ⟨r,0,none⟩)::sq u 6 34 (.pointer (some ⟨r,3,none⟩)::sq u 41 10 L)) a1Q
noncomputable def mB(c:Nat):ah:=az K (.int .i64 n::u 1::u 2:: .pointer (some ⟨bx,0,none⟩)::u 4:: .pointer (some ⟨r,0,none⟩)::sq u 6 35 (.chan (some c)::sq u 42 9 L)) a1L
noncomputable def rI:ah:=az K (.int .i64 n::u 1::u 2:: .pointer (some ⟨bx,0,none⟩)::u 4:: .pointer (some ⟨r,0,none⟩)::sq u 6 45 L) a1V
variable(w:aa)(c:Nat)(ao:Option ap)(len cap:Nat)
noncomputable def CJ:aw:=match stepG Tryz.prog true (an (oq false 0 r 0 k (λ_=>undef) [] c) []) default with
 | .spawn _ g _ _=>g
 |_=>default
def M8:aS Tryz.prog false 1 (CJ r k c) (xI r k c):=eN (λw=>by kernel_rfl) (by kernel_rfl) (by kernel_rfl)
noncomputable def uo(g:aw):Nat->af:=λi=>g.frame.tmps.getD i undef
def Do:∃a,aS Tryz.prog true 1 (an (eH K bx r n k u L) cs) (an (eC K bx r n k a L (decide ((k:Int)<(n:Int)))) cs):=by cases K<;>exact⟨u,eN (λw=>by kernel_rfl) (by kernel_rfl) (by kernel_rfl)⟩
def Dm:∃a,aS Tryz.prog true 13 (an (eC K bx r n k u L true) cs) (an (or K bx r n k a L) cs):=⟨uo (aG Tryz.prog true 13 (an (eC K bx r n k u L true) cs)),by cases K<;>exact eN (λw=>by kernel_rfl) (by kernel_rfl) (by kernel_rfl)⟩
def Dl:∃a,aS Tryz.prog true 10 (an (eC K bx r n k u L false) cs) (tP r 1 (uG K bx r n a L::cs)):=⟨uo (an ((aG Tryz.prog true 10 (an (eC K bx r n k u L false) cs)).callers.headD default) []),by cases K<;>exact eN (λw=>by kernel_rfl) (by kernel_rfl) (by kernel_rfl)⟩
def OR:stepG Tryz.prog true (an (or K bx r n k u L) cs) w=.go (fin (an (or K bx r n k u L) cs) (.chan (some w.heap.size))) {w with heap:=w.heap.push (.chan 1 #[] false 0 0 false)} #[]:=by cases K<;>kernel_rfl
def OQ:∃a,aS Tryz.prog true 7 (fin (an (or K bx r n k u L) cs) (.chan (some c))) (an (oq K bx r n k a L c) cs):=⟨uo (aG Tryz.prog true 7 (fin (an (or K bx r n k u L) cs) (.chan (some c)))),by cases K<;>exact eN (λw=>by kernel_rfl) (by kernel_rfl) (by kernel_rfl)⟩
def OG:stepG Tryz.prog true (an (oq K bx r n k u L c) cs) w=.spawn (fin (an (oq K bx r n k u L c) cs) undef) (CJ r k c) w #[]:=by cases K<;>kernel_rfl
def OF:∃a,aS Tryz.prog true 3 (fin (an (oq K bx r n k u L c) cs) undef) (an (pK K bx r n k a L c) cs):=⟨uo (aG Tryz.prog true 3 (fin (an (oq K bx r n k u L c) cs) undef)),by cases K<;>exact eN (λw=>by kernel_rfl) (by kernel_rfl) (by kernel_rfl)⟩
def ON:stepG Tryz.prog true (an (pK K bx r n k u L c) cs) w=stepG.apply Tryz.prog true (an (pK K bx r n k u L c) cs).frame cs none (.load .plain ⟨bx,0,none⟩ λv=>.pure (.value (.agg #[v]))) w:=by cases K<;>kernel_rfl
def OO:∃a,fin (an (pK K bx r n k u L c) cs) (.agg #[.slice ao len cap])=an (pL K bx r n k a L c ao len cap) cs:=⟨uo (fin (an (pK K bx r n k u L c) cs) (.agg #[.slice ao len cap])),by cases K<;>kernel_rfl⟩
def OP:((an (pK K bx r n k u L c) cs).frame.kind==.early)=false:=by cases K<;>kernel_rfl
def O8:stepG Tryz.prog true (an (pL K bx r n k u L c ao len cap) cs) w=.comm (an (pL K bx r n k u L c ao len cap) cs) #[scase c (.agg #[.slice ao len cap]) undef] true .send w #[]:=by cases K<;>kernel_rfl
def O7:∃a,aS Tryz.prog true 9 ((an (pL K bx r n k u L c ao len cap) cs).finishComm Tryz.prog #[scase c (.agg #[.slice ao len cap]) undef] .send 0 undef false) (an (az K (.int .i64 n::a 1::a 2:: .pointer (some ⟨bx,0,none⟩)::a 4:: .pointer (some ⟨r,0,none⟩)::sq a 6 17 (.int .i64 n:: .int .i64 (IntKind.i64.wrap ((k:Int)+1))::sq a 25 26 L)) tH) cs):=⟨uo (aG Tryz.prog true 9 ((an (pL K bx r n k u L c ao len cap) cs).finishComm Tryz.prog #[scase c (.agg #[.slice ao len cap]) undef] .send 0 undef false)),by cases K<;>exact eN (λw=>by kernel_rfl) (by kernel_rfl) (by kernel_rfl)⟩
def O9:∃a,aS Tryz.prog true 6 (an ((uG K bx r n u L).finish (.tuple #[])) cs) (an (pJ K bx r n a L) cs):=⟨uo (aG Tryz.prog true 6 (an ((uG K bx r n u L).finish (.tuple #[])) cs)),by cases K<;>exact eN (λw=>by kernel_rfl) (by kernel_rfl) (by kernel_rfl)⟩
def OK:stepG Tryz.prog true (an (pJ K bx r n u L) cs) w=stepG.apply Tryz.prog true (an (pJ K bx r n u L) cs).frame cs none (.load .plain ⟨r,3,none⟩ λv=>.pure (.value v)) w:=by cases K<;>kernel_rfl
def OL:∃a,fin (an (pJ K bx r n u L) cs) (.chan (some c))=an (mB K bx r n a L c) cs:=⟨uo (fin (an (pJ K bx r n u L) cs) (.chan (some c))),by cases K<;>kernel_rfl⟩
def OM:((an (pJ K bx r n u L) cs).frame.kind==.early)=false:=by cases K<;>kernel_rfl
def Oz:stepG Tryz.prog true (an (mB K bx r n u L c) cs) w=stepG.apply Tryz.prog true (an (mB K bx r n u L c) cs).frame cs none (do pure (Next.value (<-Builtin.close_ #[252] 0 #[.chan (some c)]))) w:=by cases K<;>kernel_rfl
def OA:((an (mB K bx r n u L c) cs).frame.kind==.early)=false:=by cases K<;>kernel_rfl
def OC:mayWake Tryz.prog (an (mB K bx r n u L c) cs)=true:=by cases K<;>kernel_rfl
def OB:∃a,aS Tryz.prog true 7 (fin (an (mB K bx r n u L c) cs) (.tuple #[])) (tP r 4 (rI K bx r n a L::cs)):=⟨uo (an ((aG Tryz.prog true 7 (fin (an (mB K bx r n u L c) cs) (.tuple #[]))).callers.headD default) []),by cases K<;>exact eN (λw=>by kernel_rfl) (by kernel_rfl) (by kernel_rfl)⟩
end
def mR{b l r}(a:Region.ready .any ez b=r)(h:gw ez b l):(r=[]/\l=[])\/∃i l',i∈r/\l=i::l'/\gw ez (b.setIfInBounds i true) l':=by
 cases h with
 |nil h=>exact .inl ⟨a.symm.trans h,rfl⟩
 |cons c k=>exact .inr ⟨_,_,a▸c,rfl,k⟩
theorem YL:Region.ready .any ez #[false,false,false,false,false,false]=[0,2]:=by kernel_rfl
theorem YN:Region.ready .any ez #[true,false,false,false,false,false]=[1,2]:=by kernel_rfl
theorem YM:Region.ready .any ez #[false,false,true,false,false,false]=[0]:=by kernel_rfl
theorem YP:Region.ready .any ez #[true,true,false,false,false,false]=[2]:=by kernel_rfl
theorem YO:Region.ready .any ez #[true,false,true,false,false,false]=[1]:=by kernel_rfl
theorem YQ:Region.ready .any ez #[true,true,true,false,false,false]=[3]:=by kernel_rfl
theorem YR:Region.ready .any ez #[true,true,true,true,false,false]=[4]:=by kernel_rfl
theorem YS:Region.ready .any ez #[true,true,true,true,true,false]=[5]:=by kernel_rfl
theorem YT:Region.ready .any ez #[true,true,true,true,true,true]=[]:=by kernel_rfl
def XU{l}(h:gw ez #[true,true,true,true,true,true] l):l=[]:=by
 obtain⟨_,h⟩|⟨i,b,a,_⟩:=mR YT h
 .exact h
 .cases a
def XT{l}(h:gw ez #[true,true,true,true,true,false] l):l=[5]:=by
 obtain⟨h,_⟩|⟨i,b,a,rfl,k⟩:=mR YS h
 .cases h
 .obtain rfl:=ft.1 a;have k:=XU k;rw[k]
def XS{l}(h:gw ez #[true,true,true,true,false,false] l):l=[4,5]:=by
 obtain⟨h,_⟩|⟨i,b,a,rfl,k⟩:=mR YR h
 .cases h
 .obtain rfl:=ft.1 a;have k:=XT k;rw[k]
def GY{l}(h:gw ez #[true,true,true,false,false,false] l):l=[3,4,5]:=by
 obtain⟨h,_⟩|⟨i,b,a,rfl,k⟩:=mR YQ h
 .cases h
 .obtain rfl:=ft.1 a;have k:=XS k;rw[k]
def XR{l}(h:gw ez #[true,true,false,false,false,false] l):l=[2,3,4,5]:=by
 obtain⟨h,_⟩|⟨i,b,a,rfl,k⟩:=mR YP h
 .cases h
 .obtain rfl:=ft.1 a;have k:=GY k;rw[k]
def GX{l}(h:gw ez #[true,false,true,false,false,false] l):l=[1,3,4,5]:=by
 obtain⟨h,_⟩|⟨i,b,a,rfl,k⟩:=mR YO h
 .cases h
 .obtain rfl:=ft.1 a;have k:=GY k;rw[k]
def XQ{l}(h:gw ez #[true,false,false,false,false,false] l):l=[1,2,3,4,5]\/l=[2,1,3,4,5]:=by
 obtain⟨h,_⟩|⟨i,b,a,rfl,k⟩:=mR YN h
 .cases h
 .rcases cm.1 a with rfl|a
  .have k:=XR k;rw[k];simp
  .obtain rfl:=ft.1 a;have k:=GX k;rw[k];simp
def XP{l}(h:gw ez #[false,false,true,false,false,false] l):l=[0,1,3,4,5]:=by
 obtain⟨h,_⟩|⟨i,b,a,rfl,k⟩:=mR YM h
 .cases h
 .obtain rfl:=ft.1 a;have k:=GX k;rw[k]
def XO{l}(h:gw ez #[false,false,false,false,false,false] l):l=[0,1,2,3,4,5]\/l=[0,2,1,3,4,5]\/l=[2,0,1,3,4,5]:=by
 obtain⟨h,_⟩|⟨i,b,a,rfl,k⟩:=mR YL h
 .cases h
 .rcases cm.1 a with rfl|a
  .have k:=XQ k;obtain k|k:=k<;>(rw[k];simp)
  .obtain rfl:=ft.1 a;have k:=XP k;rw[k];simp
def XW{l}(h:gw ez (Array.replicate ez.size false) l):l=[0,1,2,3,4,5]\/l=[0,2,1,3,4,5]\/l=[2,0,1,3,4,5]:=by
 have e:Array.replicate ez.size false=#[false,false,false,false,false,false]:=by kernel_rfl
 rw[e]at h;exact XO h
noncomputable def a1N:List Item:=[.code (Tryz.f106.body.getD .skip)]
noncomputable def a1J:List Item:=q1.frame.todo
noncomputable def a1M:List Item:=q3.frame.todo
noncomputable def a1H:List Item:=Cv.todo
noncomputable def a1I:List Item:=Cw.todo
section
variable(K:Bool)(bx r n:Nat)(u:Nat->af)(L:List af)(cs:List ah)(ao:Option ap)(len cap:Nat)(p o j m g:af)(l:List Nat)(w:aa)
noncomputable def rH:ah:=az K (.int .i64 n:: .agg #[.slice ao len cap]::sq u 2 49 L) a1N
noncomputable def pH:ah:=az K (.int .i64 n:: .agg #[.slice ao len cap]::sq u 2 49 L) a1J
noncomputable def Dn:ah:=az K (.int .i64 n::u 1::u 2:: .pointer (some ⟨bx,0,none⟩)::sq u 4 47 L) a1M
noncomputable def dN:ah:=az K (.int .i64 n::u 1::u 2:: .pointer (some ⟨bx,0,none⟩)::sq u 4 4 (p::o::j::m::g::sq u 13 38 L)) (.inRegion ez l::Be)
noncomputable def yI:ah:=az K (.int .i64 n::u 1::u 2:: .pointer (some ⟨bx,0,none⟩)::u 4:: .pointer (some ⟨r,0,none⟩)::sq u 6 45 L) (.inRegion ez []::Be)
noncomputable def yG:ah:=az K (.int .i64 n::u 1::u 2:: .pointer (some ⟨bx,0,none⟩)::u 4:: .pointer (some ⟨r,0,none⟩)::sq u 6 45 L) a1H
noncomputable def yH:ah:=az K (.int .i64 n::u 1::u 2:: .pointer (some ⟨bx,0,none⟩)::u 4:: .pointer (some ⟨r,0,none⟩)::sq u 6 45 L) a1I
def OE:aS Tryz.prog true 2 (an (rH K n u L ao len cap) cs) (an (pH K n u L ao len cap) cs):=by cases K<;>exact eN (λw=>by kernel_rfl) (by kernel_rfl) (by kernel_rfl)
def Oy:stepG Tryz.prog true (an (pH K n u L ao len cap) cs) w=.go (fin (an (pH K n u L ao len cap) cs) (.pointer (some ⟨w.heap.size,0,none⟩))) {w with heap:=w.heap.push (.cells #[.slice ao len cap] 120)} #[]:=by cases K<;>kernel_rfl
def Ox:∃a,aS Tryz.prog true 3 (fin (an (pH K n u L ao len cap) cs) (.pointer (some ⟨bx,0,none⟩))) (an (Dn K bx n a L) cs):=⟨uo (aG Tryz.prog true 3 (fin (an (pH K n u L ao len cap) cs) (.pointer (some ⟨bx,0,none⟩)))),by cases K<;>exact eN (λw=>by kernel_rfl) (by kernel_rfl) (by kernel_rfl)⟩
def OD:stepG Tryz.prog true (an (Dn K bx n u L) cs) w=.go (an (dN K bx n u L (u 8) (u 9) (u 10) (u 11) (u 12) (Region.schedule (Tryz.prog.follows .mixedOrders) ez ((Question.order 106 1).cut (w.tape w.drawn (.order 106 1))))) cs) {w with drawn:=w.drawn+1} #[]:=by cases K<;>kernel_rfl
def yJ:stepG Tryz.prog true (an (dN K bx n u L p o j m g (0::l)) cs) w=.go (an (dN K bx n u L (.int .i64 n) o j m g l) cs) w #[]:=by cases K<;>kernel_rfl
def yK:stepG Tryz.prog true (an (dN K bx n u L p o j m g (2::l)) cs) w=.go (an (dN K bx n u L p o (.chan (some w.heap.size)) m g l) cs) {w with heap:=w.heap.push (.chan 0 #[] false 0 0 false)} #[]:=by cases K<;>kernel_rfl
def O2(tb dc):stepG Tryz.prog true (an (dN K bx n u L p (.slice (some ⟨tb,0,none⟩) n n) (.chan (some dc)) m g (3::l)) cs) w=.go (an (dN K bx n u L p (.slice (some ⟨tb,0,none⟩) n n) (.chan (some dc)) (.agg #[.slice (some ⟨tb,0,none⟩) n n,.int .u64 0,.int .u32 0,.chan (some dc),.int .u64 0,.int .u32 0]) g l) cs) w #[]:=by cases K<;>kernel_rfl
def O3(a b c d e f):stepG Tryz.prog true (an (dN K bx n u L p o j (.agg #[a,b,c,d,e,f]) g (4::l)) cs) w=.go (an (dN K bx n u L p o j (.agg #[a,b,c,d,e,f]) (.pointer (some ⟨w.heap.size,0,none⟩)) l) cs) {w with heap:=w.heap.push (.cells #[a,b,c,d,e,f] 260)} #[]:=by cases K<;>kernel_rfl
def Dq:∃a,stepG Tryz.prog true (an (dN K bx n u L p o j m (.pointer (some ⟨r,0,none⟩)) [5]) cs) w=.go (an (yI K bx r n a L) cs) w #[]:=⟨λi=>if i=8 then p else if i=9 then o else if i=10 then j else if i=11 then m else if i=12 then .pointer (some ⟨r,0,none⟩)else u i,by cases K<;>kernel_rfl⟩
def Ow:∃a,aS Tryz.prog true 8 (an (yI K bx r n u L) cs) (an (Frame.enter Tryz.prog 153 #[.pointer (some ⟨r,1,none⟩),.int .i64 n] .normal) (yG K bx r n a L::cs)):=⟨uo (an ((aG Tryz.prog true 8 (an (yI K bx r n u L) cs)).callers.headD default) []),by cases K<;>exact eN (λw=>by kernel_rfl) (by kernel_rfl) (by kernel_rfl)⟩
def Ou:∃a,aS Tryz.prog true 8 (an ((yG K bx r n u L).finish (.tuple #[])) cs) (an (Frame.enter Tryz.prog 153 #[.pointer (some ⟨r,4,none⟩),.int .i64 n] .normal) (yH K bx r n a L::cs)):=⟨uo (an ((aG Tryz.prog true 8 (an ((yG K bx r n u L).finish (.tuple #[])) cs)).callers.headD default) []),by cases K<;>exact eN (λw=>by kernel_rfl) (by kernel_rfl) (by kernel_rfl)⟩
def Ov:∃a,aS Tryz.prog true 11 (an ((yH K bx r n u L).finish (.tuple #[])) cs) (an (eH K bx r n 0 a L) cs):=⟨uo (aG Tryz.prog true 11 (an ((yH K bx r n u L).finish (.tuple #[])) cs)),by cases K<;>exact eN (λw=>by kernel_rfl) (by kernel_rfl) (by kernel_rfl)⟩
def OS:stepG Tryz.prog true (an (dN K bx 0 u L (.int .i64 (0:Nat)) o j m g (1::l)) cs) w=.go (an (dN K bx 0 u L (.int .i64 (0:Nat)) (.slice (some ⟨w.heap.size,0,none⟩) 0 0) j m g l) cs) {w with heap:=w.heap.push (.cells #[] 46)} #[]:=by cases K<;>kernel_rfl
def OT:stepG Tryz.prog true (an (dN K bx 1 u L (.int .i64 (1:Nat)) o j m g (1::l)) cs) w=.go (an (dN K bx 1 u L (.int .i64 (1:Nat)) (.slice (some ⟨w.heap.size,0,none⟩) 1 1) j m g l) cs) {w with heap:=w.heap.push (.cells #[.slice none 0 0] 46)} #[]:=by cases K<;>kernel_rfl
def OU:stepG Tryz.prog true (an (dN K bx 2 u L (.int .i64 (2:Nat)) o j m g (1::l)) cs) w=.go (an (dN K bx 2 u L (.int .i64 (2:Nat)) (.slice (some ⟨w.heap.size,0,none⟩) 2 2) j m g l) cs) {w with heap:=w.heap.push (.cells #[.slice none 0 0,.slice none 0 0] 46)} #[]:=by cases K<;>kernel_rfl
def OV:stepG Tryz.prog true (an (dN K bx 3 u L (.int .i64 (3:Nat)) o j m g (1::l)) cs) w=.go (an (dN K bx 3 u L (.int .i64 (3:Nat)) (.slice (some ⟨w.heap.size,0,none⟩) 3 3) j m g l) cs) {w with heap:=w.heap.push (.cells #[.slice none 0 0,.slice none 0 0,.slice none 0 0] 46)} #[]:=by cases K<;>kernel_rfl
def OW:stepG Tryz.prog true (an (dN K bx 4 u L (.int .i64 (4:Nat)) o j m g (1::l)) cs) w=.go (an (dN K bx 4 u L (.int .i64 (4:Nat)) (.slice (some ⟨w.heap.size,0,none⟩) 4 4) j m g l) cs) {w with heap:=w.heap.push (.cells #[.slice none 0 0,.slice none 0 0,.slice none 0 0,.slice none 0 0] 46)} #[]:=by cases K<;>kernel_rfl
def OX:stepG Tryz.prog true (an (dN K bx 5 u L (.int .i64 (5:Nat)) o j m g (1::l)) cs) w=.go (an (dN K bx 5 u L (.int .i64 (5:Nat)) (.slice (some ⟨w.heap.size,0,none⟩) 5 5) j m g l) cs) {w with heap:=w.heap.push (.cells #[.slice none 0 0,.slice none 0 0,.slice none 0 0,.slice none 0 0,.slice none 0 0] 46)} #[]:=by cases K<;>kernel_rfl
def OY:stepG Tryz.prog true (an (dN K bx 6 u L (.int .i64 (6:Nat)) o j m g (1::l)) cs) w=.go (an (dN K bx 6 u L (.int .i64 (6:Nat)) (.slice (some ⟨w.heap.size,0,none⟩) 6 6) j m g l) cs) {w with heap:=w.heap.push (.cells #[.slice none 0 0,.slice none 0 0,.slice none 0 0,.slice none 0 0,.slice none 0 0,.slice none 0 0] 46)} #[]:=by cases K<;>kernel_rfl
def OZ:stepG Tryz.prog true (an (dN K bx 7 u L (.int .i64 (7:Nat)) o j m g (1::l)) cs) w=.go (an (dN K bx 7 u L (.int .i64 (7:Nat)) (.slice (some ⟨w.heap.size,0,none⟩) 7 7) j m g l) cs) {w with heap:=w.heap.push (.cells #[.slice none 0 0,.slice none 0 0,.slice none 0 0,.slice none 0 0,.slice none 0 0,.slice none 0 0,.slice none 0 0] 46)} #[]:=by cases K<;>kernel_rfl
def O0:stepG Tryz.prog true (an (dN K bx 8 u L (.int .i64 (8:Nat)) o j m g (1::l)) cs) w=.go (an (dN K bx 8 u L (.int .i64 (8:Nat)) (.slice (some ⟨w.heap.size,0,none⟩) 8 8) j m g l) cs) {w with heap:=w.heap.push (.cells #[.slice none 0 0,.slice none 0 0,.slice none 0 0,.slice none 0 0,.slice none 0 0,.slice none 0 0,.slice none 0 0,.slice none 0 0] 46)} #[]:=by cases K<;>kernel_rfl
def Dp(a:n<=8):stepG Tryz.prog true (an (dN K bx n u L (.int .i64 n) o j m g (1::l)) cs) w=.go (an (dN K bx n u L (.int .i64 n) (.slice (some ⟨w.heap.size,0,none⟩) n n) j m g l) cs) {w with heap:=w.heap.push (.cells (Array.replicate n (.slice none 0 0)) 46)} #[]:=by
 have:n=0\/n=1\/n=2\/n=3\/n=4\/n=5\/n=6\/n=7\/n=8:=by omega
 obtain rfl|rfl|rfl|rfl|rfl|rfl|rfl|rfl|rfl:=this
 .exact OS K bx u L cs o j m g l w
 .exact OT K bx u L cs o j m g l w
 .exact OU K bx u L cs o j m g l w
 .exact OV K bx u L cs o j m g l w
 .exact OW K bx u L cs o j m g l w
 .exact OX K bx u L cs o j m g l w
 .exact OY K bx u L cs o j m g l w
 .exact OZ K bx u L cs o j m g l w
 .exact O0 K bx u L cs o j m g l w
end
end Go.Proofs.Each
end
section
namespace Go.Mir
def KK:Int:=4294967296
end Go.Mir
end
section
namespace Go.Proofs.Each
open Go.Conc Go.Mir
noncomputable def kz:Array Oper:=match (pj 0 0 0 0 none 0 0 0).frame.todo with
 | .code (.region _ a _)::_=>a
 |_=> #[]
noncomputable def Zn:List Item:=(pj 0 0 0 0 none 0 0 0).frame.todo.tail
section
variable(r i c d:Nat)(ao:Option ap)(len k n:Nat)
noncomputable def rg(f x1 p x3 j e g h o:af)(l:List Nat):aw:=
 an {(pj r i c d ao len k n).frame with tmps:=⟨(pj r i c d ao len k n).frame.tmps.toList.take 20++([f,x1,p,x3,j,e,g,h,o]++(pj r i c d ao len k n).frame.tmps.toList.drop 29)⟩,todo:=.inRegion kz l::Zn} [bf]
theorem ZG(w):stepG Tryz.prog false (pj r i c d ao len k n) w=.go (rg r i c d ao len k n undef undef undef undef undef undef undef undef undef (Region.schedule (Tryz.prog.follows .mixedOrders) kz ((Question.order 154 5).cut (w.tape w.drawn (.order 154 5))))) {w with drawn:=w.drawn+1} #[]:=by kernel_rfl
variable(f x1 p x3 j e g h o:af)(l:List Nat)(w:aa)
theorem Zq:stepG Tryz.prog false (rg r i c d ao len k n f x1 p x3 j e g h o (0::l)) w=.go (rg r i c d ao len k n (.pointer (some ⟨r,0,none⟩)) x1 p x3 j e g h o l) w #[]:=by kernel_rfl
theorem Zr:stepG Tryz.prog false (rg r i c d ao len k n (.pointer (some ⟨r,0,none⟩)) x1 p x3 j e g h o (1::l)) w=.go (rg r i c d ao len k n (.pointer (some ⟨r,0,none⟩)) (.pointer (some ⟨r,0,none⟩)) p x3 j e g h o l) w #[]:=by kernel_rfl
theorem Zs:stepG Tryz.prog false (rg r i c d ao len k n f (.pointer (some ⟨r,0,none⟩)) p x3 j e g h o (2::l)) w=.go (rg r i c d ao len k n f (.pointer (some ⟨r,0,none⟩)) (.pointer (some ⟨r,0,none⟩)) x3 j e g h o l) w #[]:=by kernel_rfl
theorem Zt:stepG Tryz.prog false (rg r i c d ao len k n f x1 (.pointer (some ⟨r,0,none⟩)) x3 j e g h o (3::l)) w=stepG.apply Tryz.prog true (rg r i c d ao len k n f x1 (.pointer (some ⟨r,0,none⟩)) x3 j e g h o (3::l)).frame (rg r i c d ao len k n f x1 (.pointer (some ⟨r,0,none⟩)) x3 j e g h o (3::l)).callers none (.load .plain ⟨r,0,none⟩ λv=>.pure (.value v)) w:=by kernel_rfl
theorem Zu(v):fin (rg r i c d ao len k n f x1 p x3 j e g h o (3::l)) v=rg r i c d ao len k n f x1 p v j e g h o l:=by kernel_rfl
theorem Zv:stepG Tryz.prog false (rg r i c d ao len k n f x1 p x3 j e g h o (4::l)) w=.go (rg r i c d ao len k n f x1 p x3 (.int .i64 i) e g h o l) w #[]:=by kernel_rfl
theorem Zw:stepG Tryz.prog false (rg r i c d ao len k n f x1 p x3 j e g h o (5::l)) w=.go (rg r i c d ao len k n f x1 p x3 j (.int .i64 i) g h o l) w #[]:=by kernel_rfl
theorem Zx:stepG Tryz.prog false (rg r i c d ao len k n f x1 p x3 j e g h o (6::l)) w=stepG.apply Tryz.prog true (rg r i c d ao len k n f x1 p x3 j e g h o (6::l)).frame (rg r i c d ao len k n f x1 p x3 j e g h o (6::l)).callers none (.load .plain ⟨n,0,none⟩ λv=>.pure (.value (.agg #[v]))) w:=by kernel_rfl
theorem Zy(v):fin (rg r i c d ao len k n f x1 p x3 j e g h o (6::l)) v=rg r i c d ao len k n f x1 p x3 j e v h o l:=by kernel_rfl
theorem Zz:stepG Tryz.prog false (rg r i c d ao len k n f x1 p x3 j (.int .i64 i) (.agg #[.slice ao len k]) h o (7::l)) w=.go (an (Frame.enter Tryz.prog 43 #[.int .i64 i,.agg #[.slice ao len k]] .normal) [(rg r i c d ao len k n f x1 p x3 j (.int .i64 i) (.agg #[.slice ao len k]) h o (7::l)).frame,bf]) w #[]:=by kernel_rfl
theorem ZA(v):an ((rg r i c d ao len k n f x1 p x3 j e g h o (7::l)).frame.finish v) [bf]=rg r i c d ao len k n f x1 p x3 j e g v o l:=by kernel_rfl
theorem ZB(tb m):stepG Tryz.prog false (rg r i c d ao len k n f x1 p (.slice (some ⟨tb,0,none⟩) m m) (.int .i64 i) e g h o (8::l)) w=stepG.apply Tryz.prog true (rg r i c d ao len k n f x1 p (.slice (some ⟨tb,0,none⟩) m m) (.int .i64 i) e g h o (8::l)).frame (rg r i c d ao len k n f x1 p (.slice (some ⟨tb,0,none⟩) m m) (.int .i64 i) e g h o (8::l)).callers none (do pure (.value (<-Instr.indexAt 80 (.slice (some ⟨tb,0,none⟩) m m) (.int .i64 i)))) w:=by kernel_rfl
theorem ZC(v):fin (rg r i c d ao len k n f x1 p x3 j e g h o (8::l)) v=rg r i c d ao len k n f x1 p x3 j e g h v l:=by kernel_rfl
theorem ZD(tb a m b):stepG Tryz.prog false (rg r i c d ao len k n f x1 p x3 j e g (.slice a m b) (.pointer (some ⟨tb,i,none⟩)) (9::l)) w=stepG.apply Tryz.prog true (rg r i c d ao len k n f x1 p x3 j e g (.slice a m b) (.pointer (some ⟨tb,i,none⟩)) (9::l)).frame (rg r i c d ao len k n f x1 p x3 j e g (.slice a m b) (.pointer (some ⟨tb,i,none⟩)) (9::l)).callers none (.store .plain ⟨tb,i,none⟩ (.slice a m b) (.pure .skip)) w:=by kernel_rfl
theorem ZE:fin (rg r i c d ao len k n f x1 p x3 j e g h o (9::l)) undef=rg r i c d ao len k n f x1 p x3 j e g h o l:=by kernel_rfl
theorem wW:((rg r i c d ao len k n f x1 p x3 j e g h o l).frame.kind==.early)=false:=by kernel_rfl
noncomputable def BR:ah:=(aG Tryz.prog false 5 (rg r i c d ao len k n f x1 p x3 j e g h o [])).frame
def ZF:aS Tryz.prog false 6 (rg r i c d ao len k n f x1 p x3 j e g h o []) (rz false r 1 [BR r i c d ao len k n f x1 p x3 j e g h o,bf]):=eN (λw=>by kernel_rfl) (by kernel_rfl) (by kernel_rfl)
noncomputable def BU:aw:=an ((BR r i c d ao len k n f x1 p x3 j e g h o).finish (.tuple #[])) [bf]
end
section
variable(r i c d:Nat)(ao:Option ap)(len k n:Nat)(f x1 m x3 h b j e l:af)
noncomputable def pk:aw:=aG Tryz.prog false 14 (BU r i c d ao len k n f x1 m x3 h b j e l)
noncomputable def xL:aw:=fin (pk r i c d ao len k n f x1 m x3 h b j e l) (.chan (some d))
noncomputable def qP:aw:=aG Tryz.prog false 3 (xL r i c d ao len k n f x1 m x3 h b j e l)
noncomputable def Jp:aw:=(qP r i c d ao len k n f x1 m x3 h b j e l).finishComm Tryz.prog #[rcase c zT,rcase d (.agg #[])] .select 1 (.agg #[]) false
noncomputable def BY:ah:=(aG Tryz.prog false 9 (Jp r i c d ao len k n f x1 m x3 h b j e l)).callers.headD default
def a3B:aS Tryz.prog false 14 (BU r i c d ao len k n f x1 m x3 h b j e l) (pk r i c d ao len k n f x1 m x3 h b j e l):=cq (λw=>by kernel_rfl) (by kernel_rfl)
theorem a3o(w):stepG Tryz.prog false (pk r i c d ao len k n f x1 m x3 h b j e l) w=stepG.apply Tryz.prog true (pk r i c d ao len k n f x1 m x3 h b j e l).frame (pk r i c d ao len k n f x1 m x3 h b j e l).callers none (.load .plain ⟨r,3,none⟩ λv=>.pure (.value v)) w:=by kernel_rfl
def a3p{w}(a:w.cell? ⟨r,3,none⟩=some (.chan (some d))):stepG Tryz.prog false (pk r i c d ao len k n f x1 m x3 h b j e l) w=.go (xL r i c d ao len k n f x1 m x3 h b j e l) w #[⟨.cell ⟨r,3,none⟩,false,false⟩]:=by have:=i9 (v:=.chan (some d)) (a3o r i c d ao len k n f x1 m x3 h b j e l w) (by rw[oK a];rfl) (by kernel_rfl);exact this.trans (congrArg (λx=>GStep.go (xL r i c d ao len k n f x1 m x3 h b j e l) w x) (by kernel_rfl))
def a3C:aS Tryz.prog false 3 (xL r i c d ao len k n f x1 m x3 h b j e l) (qP r i c d ao len k n f x1 m x3 h b j e l):=cq (λw=>by kernel_rfl) (by kernel_rfl)
theorem a3s(w):stepG Tryz.prog false (qP r i c d ao len k n f x1 m x3 h b j e l) w=.comm (qP r i c d ao len k n f x1 m x3 h b j e l) #[rcase c zT,rcase d (.agg #[])] true .select w #[]:=by kernel_rfl
theorem a3r:(qP r i c d ao len k n f x1 m x3 h b j e l).status=.running:=by kernel_rfl
theorem a3q:(pk r i c d ao len k n f x1 m x3 h b j e l).status=.running:=by kernel_rfl
def a3w:aS Tryz.prog false 9 (Jp r i c d ao len k n f x1 m x3 h b j e l) (rz true r 4 [BY r i c d ao len k n f x1 m x3 h b j e l,bf]):=eN (λw=>by kernel_rfl) (by kernel_rfl) (by kernel_rfl)
def YH:∃g,aS Tryz.prog false 6 (yC true r 4 [BY r i c d ao len k n f x1 m x3 h b j e l,bf]) g/\g.status=.finished:=⟨_,cq (λw=>by kernel_rfl) (by kernel_rfl),by kernel_rfl⟩
end
structure Sl where
 ao:Option ap
 len:Nat
 k:Nat
 n:Nat
 x0:af
 x1:af
 x2:af
 x3:af
 x4:af
 x5:af
 x6:af
 x7:af
 x8:af
noncomputable def lZ(r i c d:Nat)(S:Sl):ah:=BR r i c d S.ao S.len S.k S.n S.x0 S.x1 S.x2 S.x3 S.x4 S.x5 S.x6 S.x7 S.x8
noncomputable def lC(r i c d:Nat)(S:Sl):ah:=BY r i c d S.ao S.len S.k S.n S.x0 S.x1 S.x2 S.x3 S.x4 S.x5 S.x6 S.x7 S.x8
noncomputable def Jo(r i c d:Nat)(S:Sl):aw:=BU r i c d S.ao S.len S.k S.n S.x0 S.x1 S.x2 S.x3 S.x4 S.x5 S.x6 S.x7 S.x8
noncomputable def BV(r i c d:Nat)(S:Sl):aw:=qP r i c d S.ao S.len S.k S.n S.x0 S.x1 S.x2 S.x3 S.x4 S.x5 S.x6 S.x7 S.x8
end Go.Proofs.Each
end
