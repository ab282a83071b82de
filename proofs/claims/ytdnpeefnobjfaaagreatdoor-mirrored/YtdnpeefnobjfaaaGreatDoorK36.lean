import Derived.KernelRfl
import Derived.Test.YtdnpeefnobjfaaaGreatDoorProg
import Derived.Test.YtdnpeefnobjfaaaGreatDoorK10
set_option maxRecDepth 100000
set_option maxHeartbeats 4000000
set_option linter.all false
section
namespace Go.Proofs.Each
open Go.Conc Go.Mir
theorem BP:Tryz.prog.underlying 311=some (.pointer 258):=by kernel_rfl
theorem Jj:Tryz.prog.underlying 316=some (.pointer 30):=by kernel_rfl
theorem nP:Tryz.prog.underlying 112=some .unsafePointer:=by kernel_rfl
theorem Bm:(Tryz.prog.info? 258).map (λi=>decide (i.size=0))=some false:=by kernel_rfl
theorem H0:(Tryz.prog.info? 30).map (λi=>decide (i.size=0))=some false:=by kernel_rfl
section
variable(K:Bool)(b o:Nat)(cs:List ah)
noncomputable def rz:aw:=an (Frame.enter Tryz.prog 206 #[.pointer (some ⟨b,o,none⟩)] (cond K .deferred .normal)) cs
noncomputable def oi:aw:=aG Tryz.prog false 14 (rz K b o cs)
noncomputable def oj:aw:=fin (oi K b o cs) (.pointer (some ⟨b,o,none⟩))
noncomputable def rB:aw:=fin (oj K b o cs) (.tuple #[])
noncomputable def uC:aw:=aG Tryz.prog false 3 (rB K b o cs)
noncomputable def uD:aw:=fin (uC K b o cs) (.tuple #[])
noncomputable def kV:aw:=aG Tryz.prog false 34 (uD K b o cs)
noncomputable def mA(s:Int):aw:=fin (kV K b o cs) (.int .u64 s)
noncomputable def uE(s:Int):aw:=aG Tryz.prog false 87 (mA K b o cs s)
noncomputable def rG(s:Int):aw:=aG Tryz.prog false 1 (uE K b o cs s)
def Oj:aS Tryz.prog false 14 (rz K b o cs) (oi K b o cs):=by cases K<;>exact cq (λw=>by kernel_rfl) (by kernel_rfl)
def Og:d8 (oi K b o cs) (cI (oi K b o cs)):=by cases K<;>exact⟨by kernel_rfl,by kernel_rfl,by kernel_rfl,by kernel_rfl,by kernel_rfl,by kernel_rfl,.inl (by kernel_rfl)⟩
def Oi{w v}(a:w.cell? ⟨b,o,none⟩=some v):stepG Tryz.prog false (oi K b o cs) w=.go (oj K b o cs) w #[]:=
 rt (Og K b o cs) (show(cI (oi K b o cs)).op=.convert 311 112 (.tmp 11)by cases K<;>kernel_rfl) (by cases K<;>kernel_rfl) BP nP Bm a
def Df(w):stepG Tryz.prog false (oj K b o cs) w=.go (rB K b o cs) w #[⟨.mark (.releaseMerge ⟨b,o,none⟩),false,true⟩]:=by cases K<;>kernel_rfl
def Dg:aS Tryz.prog false 3 (rB K b o cs) (uC K b o cs):=by cases K<;>exact cq (λw=>by kernel_rfl) (by kernel_rfl)
def De(w):stepG Tryz.prog false (uC K b o cs) w=.go (uD K b o cs) w #[⟨.mark .disable,false,true⟩]:=by cases K<;>kernel_rfl
def Dh:aS Tryz.prog false 34 (uD K b o cs) (kV K b o cs):=by cases K<;>exact cq (λw=>by kernel_rfl) (by kernel_rfl)
def Oh:d8 (kV K b o cs) (cI (kV K b o cs)):=by cases K<;>exact⟨by kernel_rfl,by kernel_rfl,by kernel_rfl,by kernel_rfl,by kernel_rfl,by kernel_rfl,.inl (by kernel_rfl)⟩
theorem f235:Tryz.prog.funcs[235]?=some Tryz.f235:=by kernel_rfl
theorem zu:(Tryz.f235.name== "runtime.NumGoroutine")=false:=by kernel_rfl
theorem zr:Tryz.f235.body.isNone=true:=by kernel_rfl
theorem zv:Extern.findNext Tryz.f235=none:=by kernel_rfl
theorem zt:Extern.find Tryz.f235=some (Extern.Atomic.update (Op.intArith .add) .u64 true):=by kernel_rfl
def Dd{w s}(a:w.cell? ⟨b,o,none⟩=some (.int .u64 s))(c:w.frozen? ⟨b,o,none⟩=false):stepG Tryz.prog false (kV K b o cs) w=.go (mA K b o cs (IntKind.u64.wrap (s+18446744069414584320))) (w.setCell ⟨b,o,none⟩ (.int .u64 (IntKind.u64.wrap (s+18446744069414584320)))) #[⟨.cell ⟨b,o,none⟩,false,true⟩,⟨.cell ⟨b,o,none⟩,true,true⟩]:=
 xZ (Oh K b o cs) (show(cI (kV K b o cs)).op=.call {callee:=.value (.func 235),args:=#[.tmp 7,.tmp 8],argTypes:=#[340,254]}by cases K<;>kernel_rfl) f235 zu zr zv .u64 zt (by cases K<;>kernel_rfl) (by cases K<;>kernel_rfl) a c
end
section
variable(b o:Nat)(cs:List ah)
noncomputable def tP:aw:=an (Frame.enter Tryz.prog 155 #[.pointer (some ⟨b,o,none⟩)] .normal) cs
noncomputable def BZ:aw:=aG Tryz.prog true 3 (tP b o cs)
noncomputable def xM:aw:=fin (BZ b o cs) (.tuple #[])
noncomputable def wq(u:Nat->af):aw:=an ⟨155,⟨[.pointer (some ⟨b,o,none⟩),u 1,u 2,u 3,u 4,u 5,u 6,u 7,u 8,u 9,u 10,u 11,u 12,u 13,u 14,u 15,u 16,u 17,u 18,u 19,u 20,u 21,u 22,u 23,u 24,u 25,u 26,u 27,u 28,u 29,u 30,u 31,u 32,u 33,u 34,u 35,u 36,u 37,u 38,u 39,u 40,u 41,u 42,u 43,u 44,u 45,u 46,u 47,u 48,u 49,u 50,u 51,u 52,u 53,u 54,u 55,u 56,u 57,u 58,u 59,u 60,u 61,u 62,u 63,u 64,u 65,u 66,u 67,u 68,u 69,u 70,u 71,u 72,u 73,u 74,u 75,u 76,u 77,u 78,u 79,u 80,u 81,u 82,u 83]⟩,(aG Tryz.prog true 3 (xM 0 0 [])).frame.todo,[],.run,.normal,none⟩ cs
def a4o:aS Tryz.prog true 3 (tP b o cs) (BZ b o cs):=cq (λw=>by kernel_rfl) (by kernel_rfl)
theorem a4n(w):stepG Tryz.prog true (BZ b o cs) w=.go (xM b o cs) w #[⟨.mark .disable,false,true⟩]:=by kernel_rfl
def a4p:∃u,aS Tryz.prog true 3 (xM b o cs) (wq b o cs u):=⟨λi=>(xM b o cs).frame.tmps.getD i undef,eN (λw=>by kernel_rfl) (by kernel_rfl) (by kernel_rfl)⟩
end
section
variable(b o:Nat)(cs:List ah)(u:Nat->af)
noncomputable def mW:aw:=aG Tryz.prog true 16 (wq b o cs u)
def Js:aS Tryz.prog true 16 (wq b o cs u) (mW b o cs u):=cq (λw=>by kernel_rfl) (by kernel_rfl)
def a3P:d8 (mW b o cs u) (cI (mW b o cs u)):=⟨by kernel_rfl,by kernel_rfl,by kernel_rfl,by kernel_rfl,by kernel_rfl,by kernel_rfl,.inl (by kernel_rfl)⟩
theorem f236:Tryz.prog.funcs[236]?=some Tryz.f236:=by kernel_rfl
theorem ED:(Tryz.f236.name== "runtime.NumGoroutine")=false:=by kernel_rfl
theorem EB:Tryz.f236.body.isNone=true:=by kernel_rfl
theorem EE:Extern.findNext Tryz.f236=none:=by kernel_rfl
theorem EC:Extern.find Tryz.f236=some (Extern.Atomic.loadT (.int .u64)):=by kernel_rfl
theorem f238:Tryz.prog.funcs[238]?=some Tryz.f238:=by kernel_rfl
theorem EH:(Tryz.f238.name== "runtime.NumGoroutine")=false:=by kernel_rfl
theorem EF:Tryz.f238.body.isNone=true:=by kernel_rfl
theorem EI:Extern.findNext Tryz.f238=none:=by kernel_rfl
theorem EG:Extern.find Tryz.f238=some (Extern.Atomic.casT (.int .u64)):=by kernel_rfl
noncomputable def j6(s:Int):aw:=fin (mW b o cs u) (.int .u64 s)
def a3Q{w s}(a:w.cell? ⟨b,o,none⟩=some (.int .u64 s)):stepG Tryz.prog true (mW b o cs u) w=.go (j6 b o cs u s) w #[⟨.cell ⟨b,o,none⟩,false,true⟩]:=
 Ah (a3P b o cs u) (show(cI (mW b o cs u)).op=.call {callee:=.value (.func 236),args:=#[.tmp 5],argTypes:=#[340]}by kernel_rfl) f236 ED EB EE .u64 EC (by kernel_rfl) a
noncomputable def xN:aw:=aG Tryz.prog true 31 (j6 b o cs u 0)
noncomputable def B1:aw:=fin (xN b o cs u) (.tuple #[])
noncomputable def pv:aw:=aG Tryz.prog true 3 (B1 b o cs u)
noncomputable def tQ:aw:=fin (pv b o cs u) (.pointer (some ⟨b,o,none⟩))
noncomputable def xO:aw:=fin (tQ b o cs u) (.tuple #[])
def a4v:aS Tryz.prog true 31 (j6 b o cs u 0) (xN b o cs u):=cq (λw=>by kernel_rfl) (by kernel_rfl)
theorem a4t(w):stepG Tryz.prog true (xN b o cs u) w=.go (B1 b o cs u) w #[⟨.mark .enable,false,true⟩]:=by kernel_rfl
def a4w:aS Tryz.prog true 3 (B1 b o cs u) (pv b o cs u):=cq (λw=>by kernel_rfl) (by kernel_rfl)
def a4q:d8 (pv b o cs u) (cI (pv b o cs u)):=⟨by kernel_rfl,by kernel_rfl,by kernel_rfl,by kernel_rfl,by kernel_rfl,by kernel_rfl,.inl (by kernel_rfl)⟩
def a4s{w v}(a:w.cell? ⟨b,o,none⟩=some v):stepG Tryz.prog true (pv b o cs u) w=.go (tQ b o cs u) w #[]:=
 rt (a4q b o cs u) (show(cI (pv b o cs u)).op=.convert 311 112 (.tmp 21)by kernel_rfl) (by kernel_rfl) BP nP Bm a
theorem a4r(w):stepG Tryz.prog true (tQ b o cs u) w=.go (xO b o cs u) w #[⟨.mark (.acquire ⟨b,o,none⟩),false,true⟩]:=by kernel_rfl
def a4u(c):aS Tryz.prog true 20 (xO b o (c::cs) u) (an (c.finish (.tuple #[])) cs):=eN (λw=>by kernel_rfl) (by kernel_rfl) (by kernel_rfl)
theorem f210:Tryz.prog.funcs[210]?=some Tryz.f210:=by kernel_rfl
theorem Ez:(Tryz.f210.name== "runtime.NumGoroutine")=false:=by kernel_rfl
theorem Ex:Tryz.f210.body.isNone=true:=by kernel_rfl
theorem EA:Extern.findNext Tryz.f210=none:=by kernel_rfl
theorem Ey:Extern.find Tryz.f210=some Extern.Sync.semacquire:=by kernel_rfl
variable(s:Int)
noncomputable def iY:aw:=aG Tryz.prog true 48 (j6 b o cs u s)
noncomputable def pm:aw:=fin (iY b o cs u s) (.bool false)
noncomputable def pp:aw:=fin (iY b o cs u s) (.bool true)
noncomputable def mX:aw:=aG Tryz.prog true 19 (pp b o cs u s)
noncomputable def qR:aw:=fin (mX b o cs u s) (.pointer (some ⟨b,o+1,none⟩))
noncomputable def tN:aw:=fin (qR b o cs u s) (.tuple #[])
noncomputable def jC:aw:=aG Tryz.prog true 23 (tN b o cs u s)
noncomputable def qS:aw:=fin (jC b o cs u s) (.tuple #[])
noncomputable def l5:aw:=aG Tryz.prog true 16 (qS b o cs u s)
noncomputable def pq:aw:=fin (l5 b o cs u s) (.int .u64 0)
noncomputable def qT:aw:=aG Tryz.prog true 11 (pq b o cs u s)
noncomputable def tO:aw:=fin (qT b o cs u s) (.tuple #[])
noncomputable def mY:aw:=aG Tryz.prog true 3 (tO b o cs u s)
noncomputable def pu:aw:=fin (mY b o cs u s) (.pointer (some ⟨b,o,none⟩))
noncomputable def jD:aw:=fin (pu b o cs u s) (.tuple #[])
end
def K8(v:Int):Prop:=v=1*4294967296\/v=2*4294967296\/v=3*4294967296\/v=4*4294967296\/v=5*4294967296\/v=6*4294967296\/v=7*4294967296\/v=8*4294967296
section
variable(b o:Nat)(cs:List ah)(u:Nat->af){v:Int}(e:K8 v)
include e
def a4c:aS Tryz.prog true 48 (j6 b o cs u v) (iY b o cs u v):=by have h:=e;obtain rfl|rfl|rfl|rfl|rfl|rfl|rfl|rfl:=h<;>exact cq (λw=>by kernel_rfl) (by kernel_rfl)
def Jt:d8 (iY b o cs u v) (cI (iY b o cs u v)):=by have h:=e;obtain rfl|rfl|rfl|rfl|rfl|rfl|rfl|rfl:=h<;>exact⟨by kernel_rfl,by kernel_rfl,by kernel_rfl,by kernel_rfl,by kernel_rfl,by kernel_rfl,.inl (by kernel_rfl)⟩
def Jv:(cI (iY b o cs u v)).op=.call {callee:=.value (.func 238),args:=#[.tmp 9,.tmp 10,.tmp 11],argTypes:=#[340,254,254]}:=by have h:=e;obtain rfl|rfl|rfl|rfl|rfl|rfl|rfl|rfl:=h<;>(show _=_;kernel_rfl)
def a4j:(⟨(iY b o cs u v).frame.tmps,(iY b o cs u v).frame.defers⟩:Act).eval (.tmp 11)=.int .u64 (v+1):=by have h:=e;obtain rfl|rfl|rfl|rfl|rfl|rfl|rfl|rfl:=h<;>(show _=_;kernel_rfl)
def a3Y{w}(a:w.cell? ⟨b,o,none⟩=some (.int .u64 v))(c:w.frozen? ⟨b,o,none⟩=false):stepG Tryz.prog true (iY b o cs u v) w=.go (pp b o cs u v) (w.setCell ⟨b,o,none⟩ (.int .u64 (v+1))) #[⟨.cell ⟨b,o,none⟩,false,true⟩,⟨.cell ⟨b,o,none⟩,true,true⟩]:=by have h:=e;obtain rfl|rfl|rfl|rfl|rfl|rfl|rfl|rfl:=h<;>exact Tl (Jt b o cs u e) (Jv b o cs u e) f238 EH EF EI .u64 EG (by kernel_rfl) (by kernel_rfl) (by kernel_rfl) a c
def a4a{w x}(c:w.cell? ⟨b,o,none⟩=some (.int .u64 x))(d:w.frozen? ⟨b,o,none⟩=false)(a: ¬x=v):stepG Tryz.prog true (iY b o cs u v) w=.go (pm b o cs u v) w #[⟨.cell ⟨b,o,none⟩,false,true⟩]:=by have h:=e;obtain rfl|rfl|rfl|rfl|rfl|rfl|rfl|rfl:=h<;>exact U6 (Jt b o cs u e) (Jv b o cs u e) f238 EH EF EI .u64 EG (by kernel_rfl) (by kernel_rfl) (a4j b o cs u e) c d a
def a4d:aS Tryz.prog true 19 (pp b o cs u v) (mX b o cs u v):=by have h:=e;obtain rfl|rfl|rfl|rfl|rfl|rfl|rfl|rfl:=h<;>exact cq (λw=>by kernel_rfl) (by kernel_rfl)
def a3R:d8 (mX b o cs u v) (cI (mX b o cs u v)):=by have h:=e;obtain rfl|rfl|rfl|rfl|rfl|rfl|rfl|rfl:=h<;>exact⟨by kernel_rfl,by kernel_rfl,by kernel_rfl,by kernel_rfl,by kernel_rfl,by kernel_rfl,.inl (by kernel_rfl)⟩
def a3V{w x}(a:w.cell? ⟨b,o+1,none⟩=some x):stepG Tryz.prog true (mX b o cs u v) w=.go (qR b o cs u v) w #[]:=by have h:=e;obtain rfl|rfl|rfl|rfl|rfl|rfl|rfl|rfl:=h<;>exact rt (a3R b o cs u e) (show(cI (mX b o cs u _)).op=.convert 316 112 (.tmp 55)by kernel_rfl) (by kernel_rfl) Jj nP H0 a
def a4i(w):stepG Tryz.prog true (qR b o cs u v) w=.go (tN b o cs u v) w #[⟨.mark (.write ⟨b,o+1,none⟩),false,true⟩]:=by have h:=e;obtain rfl|rfl|rfl|rfl|rfl|rfl|rfl|rfl:=h<;>(show _=_;kernel_rfl)
def a4e:aS Tryz.prog true 23 (tN b o cs u v) (jC b o cs u v):=by have h:=e;obtain rfl|rfl|rfl|rfl|rfl|rfl|rfl|rfl:=h<;>exact cq (λw=>by kernel_rfl) (by kernel_rfl)
def Ju:d8 (jC b o cs u v) (cI (jC b o cs u v)):=by have h:=e;obtain rfl|rfl|rfl|rfl|rfl|rfl|rfl|rfl:=h<;>exact⟨by kernel_rfl,by kernel_rfl,by kernel_rfl,by kernel_rfl,by kernel_rfl,by kernel_rfl,.inl (by kernel_rfl)⟩
def Jw:(cI (jC b o cs u v)).op=.call {callee:=.value (.func 210),args:=#[.tmp 70,.tmp 71],argTypes:=#[316,4]}:=by have h:=e;obtain rfl|rfl|rfl|rfl|rfl|rfl|rfl|rfl:=h<;>(show _=_;kernel_rfl)
def Jy:(#[(.tmp 70:Operand),.tmp 71].map (⟨(jC b o cs u v).frame.tmps,(jC b o cs u v).frame.defers⟩:Act).eval)[0]?=some (.pointer (some ⟨b,o+1,none⟩)):=by have h:=e;obtain rfl|rfl|rfl|rfl|rfl|rfl|rfl|rfl:=h<;>(show _=_;kernel_rfl)
def a4f:aS Tryz.prog true 16 (qS b o cs u v) (l5 b o cs u v):=by have h:=e;obtain rfl|rfl|rfl|rfl|rfl|rfl|rfl|rfl:=h<;>exact cq (λw=>by kernel_rfl) (by kernel_rfl)
def a3S:d8 (l5 b o cs u v) (cI (l5 b o cs u v)):=by have h:=e;obtain rfl|rfl|rfl|rfl|rfl|rfl|rfl|rfl:=h<;>exact⟨by kernel_rfl,by kernel_rfl,by kernel_rfl,by kernel_rfl,by kernel_rfl,by kernel_rfl,.inl (by kernel_rfl)⟩
def a3Z{w}(a:w.cell? ⟨b,o,none⟩=some (.int .u64 0)):stepG Tryz.prog true (l5 b o cs u v) w=.go (pq b o cs u v) w #[⟨.cell ⟨b,o,none⟩,false,true⟩]:=by have h:=e;obtain rfl|rfl|rfl|rfl|rfl|rfl|rfl|rfl:=h<;>exact Ah (a3S b o cs u e) (show(cI (l5 b o cs u _)).op=.call {callee:=.value (.func 236),args:=#[.tmp 5],argTypes:=#[340]}by kernel_rfl) f236 ED EB EE .u64 EC (by kernel_rfl) a
def a4g:aS Tryz.prog true 11 (pq b o cs u v) (qT b o cs u v):=by have h:=e;obtain rfl|rfl|rfl|rfl|rfl|rfl|rfl|rfl:=h<;>exact cq (λw=>by kernel_rfl) (by kernel_rfl)
def a3X(w):stepG Tryz.prog true (qT b o cs u v) w=.go (tO b o cs u v) w #[⟨.mark .enable,false,true⟩]:=by have h:=e;obtain rfl|rfl|rfl|rfl|rfl|rfl|rfl|rfl:=h<;>(show _=_;kernel_rfl)
def a4h:aS Tryz.prog true 3 (tO b o cs u v) (mY b o cs u v):=by have h:=e;obtain rfl|rfl|rfl|rfl|rfl|rfl|rfl|rfl:=h<;>exact cq (λw=>by kernel_rfl) (by kernel_rfl)
def a3T:d8 (mY b o cs u v) (cI (mY b o cs u v)):=by have h:=e;obtain rfl|rfl|rfl|rfl|rfl|rfl|rfl|rfl:=h<;>exact⟨by kernel_rfl,by kernel_rfl,by kernel_rfl,by kernel_rfl,by kernel_rfl,by kernel_rfl,.inl (by kernel_rfl)⟩
def a3W{w x}(a:w.cell? ⟨b,o,none⟩=some x):stepG Tryz.prog true (mY b o cs u v) w=.go (pu b o cs u v) w #[]:=by have h:=e;obtain rfl|rfl|rfl|rfl|rfl|rfl|rfl|rfl:=h<;>exact rt (a3T b o cs u e) (show(cI (mY b o cs u _)).op=.convert 311 112 (.tmp 79)by kernel_rfl) (by kernel_rfl) BP nP Bm a
def a3U(w):stepG Tryz.prog true (pu b o cs u v) w=.go (jD b o cs u v) w #[⟨.mark (.acquire ⟨b,o,none⟩),false,true⟩]:=by have h:=e;obtain rfl|rfl|rfl|rfl|rfl|rfl|rfl|rfl:=h<;>(show _=_;kernel_rfl)
def a4b(c):aS Tryz.prog true 10 (jD b o (c::cs) u v) (an (c.finish (.tuple #[])) cs):=by have h:=e;obtain rfl|rfl|rfl|rfl|rfl|rfl|rfl|rfl:=h<;>exact eN (λw=>by kernel_rfl) (by kernel_rfl) (by kernel_rfl)
def wm:∃a,aS Tryz.prog true 9 (pm b o cs u v) (wq b o cs a):=by refine⟨λi=>(aG Tryz.prog true 9 (pm b o cs u v)).frame.tmps.getD i undef,?_⟩;have h:=e;obtain rfl|rfl|rfl|rfl|rfl|rfl|rfl|rfl:=h<;>exact eN (λw=>by kernel_rfl) (by kernel_rfl) (by kernel_rfl)
end
end Go.Proofs.Each
end
section
namespace Go.Proofs.Each
open Go.Conc Go.Mir
namespace Add0
section
variable(b o:Nat)(cs:List ah)
noncomputable def a0:aw:=an (Frame.enter Tryz.prog 153 #[.pointer (some ⟨b,o,none⟩),.int .i64 0] .normal) cs
noncomputable def a1:aw:=aG Tryz.prog true 12 (a0 b o cs)
noncomputable def a2:aw:=fin (a1 b o cs) (.tuple #[])
noncomputable def a3:aw:=aG Tryz.prog true 34 (a2 b o cs)
noncomputable def a4:aw:=fin (a3 b o cs) (.int .u64 (0*4294967296))
def s0:aS Tryz.prog true 12 (a0 b o cs) (a1 b o cs):=cq (λw=>by kernel_rfl) (by kernel_rfl)
theorem yB(w):stepG Tryz.prog true (a1 b o cs) w=.go (a2 b o cs) w #[⟨.mark .disable,false,true⟩]:=by kernel_rfl
def s2:aS Tryz.prog true 34 (a2 b o cs) (a3 b o cs):=cq (λw=>by kernel_rfl) (by kernel_rfl)
def yf:d8 (a3 b o cs) (cI (a3 b o cs)):=⟨by kernel_rfl,by kernel_rfl,by kernel_rfl,by kernel_rfl,by kernel_rfl,by kernel_rfl,.inl (by kernel_rfl)⟩
def add{w}(a:w.cell? ⟨b,o,none⟩=some (.int .u64 0))(c:w.frozen? ⟨b,o,none⟩=false):stepG Tryz.prog true (a3 b o cs) w=.go (a4 b o cs) (w.setCell ⟨b,o,none⟩ (.int .u64 (0*4294967296))) #[⟨.cell ⟨b,o,none⟩,false,true⟩,⟨.cell ⟨b,o,none⟩,true,true⟩]:=by have h:=xZ (w:=w) (main:=true) (d:=0*4294967296) (v:=0) (yf b o cs) (show(cI (a3 b o cs)).op=.call {callee:=.value (.func 235),args:=#[.tmp 7,.tmp 8],argTypes:=#[340,254]}by kernel_rfl) f235 zu zr zv .u64 zt (by kernel_rfl) (by kernel_rfl) a c;rw[show IntKind.u64.wrap (0+0*4294967296)=0*4294967296 by decide]at h;exact h
noncomputable def a5:aw:=aG Tryz.prog true 87 (a4 b o cs)
noncomputable def a6:aw:=aG Tryz.prog true 1 (a5 b o cs)
def s4:aS Tryz.prog true 87 (a4 b o cs) (a5 b o cs):=cq (λw=>by kernel_rfl) (by kernel_rfl)
theorem en(w):stepG Tryz.prog true (a5 b o cs) w=.go (a6 b o cs) w #[⟨.mark .enable,false,true⟩]:=by kernel_rfl
def ret(c):aS Tryz.prog true 1 (a6 b o (c::cs)) (an (c.finish (.tuple #[])) cs):=eN (λw=>by kernel_rfl) (by kernel_rfl) (by kernel_rfl)
end
end Add0
end Go.Proofs.Each
end
section
namespace Go.Proofs.Each
open Go.Conc Go.Mir
def N8(n:Int):Prop:=n=1\/n=2\/n=3\/n=4\/n=5\/n=6\/n=7\/n=8
namespace AddN
section
variable(n:Int)(b o:Nat)(cs:List ah)
noncomputable def a0:aw:=an (Frame.enter Tryz.prog 153 #[.pointer (some ⟨b,o,none⟩),.int .i64 n] .normal) cs
noncomputable def a1:aw:=aG Tryz.prog true 12 (a0 n b o cs)
noncomputable def a2:aw:=fin (a1 n b o cs) (.tuple #[])
noncomputable def a3:aw:=aG Tryz.prog true 34 (a2 n b o cs)
noncomputable def a4:aw:=fin (a3 n b o cs) (.int .u64 (n*4294967296))
noncomputable def a5:aw:=aG Tryz.prog true 52 (a4 n b o cs)
noncomputable def a6:aw:=fin (a5 n b o cs) (.pointer (some ⟨b,o+1,none⟩))
noncomputable def a7:aw:=fin (a6 n b o cs) (.tuple #[])
noncomputable def a8:aw:=aG Tryz.prog true 39 (a7 n b o cs)
noncomputable def a9:aw:=aG Tryz.prog true 1 (a8 n b o cs)
variable(e:N8 n)
include e
def s0:aS Tryz.prog true 12 (a0 n b o cs) (a1 n b o cs):=by have h:=e;obtain rfl|rfl|rfl|rfl|rfl|rfl|rfl|rfl:=h<;>exact cq (λw=>by kernel_rfl) (by kernel_rfl)
def yB(w):stepG Tryz.prog true (a1 n b o cs) w=.go (a2 n b o cs) w #[⟨.mark .disable,false,true⟩]:=by have h:=e;obtain rfl|rfl|rfl|rfl|rfl|rfl|rfl|rfl:=h<;>(show _=_;kernel_rfl)
def s2:aS Tryz.prog true 34 (a2 n b o cs) (a3 n b o cs):=by have h:=e;obtain rfl|rfl|rfl|rfl|rfl|rfl|rfl|rfl:=h<;>exact cq (λw=>by kernel_rfl) (by kernel_rfl)
def yf:d8 (a3 n b o cs) (cI (a3 n b o cs)):=by have h:=e;obtain rfl|rfl|rfl|rfl|rfl|rfl|rfl|rfl:=h<;>exact⟨by kernel_rfl,by kernel_rfl,by kernel_rfl,by kernel_rfl,by kernel_rfl,by kernel_rfl,.inl (by kernel_rfl)⟩
def o3:(cI (a3 n b o cs)).op=.call {callee:=.value (.func 235),args:=#[.tmp 7,.tmp 8],argTypes:=#[340,254]}:=by have h:=e;obtain rfl|rfl|rfl|rfl|rfl|rfl|rfl|rfl:=h<;>(show _=_;kernel_rfl)
def x3:(⟨(a3 n b o cs).frame.tmps,(a3 n b o cs).frame.defers⟩:Act).eval (.tmp 7)=.pointer (some ⟨b,o,none⟩):=by have h:=e;obtain rfl|rfl|rfl|rfl|rfl|rfl|rfl|rfl:=h<;>(show _=_;kernel_rfl)
def z3:(⟨(a3 n b o cs).frame.tmps,(a3 n b o cs).frame.defers⟩:Act).eval (.tmp 8)=.int .u64 (n*4294967296):=by have h:=e;obtain rfl|rfl|rfl|rfl|rfl|rfl|rfl|rfl:=h<;>(show _=_;kernel_rfl)
def add{w}(a:w.cell? ⟨b,o,none⟩=some (.int .u64 0))(c:w.frozen? ⟨b,o,none⟩=false):stepG Tryz.prog true (a3 n b o cs) w=.go (a4 n b o cs) (w.setCell ⟨b,o,none⟩ (.int .u64 (n*4294967296))) #[⟨.cell ⟨b,o,none⟩,false,true⟩,⟨.cell ⟨b,o,none⟩,true,true⟩]:=by have h:=xZ (w:=w) (main:=true) (d:=n*4294967296) (v:=0) (yf n b o cs e) (o3 n b o cs e) f235 zu zr zv .u64 zt (x3 n b o cs e) (z3 n b o cs e) a c;rw[show IntKind.u64.wrap (0+n*4294967296)=n*4294967296 by have h:=e;obtain rfl|rfl|rfl|rfl|rfl|rfl|rfl|rfl:=h<;>decide]at h;exact h
def s4:aS Tryz.prog true 52 (a4 n b o cs) (a5 n b o cs):=by have h:=e;obtain rfl|rfl|rfl|rfl|rfl|rfl|rfl|rfl:=h<;>exact cq (λw=>by kernel_rfl) (by kernel_rfl)
def Md:d8 (a5 n b o cs) (cI (a5 n b o cs)):=by have h:=e;obtain rfl|rfl|rfl|rfl|rfl|rfl|rfl|rfl:=h<;>exact⟨by kernel_rfl,by kernel_rfl,by kernel_rfl,by kernel_rfl,by kernel_rfl,by kernel_rfl,.inl (by kernel_rfl)⟩
def conv{w x}(a:w.cell? ⟨b,o+1,none⟩=some x):stepG Tryz.prog true (a5 n b o cs) w=.go (a6 n b o cs) w #[]:=by have h:=e;obtain rfl|rfl|rfl|rfl|rfl|rfl|rfl|rfl:=h<;>exact rt (Md _ b o cs e) (show(cI (a5 _ b o cs)).op=.convert 316 112 (.tmp 70)by kernel_rfl) (by kernel_rfl) Jj nP H0 a
def rd(w):stepG Tryz.prog true (a6 n b o cs) w=.go (a7 n b o cs) w #[⟨.mark (.read ⟨b,o+1,none⟩),false,true⟩]:=by have h:=e;obtain rfl|rfl|rfl|rfl|rfl|rfl|rfl|rfl:=h<;>(show _=_;kernel_rfl)
def s7:aS Tryz.prog true 39 (a7 n b o cs) (a8 n b o cs):=by have h:=e;obtain rfl|rfl|rfl|rfl|rfl|rfl|rfl|rfl:=h<;>exact cq (λw=>by kernel_rfl) (by kernel_rfl)
def en(w):stepG Tryz.prog true (a8 n b o cs) w=.go (a9 n b o cs) w #[⟨.mark .enable,false,true⟩]:=by have h:=e;obtain rfl|rfl|rfl|rfl|rfl|rfl|rfl|rfl:=h<;>(show _=_;kernel_rfl)
def ret(c):aS Tryz.prog true 1 (a9 n b o (c::cs)) (an (c.finish (.tuple #[])) cs):=by have h:=e;obtain rfl|rfl|rfl|rfl|rfl|rfl|rfl|rfl:=h<;>exact eN (λw=>by kernel_rfl) (by kernel_rfl) (by kernel_rfl)
def run:(a1 n b o cs).status=.running/\(a3 n b o cs).status=.running/\(a5 n b o cs).status=.running/\(a6 n b o cs).status=.running/\(a8 n b o cs).status=.running:=by have h:=e;obtain rfl|rfl|rfl|rfl|rfl|rfl|rfl|rfl:=h<;>exact⟨by kernel_rfl,by kernel_rfl,by kernel_rfl,by kernel_rfl,by kernel_rfl⟩
end
end AddN
end Go.Proofs.Each
end
section
namespace Go.Proofs.Each
open Go.Conc Go.Mir
section
variable(K:Bool)(b o:Nat)(cs:List ah)
noncomputable def my:aw:=aG Tryz.prog false 103 (mA K b o cs (0*4294967296+1))
noncomputable def uz:aw:=fin (my K b o cs) (.int .u64 1)
noncomputable def mz:aw:=aG Tryz.prog false 20 (uz K b o cs)
noncomputable def uA:aw:=fin (mz K b o cs) (.tuple #[])
noncomputable def kU:aw:=aG Tryz.prog false 27 (uA K b o cs)
noncomputable def pG:aw:=fin (kU K b o cs) (.tuple #[])
noncomputable def uB:aw:=aG Tryz.prog false 17 (pG K b o cs)
noncomputable def yC:aw:=aG Tryz.prog false 1 (uB K b o cs)
def C6:aS Tryz.prog false 103 (mA K b o cs (0*4294967296+1)) (my K b o cs):=by cases K<;>exact cq (λw=>by kernel_rfl) (by kernel_rfl)
def Ob:d8 (my K b o cs) (cI (my K b o cs)):=by cases K<;>exact⟨by kernel_rfl,by kernel_rfl,by kernel_rfl,by kernel_rfl,by kernel_rfl,by kernel_rfl,.inl (by kernel_rfl)⟩
theorem TP:Tryz.prog.funcs[236]?=some Tryz.f236:=by kernel_rfl
theorem TS:(Tryz.f236.name== "runtime.NumGoroutine")=false:=by kernel_rfl
theorem TQ:Tryz.f236.body.isNone=true:=by kernel_rfl
theorem TT:Extern.findNext Tryz.f236=none:=by kernel_rfl
theorem TR:Extern.find Tryz.f236=some (Extern.Atomic.loadT (.int .u64)):=by kernel_rfl
theorem TU:Tryz.prog.funcs[237]?=some Tryz.f237:=by kernel_rfl
theorem TX:(Tryz.f237.name== "runtime.NumGoroutine")=false:=by kernel_rfl
theorem TV:Tryz.f237.body.isNone=true:=by kernel_rfl
theorem TY:Extern.findNext Tryz.f237=none:=by kernel_rfl
theorem TW:Extern.find Tryz.f237=some Extern.Atomic.storeT:=by kernel_rfl
def C5{w}(a:w.cell? ⟨b,o,none⟩=some (.int .u64 1)):stepG Tryz.prog false (my K b o cs) w=.go (uz K b o cs) w #[⟨.cell ⟨b,o,none⟩,false,true⟩]:=
 Ah (Ob K b o cs) (show(cI (my K b o cs)).op=.call {callee:=.value (.func 236),args:=#[.tmp 5],argTypes:=#[340]}by cases K<;>kernel_rfl) TP TS TQ TT .u64 TR (by cases K<;>kernel_rfl) a
def C7:aS Tryz.prog false 20 (uz K b o cs) (mz K b o cs):=by cases K<;>exact cq (λw=>by kernel_rfl) (by kernel_rfl)
def Oc:d8 (mz K b o cs) (cI (mz K b o cs)):=by cases K<;>exact⟨by kernel_rfl,by kernel_rfl,by kernel_rfl,by kernel_rfl,by kernel_rfl,by kernel_rfl,.inl (by kernel_rfl)⟩
def Db{w v}(a:w.cell? ⟨b,o,none⟩=some v)(c:w.frozen? ⟨b,o,none⟩=false):stepG Tryz.prog false (mz K b o cs) w=.go (uA K b o cs) (w.setCell ⟨b,o,none⟩ (.int .u64 0)) #[⟨.cell ⟨b,o,none⟩,true,true⟩]:=
 a1B (Oc K b o cs) (show(cI (mz K b o cs)).op=.call {callee:=.value (.func 237),args:=#[.tmp 6,.tmp 7],argTypes:=#[340,254]}by cases K<;>kernel_rfl) TU TX TV TY TW (by cases K<;>kernel_rfl) (by cases K<;>kernel_rfl) a c
def C8:aS Tryz.prog false 27 (uA K b o cs) (kU K b o cs):=by cases K<;>exact cq (λw=>by kernel_rfl) (by kernel_rfl)
def Oe:d8 (kU K b o cs) (cI (kU K b o cs)):=by cases K<;>exact⟨by kernel_rfl,by kernel_rfl,by kernel_rfl,by kernel_rfl,by kernel_rfl,by kernel_rfl,.inl (by kernel_rfl)⟩
def C9:aS Tryz.prog false 17 (pG K b o cs) (uB K b o cs):=by cases K<;>exact cq (λw=>by kernel_rfl) (by kernel_rfl)
def C4(w):stepG Tryz.prog false (uB K b o cs) w=.go (yC K b o cs) w #[⟨.mark .enable,false,true⟩]:=by cases K<;>kernel_rfl
def Of(c):aS Tryz.prog false 4 (yC false b o (c::cs)) (an (c.finish (.tuple #[])) cs):=eN (λw=>by kernel_rfl) (by kernel_rfl) (by kernel_rfl)
end
end Go.Proofs.Each
end
