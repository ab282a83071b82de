import Derived.KernelRfl
import Derived.Test.YtdnpeefnobjfaaaGreatDoorProg
import Derived.Test.YtdnpeefnobjfaaaGreatDoorK06
set_option maxRecDepth 100000
set_option maxHeartbeats 4000000
set_option linter.all false
section
namespace Go.Proofs.Each
open Go.Conc Go.Mir
theorem D5:Tryz.prog.underlying 311=some (.pointer 258):=by kernel_rfl
theorem LN:Tryz.prog.underlying 316=some (.pointer 30):=by kernel_rfl
theorem px:Tryz.prog.underlying 112=some .unsafePointer:=by kernel_rfl
theorem Do:(Tryz.prog.info? 258).map (λi=>decide (i.size=0))=some false:=by kernel_rfl
theorem J8:(Tryz.prog.info? 30).map (λi=>decide (i.size=0))=some false:=by kernel_rfl
section
variable(K:Bool)(b o:Nat)(cs:List ah)
noncomputable def uq:aw:=am (Frame.enter Tryz.prog 206 #[.pointer (some ⟨b,o,none⟩)] (cond K .deferred .normal)) cs
noncomputable def pX:aw:=aD Tryz.prog false 14 (uq K b o cs)
noncomputable def pY:aw:=fin (pX K b o cs) (.pointer (some ⟨b,o,none⟩))
noncomputable def ur:aw:=fin (pY K b o cs) (.tuple #[])
noncomputable def xy:aw:=aD Tryz.prog false 3 (ur K b o cs)
noncomputable def xz:aw:=fin (xy K b o cs) (.tuple #[])
noncomputable def lW:aw:=aD Tryz.prog false 34 (xz K b o cs)
noncomputable def nF(s:Int):aw:=fin (lW K b o cs) (.int .u64 s)
noncomputable def xA(s:Int):aw:=aD Tryz.prog false 87 (nF K b o cs s)
noncomputable def us(s:Int):aw:=aD Tryz.prog false 1 (xA K b o cs s)
def QC:aR Tryz.prog false 14 (uq K b o cs) (pX K b o cs):=by cases K<;>exact sgo
def Qz:dR (pX K b o cs) (ct (pX K b o cs)):=by cases K<;>exact {}
def QB{w v}(a:w.cell? ⟨b,o,none⟩=some v):stepG Tryz.prog false (pX K b o cs) w=.go (pY K b o cs) w #[]:=
 um (Qz K b o cs) (show(ct (pX K b o cs)).op=.convert 311 112 (.tmp 11)by cases K<;>kernel_rfl) (by cases K<;>kernel_rfl) D5 px Do a
def Fv(w):stepG Tryz.prog false (pY K b o cs) w=.go (ur K b o cs) w #[⟨.mark (.releaseMerge ⟨b,o,none⟩),false,true⟩]:=by cases K<;>kernel_rfl
def Fw:aR Tryz.prog false 3 (ur K b o cs) (xy K b o cs):=by cases K<;>exact sgo
def Fu(w):stepG Tryz.prog false (xy K b o cs) w=.go (xz K b o cs) w #[⟨.mark .disable,false,true⟩]:=by cases K<;>kernel_rfl
def Fx:aR Tryz.prog false 34 (xz K b o cs) (lW K b o cs):=by cases K<;>exact sgo
def QA:dR (lW K b o cs) (ct (lW K b o cs)):=by cases K<;>exact {}
theorem f235:Tryz.prog.funcs[235]?=some Tryz.f235:=by kernel_rfl
theorem BA:(Tryz.f235.name== "runtime.NumGoroutine")=false:=by kernel_rfl
theorem By:Tryz.f235.body.isNone=true:=by kernel_rfl
theorem BB:Extern.findNext Tryz.f235=none:=by kernel_rfl
theorem Bz:Extern.find Tryz.f235=some (Extern.Atomic.update (Op.intArith .add) .u64 true):=by kernel_rfl
def Ft{w s}(a:w.cell? ⟨b,o,none⟩=some (.int .u64 s))(c:w.frozen? ⟨b,o,none⟩=false):stepG Tryz.prog false (lW K b o cs) w=.go (nF K b o cs (IntKind.u64.wrap (s+18446744069414584320))) (w.setCell ⟨b,o,none⟩ (.int .u64 (IntKind.u64.wrap (s+18446744069414584320)))) #[⟨.cell ⟨b,o,none⟩,false,true⟩,⟨.cell ⟨b,o,none⟩,true,true⟩]:=
 Av (QA K b o cs) (show(ct (lW K b o cs)).op=.call {callee:=.value (.func 235),args:=#[.tmp 7,.tmp 8],argTypes:=#[340,254]}by cases K<;>kernel_rfl) f235 BA By BB .u64 Bz (by cases K<;>kernel_rfl) (by cases K<;>kernel_rfl) a c
end
section
variable(b o:Nat)(cs:List ah)
noncomputable def wx:aw:=am (Frame.enter Tryz.prog 155 #[.pointer (some ⟨b,o,none⟩)] .normal) cs
noncomputable def Ef:aw:=aD Tryz.prog true 3 (wx b o cs)
noncomputable def Ah:aw:=fin (Ef b o cs) (.tuple #[])
noncomputable def wq(u:Nat->aj):aw:=am ⟨155,⟨[.pointer (some ⟨b,o,none⟩),u 1,u 2,u 3,u 4,u 5,u 6,u 7,u 8,u 9,u 10,u 11,u 12,u 13,u 14,u 15,u 16,u 17,u 18,u 19,u 20,u 21,u 22,u 23,u 24,u 25,u 26,u 27,u 28,u 29,u 30,u 31,u 32,u 33,u 34,u 35,u 36,u 37,u 38,u 39,u 40,u 41,u 42,u 43,u 44,u 45,u 46,u 47,u 48,u 49,u 50,u 51,u 52,u 53,u 54,u 55,u 56,u 57,u 58,u 59,u 60,u 61,u 62,u 63,u 64,u 65,u 66,u 67,u 68,u 69,u 70,u 71,u 72,u 73,u 74,u 75,u 76,u 77,u 78,u 79,u 80,u 81,u 82,u 83]⟩,(aD Tryz.prog true 3 (Ah 0 0 [])).frame.todo,[],.run,.normal,none⟩ cs
def a7c:aR Tryz.prog true 3 (wx b o cs) (Ef b o cs):=sgo
theorem a7b(w):stepG Tryz.prog true (Ef b o cs) w=.go (Ah b o cs) w #[⟨.mark .disable,false,true⟩]:=by kernel_rfl
def a7d:∃u,aR Tryz.prog true 3 (Ah b o cs) (wq b o cs u):=⟨λi=>(Ah b o cs).frame.tmps.getD i undef,eN⟩
end
section
variable(b o:Nat)(cs:List ah)(u:Nat->aj)
noncomputable def oj:aw:=aD Tryz.prog true 16 (wq b o cs u)
def L0:aR Tryz.prog true 16 (wq b o cs u) (oj b o cs u):=sgo
def a6C:dR (oj b o cs u) (ct (oj b o cs u)):={}
theorem f236:Tryz.prog.funcs[236]?=some Tryz.f236:=by kernel_rfl
theorem GL:(Tryz.f236.name== "runtime.NumGoroutine")=false:=by kernel_rfl
theorem GJ:Tryz.f236.body.isNone=true:=by kernel_rfl
theorem GM:Extern.findNext Tryz.f236=none:=by kernel_rfl
theorem GK:Extern.find Tryz.f236=some (Extern.Atomic.loadT (.int .u64)):=by kernel_rfl
theorem f238:Tryz.prog.funcs[238]?=some Tryz.f238:=by kernel_rfl
theorem GQ:(Tryz.f238.name== "runtime.NumGoroutine")=false:=by kernel_rfl
theorem GN:Tryz.f238.body.isNone=true:=by kernel_rfl
theorem GR:Extern.findNext Tryz.f238=none:=by kernel_rfl
theorem GP:Extern.find Tryz.f238=some (Extern.Atomic.casT (.int .u64)):=by kernel_rfl
noncomputable def kC(s:Int):aw:=fin (oj b o cs u) (.int .u64 s)
def a6D{w s}(a:w.cell? ⟨b,o,none⟩=some (.int .u64 s)):stepG Tryz.prog true (oj b o cs u) w=.go (kC b o cs u s) w #[⟨.cell ⟨b,o,none⟩,false,true⟩]:=
 Cd (a6C b o cs u) (show(ct (oj b o cs u)).op=.call {callee:=.value (.func 236),args:=#[.tmp 5],argTypes:=#[340]}by kernel_rfl) f236 GL GJ GM .u64 GK a9k a
noncomputable def Ai:aw:=aD Tryz.prog true 31 (kC b o cs u 0)
noncomputable def Eg:aw:=fin (Ai b o cs u) (.tuple #[])
noncomputable def rz:aw:=aD Tryz.prog true 3 (Eg b o cs u)
noncomputable def wy:aw:=fin (rz b o cs u) (.pointer (some ⟨b,o,none⟩))
noncomputable def Aj:aw:=fin (wy b o cs u) (.tuple #[])
def a7j:aR Tryz.prog true 31 (kC b o cs u 0) (Ai b o cs u):=sgo
theorem a7h(w):stepG Tryz.prog true (Ai b o cs u) w=.go (Eg b o cs u) w #[⟨.mark .enable,false,true⟩]:=by kernel_rfl
def a7k:aR Tryz.prog true 3 (Eg b o cs u) (rz b o cs u):=sgo
def a7e:dR (rz b o cs u) (ct (rz b o cs u)):={}
def a7g{w v}(a:w.cell? ⟨b,o,none⟩=some v):stepG Tryz.prog true (rz b o cs u) w=.go (wy b o cs u) w #[]:=
 um (a7e b o cs u) (show(ct (rz b o cs u)).op=.convert 311 112 (.tmp 21)by kernel_rfl) a9k D5 px Do a
theorem a7f(w):stepG Tryz.prog true (wy b o cs u) w=.go (Aj b o cs u) w #[⟨.mark (.acquire ⟨b,o,none⟩),false,true⟩]:=by kernel_rfl
def a7i(c):aR Tryz.prog true 20 (Aj b o (c::cs) u) (am (c.finish (.tuple #[])) cs):=eN
theorem f210:Tryz.prog.funcs[210]?=some Tryz.f210:=by kernel_rfl
theorem GH:(Tryz.f210.name== "runtime.NumGoroutine")=false:=by kernel_rfl
theorem GF:Tryz.f210.body.isNone=true:=by kernel_rfl
theorem GI:Extern.findNext Tryz.f210=none:=by kernel_rfl
theorem GG:Extern.find Tryz.f210=some Extern.Sync.semacquire:=by kernel_rfl
variable(s:Int)
noncomputable def jr:aw:=aD Tryz.prog true 48 (kC b o cs u s)
noncomputable def rj:aw:=fin (jr b o cs u s) (.bool false)
noncomputable def rq:aw:=fin (jr b o cs u s) (.bool true)
noncomputable def ol:aw:=aD Tryz.prog true 19 (rq b o cs u s)
noncomputable def tS:aw:=fin (ol b o cs u s) (.pointer (some ⟨b,o+1,none⟩))
noncomputable def wv:aw:=fin (tS b o cs u s) (.tuple #[])
noncomputable def jT:aw:=aD Tryz.prog true 23 (wv b o cs u s)
noncomputable def tT:aw:=fin (jT b o cs u s) (.tuple #[])
noncomputable def mY:aw:=aD Tryz.prog true 16 (tT b o cs u s)
noncomputable def rx:aw:=fin (mY b o cs u s) (.int .u64 0)
noncomputable def tU:aw:=aD Tryz.prog true 11 (rx b o cs u s)
noncomputable def ww:aw:=fin (tU b o cs u s) (.tuple #[])
noncomputable def om:aw:=aD Tryz.prog true 3 (ww b o cs u s)
noncomputable def ry:aw:=fin (om b o cs u s) (.pointer (some ⟨b,o,none⟩))
noncomputable def jU:aw:=fin (ry b o cs u s) (.tuple #[])
end
def K8(v:Int):Prop:=v=1*4294967296\/v=2*4294967296\/v=3*4294967296\/v=4*4294967296\/v=5*4294967296\/v=6*4294967296\/v=7*4294967296\/v=8*4294967296
section
variable(b o:Nat)(cs:List ah)(u:Nat->aj){v:Int}(e:K8 v)
include e
def a6P:aR Tryz.prog true 48 (kC b o cs u v) (jr b o cs u v):=by have h:=e;obtain rfl|rfl|rfl|rfl|rfl|rfl|rfl|rfl:=h<;>exact sgo
def L2:dR (jr b o cs u v) (ct (jr b o cs u v)):=by have h:=e;obtain rfl|rfl|rfl|rfl|rfl|rfl|rfl|rfl:=h<;>exact {}
def L4:(ct (jr b o cs u v)).op=.call {callee:=.value (.func 238),args:=#[.tmp 9,.tmp 10,.tmp 11],argTypes:=#[340,254,254]}:=by have h:=e;obtain rfl|rfl|rfl|rfl|rfl|rfl|rfl|rfl:=h<;>(show _=_;kernel_rfl)
def a6W:(⟨(jr b o cs u v).frame.tmps,(jr b o cs u v).frame.defers⟩:Act).eval (.tmp 11)=.int .u64 (v+1):=by have h:=e;obtain rfl|rfl|rfl|rfl|rfl|rfl|rfl|rfl:=h<;>(show _=_;kernel_rfl)
def a6L{w}(a:w.cell? ⟨b,o,none⟩=some (.int .u64 v))(c:w.frozen? ⟨b,o,none⟩=false):stepG Tryz.prog true (jr b o cs u v) w=.go (rq b o cs u v) (w.setCell ⟨b,o,none⟩ (.int .u64 (v+1))) #[⟨.cell ⟨b,o,none⟩,false,true⟩,⟨.cell ⟨b,o,none⟩,true,true⟩]:=by have h:=e;obtain rfl|rfl|rfl|rfl|rfl|rfl|rfl|rfl:=h<;>exact VP (L2 b o cs u e) (L4 b o cs u e) f238 GQ GN GR .u64 GP a9k a9k a9k a c
def a6N{w x}(c:w.cell? ⟨b,o,none⟩=some (.int .u64 x))(d:w.frozen? ⟨b,o,none⟩=false)(a: ¬x=v):stepG Tryz.prog true (jr b o cs u v) w=.go (rj b o cs u v) w #[⟨.cell ⟨b,o,none⟩,false,true⟩]:=by have h:=e;obtain rfl|rfl|rfl|rfl|rfl|rfl|rfl|rfl:=h<;>exact X0 (L2 b o cs u e) (L4 b o cs u e) f238 GQ GN GR .u64 GP a9k a9k (a6W b o cs u e) c d a
def a6Q:aR Tryz.prog true 19 (rq b o cs u v) (ol b o cs u v):=by have h:=e;obtain rfl|rfl|rfl|rfl|rfl|rfl|rfl|rfl:=h<;>exact sgo
def a6E:dR (ol b o cs u v) (ct (ol b o cs u v)):=by have h:=e;obtain rfl|rfl|rfl|rfl|rfl|rfl|rfl|rfl:=h<;>exact {}
def a6I{w x}(a:w.cell? ⟨b,o+1,none⟩=some x):stepG Tryz.prog true (ol b o cs u v) w=.go (tS b o cs u v) w #[]:=by have h:=e;obtain rfl|rfl|rfl|rfl|rfl|rfl|rfl|rfl:=h<;>exact um (a6E b o cs u e) (show(ct (ol b o cs u _)).op=.convert 316 112 (.tmp 55)by kernel_rfl) a9k LN px J8 a
def a6V(w):stepG Tryz.prog true (tS b o cs u v) w=.go (wv b o cs u v) w #[⟨.mark (.write ⟨b,o+1,none⟩),false,true⟩]:=by have h:=e;obtain rfl|rfl|rfl|rfl|rfl|rfl|rfl|rfl:=h<;>(show _=_;kernel_rfl)
def a6R:aR Tryz.prog true 23 (wv b o cs u v) (jT b o cs u v):=by have h:=e;obtain rfl|rfl|rfl|rfl|rfl|rfl|rfl|rfl:=h<;>exact sgo
def L3:dR (jT b o cs u v) (ct (jT b o cs u v)):=by have h:=e;obtain rfl|rfl|rfl|rfl|rfl|rfl|rfl|rfl:=h<;>exact {}
def L5:(ct (jT b o cs u v)).op=.call {callee:=.value (.func 210),args:=#[.tmp 70,.tmp 71],argTypes:=#[316,4]}:=by have h:=e;obtain rfl|rfl|rfl|rfl|rfl|rfl|rfl|rfl:=h<;>(show _=_;kernel_rfl)
def L6:(#[(.tmp 70:Operand),.tmp 71].map (⟨(jT b o cs u v).frame.tmps,(jT b o cs u v).frame.defers⟩:Act).eval)[0]?=some (.pointer (some ⟨b,o+1,none⟩)):=by have h:=e;obtain rfl|rfl|rfl|rfl|rfl|rfl|rfl|rfl:=h<;>(show _=_;kernel_rfl)
def a6S:aR Tryz.prog true 16 (tT b o cs u v) (mY b o cs u v):=by have h:=e;obtain rfl|rfl|rfl|rfl|rfl|rfl|rfl|rfl:=h<;>exact sgo
def a6F:dR (mY b o cs u v) (ct (mY b o cs u v)):=by have h:=e;obtain rfl|rfl|rfl|rfl|rfl|rfl|rfl|rfl:=h<;>exact {}
def a6M{w}(a:w.cell? ⟨b,o,none⟩=some (.int .u64 0)):stepG Tryz.prog true (mY b o cs u v) w=.go (rx b o cs u v) w #[⟨.cell ⟨b,o,none⟩,false,true⟩]:=by have h:=e;obtain rfl|rfl|rfl|rfl|rfl|rfl|rfl|rfl:=h<;>exact Cd (a6F b o cs u e) (show(ct (mY b o cs u _)).op=.call {callee:=.value (.func 236),args:=#[.tmp 5],argTypes:=#[340]}by kernel_rfl) f236 GL GJ GM .u64 GK a9k a
def a6T:aR Tryz.prog true 11 (rx b o cs u v) (tU b o cs u v):=by have h:=e;obtain rfl|rfl|rfl|rfl|rfl|rfl|rfl|rfl:=h<;>exact sgo
def a6K(w):stepG Tryz.prog true (tU b o cs u v) w=.go (ww b o cs u v) w #[⟨.mark .enable,false,true⟩]:=by have h:=e;obtain rfl|rfl|rfl|rfl|rfl|rfl|rfl|rfl:=h<;>(show _=_;kernel_rfl)
def a6U:aR Tryz.prog true 3 (ww b o cs u v) (om b o cs u v):=by have h:=e;obtain rfl|rfl|rfl|rfl|rfl|rfl|rfl|rfl:=h<;>exact sgo
def a6G:dR (om b o cs u v) (ct (om b o cs u v)):=by have h:=e;obtain rfl|rfl|rfl|rfl|rfl|rfl|rfl|rfl:=h<;>exact {}
def a6J{w x}(a:w.cell? ⟨b,o,none⟩=some x):stepG Tryz.prog true (om b o cs u v) w=.go (ry b o cs u v) w #[]:=by have h:=e;obtain rfl|rfl|rfl|rfl|rfl|rfl|rfl|rfl:=h<;>exact um (a6G b o cs u e) (show(ct (om b o cs u _)).op=.convert 311 112 (.tmp 79)by kernel_rfl) a9k D5 px Do a
def a6H(w):stepG Tryz.prog true (ry b o cs u v) w=.go (jU b o cs u v) w #[⟨.mark (.acquire ⟨b,o,none⟩),false,true⟩]:=by have h:=e;obtain rfl|rfl|rfl|rfl|rfl|rfl|rfl|rfl:=h<;>(show _=_;kernel_rfl)
def a6O(c):aR Tryz.prog true 10 (jU b o (c::cs) u v) (am (c.finish (.tuple #[])) cs):=by have h:=e;obtain rfl|rfl|rfl|rfl|rfl|rfl|rfl|rfl:=h<;>exact eN
def wm:∃a,aR Tryz.prog true 9 (rj b o cs u v) (wq b o cs a):=by refine⟨λi=>(aD Tryz.prog true 9 (rj b o cs u v)).frame.tmps.getD i undef,?_⟩;have h:=e;obtain rfl|rfl|rfl|rfl|rfl|rfl|rfl|rfl:=h<;>exact eN
end
end Go.Proofs.Each
end
