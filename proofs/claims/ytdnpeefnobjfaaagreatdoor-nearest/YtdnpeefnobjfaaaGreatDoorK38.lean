import Derived.Test.YtdnpeefnobjfaaaGreatDoorK36
set_option maxRecDepth 100000
set_option maxHeartbeats 4000000
set_option linter.all false
section
namespace Go.Proofs.Each
open Go.Conc Go.Mir
section
variable(K:Bool)(b o:Nat)(cs:List ah)
noncomputable def nD:aw:=aD Tryz.prog false 103 (nF K b o cs (0*4294967296+1))
noncomputable def xq:aw:=fin (nD K b o cs) (.int .u64 1)
noncomputable def nE:aw:=aD Tryz.prog false 20 (xq K b o cs)
noncomputable def xu:aw:=fin (nE K b o cs) (.tuple #[])
noncomputable def lV:aw:=aD Tryz.prog false 27 (xu K b o cs)
noncomputable def rR:aw:=fin (lV K b o cs) (.tuple #[])
noncomputable def xx:aw:=aD Tryz.prog false 17 (rR K b o cs)
noncomputable def AZ:aw:=aD Tryz.prog false 1 (xx K b o cs)
def Fi:aR Tryz.prog false 103 (nF K b o cs (0*4294967296+1)) (nD K b o cs):=by cases K<;>exact sgo
def Qv:dR (nD K b o cs) (ct (nD K b o cs)):=by cases K<;>exact {}
theorem Wq:Tryz.prog.funcs[236]?=some Tryz.f236:=by kernel_rfl
theorem Wt:(Tryz.f236.name== "runtime.NumGoroutine")=false:=by kernel_rfl
theorem Wr:Tryz.f236.body.isNone=true:=by kernel_rfl
theorem Wu:Extern.findNext Tryz.f236=none:=by kernel_rfl
theorem Ws:Extern.find Tryz.f236=some (Extern.Atomic.loadT (.int .u64)):=by kernel_rfl
theorem Wv:Tryz.prog.funcs[237]?=some Tryz.f237:=by kernel_rfl
theorem Wy:(Tryz.f237.name== "runtime.NumGoroutine")=false:=by kernel_rfl
theorem Ww:Tryz.f237.body.isNone=true:=by kernel_rfl
theorem Wz:Extern.findNext Tryz.f237=none:=by kernel_rfl
theorem Wx:Extern.find Tryz.f237=some Extern.Atomic.storeT:=by kernel_rfl
def Fh{w}(a:w.cell? ⟨b,o,none⟩=some (.int .u64 1)):stepG Tryz.prog false (nD K b o cs) w=.go (xq K b o cs) w #[⟨.cell ⟨b,o,none⟩,false,true⟩]:=
 Cd (Qv K b o cs) (show(ct (nD K b o cs)).op=.call {callee:=.value (.func 236),args:=#[.tmp 5],argTypes:=#[340]}by cases K<;>kernel_rfl) Wq Wt Wr Wu .u64 Ws (by cases K<;>kernel_rfl) a
def Fj:aR Tryz.prog false 20 (xq K b o cs) (nE K b o cs):=by cases K<;>exact sgo
def Qw:dR (nE K b o cs) (ct (nE K b o cs)):=by cases K<;>exact {}
def Fq{w v}(a:w.cell? ⟨b,o,none⟩=some v)(c:w.frozen? ⟨b,o,none⟩=false):stepG Tryz.prog false (nE K b o cs) w=.go (xu K b o cs) (w.setCell ⟨b,o,none⟩ (.int .u64 0)) #[⟨.cell ⟨b,o,none⟩,true,true⟩]:=
 a4j (Qw K b o cs) (show(ct (nE K b o cs)).op=.call {callee:=.value (.func 237),args:=#[.tmp 6,.tmp 7],argTypes:=#[340,254]}by cases K<;>kernel_rfl) Wv Wy Ww Wz Wx (by cases K<;>kernel_rfl) (by cases K<;>kernel_rfl) a c
def Fl:aR Tryz.prog false 27 (xu K b o cs) (lV K b o cs):=by cases K<;>exact sgo
def Qx:dR (lV K b o cs) (ct (lV K b o cs)):=by cases K<;>exact {}
def Fo:aR Tryz.prog false 17 (rR K b o cs) (xx K b o cs):=by cases K<;>exact sgo
def Fg(w):stepG Tryz.prog false (xx K b o cs) w=.go (AZ K b o cs) w #[⟨.mark .enable,false,true⟩]:=by cases K<;>kernel_rfl
def Qy(c):aR Tryz.prog false 4 (AZ false b o (c::cs)) (am (c.finish (.tuple #[])) cs):=eN
end
end Go.Proofs.Each
end
