import Derived.Test.YtdnpeefnobjfaaaGreatDoorK36
set_option maxRecDepth 100000
set_option maxHeartbeats 4000000
set_option linter.all false
section
namespace Go.Proofs.Each
open Go.Conc Go.Mir
namespace Add0
section
variable(b o:Nat)(cs:List ah)
noncomputable def a0:aw:=am (Frame.enter Tryz.prog 153 #[.pointer (some ⟨b,o,none⟩),.int .i64 0] .normal) cs
noncomputable def a1:aw:=aD Tryz.prog true 12 (a0 b o cs)
noncomputable def a2:aw:=fin (a1 b o cs) (.tuple #[])
noncomputable def a3:aw:=aD Tryz.prog true 34 (a2 b o cs)
noncomputable def a4:aw:=fin (a3 b o cs) (.int .u64 (0*4294967296))
def s0:aR Tryz.prog true 12 (a0 b o cs) (a1 b o cs):=sgo
theorem AY(w):stepG Tryz.prog true (a1 b o cs) w=.go (a2 b o cs) w #[⟨.mark .disable,false,true⟩]:=by kernel_rfl
def s2:aR Tryz.prog true 34 (a2 b o cs) (a3 b o cs):=sgo
def AB:dR (a3 b o cs) (ct (a3 b o cs)):={}
theorem add{w}(a:w.cell? ⟨b,o,none⟩=some (.int .u64 0))(c:w.frozen? ⟨b,o,none⟩=false):stepG Tryz.prog true (a3 b o cs) w=.go (a4 b o cs) (w.setCell ⟨b,o,none⟩ (.int .u64 (0*4294967296))) #[⟨.cell ⟨b,o,none⟩,false,true⟩,⟨.cell ⟨b,o,none⟩,true,true⟩]:=by have h:=Av (w:=w) (main:=true) (d:=0*4294967296) (v:=0) (AB b o cs) (show(ct (a3 b o cs)).op=.call {callee:=.value (.func 235),args:=#[.tmp 7,.tmp 8],argTypes:=#[340,254]}by kernel_rfl) f235 BA By BB .u64 Bz a9k a9k a c;rw[show IntKind.u64.wrap (0+0*4294967296)=0*4294967296 by decide]at h;exact h
noncomputable def a5:aw:=aD Tryz.prog true 87 (a4 b o cs)
noncomputable def a6:aw:=aD Tryz.prog true 1 (a5 b o cs)
def s4:aR Tryz.prog true 87 (a4 b o cs) (a5 b o cs):=sgo
theorem en(w):stepG Tryz.prog true (a5 b o cs) w=.go (a6 b o cs) w #[⟨.mark .enable,false,true⟩]:=by kernel_rfl
def ret(c):aR Tryz.prog true 1 (a6 b o (c::cs)) (am (c.finish (.tuple #[])) cs):=eN
end
end Add0
end Go.Proofs.Each
end
section
namespace Go.Proofs.Each
open Go.Conc Go.Mir
def N8(n:Int):Prop:=n=1\/n=2\/n=3\/n=4\/n=5\/n=6\/n=7\/n=8
namespace AddN
section
variable(n:Int)(b o:Nat)(cs:List ah)
noncomputable def a0:aw:=am (Frame.enter Tryz.prog 153 #[.pointer (some ⟨b,o,none⟩),.int .i64 n] .normal) cs
noncomputable def a1:aw:=aD Tryz.prog true 12 (a0 n b o cs)
noncomputable def a2:aw:=fin (a1 n b o cs) (.tuple #[])
noncomputable def a3:aw:=aD Tryz.prog true 34 (a2 n b o cs)
noncomputable def a4:aw:=fin (a3 n b o cs) (.int .u64 (n*4294967296))
noncomputable def a5:aw:=aD Tryz.prog true 52 (a4 n b o cs)
noncomputable def a6:aw:=fin (a5 n b o cs) (.pointer (some ⟨b,o+1,none⟩))
noncomputable def a7:aw:=fin (a6 n b o cs) (.tuple #[])
noncomputable def a8:aw:=aD Tryz.prog true 39 (a7 n b o cs)
noncomputable def a9:aw:=aD Tryz.prog true 1 (a8 n b o cs)
variable(e:N8 n)
include e
def s0:aR Tryz.prog true 12 (a0 n b o cs) (a1 n b o cs):=by have h:=e;obtain rfl|rfl|rfl|rfl|rfl|rfl|rfl|rfl:=h<;>exact sgo
def AY(w):stepG Tryz.prog true (a1 n b o cs) w=.go (a2 n b o cs) w #[⟨.mark .disable,false,true⟩]:=by have h:=e;obtain rfl|rfl|rfl|rfl|rfl|rfl|rfl|rfl:=h<;>(show _=_;kernel_rfl)
def s2:aR Tryz.prog true 34 (a2 n b o cs) (a3 n b o cs):=by have h:=e;obtain rfl|rfl|rfl|rfl|rfl|rfl|rfl|rfl:=h<;>exact sgo
def AB:dR (a3 n b o cs) (ct (a3 n b o cs)):=by have h:=e;obtain rfl|rfl|rfl|rfl|rfl|rfl|rfl|rfl:=h<;>exact {}
def o3:(ct (a3 n b o cs)).op=.call {callee:=.value (.func 235),args:=#[.tmp 7,.tmp 8],argTypes:=#[340,254]}:=by have h:=e;obtain rfl|rfl|rfl|rfl|rfl|rfl|rfl|rfl:=h<;>(show _=_;kernel_rfl)
def x3:(⟨(a3 n b o cs).frame.tmps,(a3 n b o cs).frame.defers⟩:Act).eval (.tmp 7)=.pointer (some ⟨b,o,none⟩):=by have h:=e;obtain rfl|rfl|rfl|rfl|rfl|rfl|rfl|rfl:=h<;>(show _=_;kernel_rfl)
def z3:(⟨(a3 n b o cs).frame.tmps,(a3 n b o cs).frame.defers⟩:Act).eval (.tmp 8)=.int .u64 (n*4294967296):=by have h:=e;obtain rfl|rfl|rfl|rfl|rfl|rfl|rfl|rfl:=h<;>(show _=_;kernel_rfl)
theorem add{w}(a:w.cell? ⟨b,o,none⟩=some (.int .u64 0))(c:w.frozen? ⟨b,o,none⟩=false):stepG Tryz.prog true (a3 n b o cs) w=.go (a4 n b o cs) (w.setCell ⟨b,o,none⟩ (.int .u64 (n*4294967296))) #[⟨.cell ⟨b,o,none⟩,false,true⟩,⟨.cell ⟨b,o,none⟩,true,true⟩]:=by have h:=Av (w:=w) (main:=true) (d:=n*4294967296) (v:=0) (AB n b o cs e) (o3 n b o cs e) f235 BA By BB .u64 Bz (x3 n b o cs e) (z3 n b o cs e) a c;rw[show IntKind.u64.wrap (0+n*4294967296)=n*4294967296 by have h:=e;obtain rfl|rfl|rfl|rfl|rfl|rfl|rfl|rfl:=h<;>decide]at h;exact h
def s4:aR Tryz.prog true 52 (a4 n b o cs) (a5 n b o cs):=by have h:=e;obtain rfl|rfl|rfl|rfl|rfl|rfl|rfl|rfl:=h<;>exact sgo
def OK:dR (a5 n b o cs) (ct (a5 n b o cs)):=by have h:=e;obtain rfl|rfl|rfl|rfl|rfl|rfl|rfl|rfl:=h<;>exact {}
def conv{w x}(a:w.cell? ⟨b,o+1,none⟩=some x):stepG Tryz.prog true (a5 n b o cs) w=.go (a6 n b o cs) w #[]:=by have h:=e;obtain rfl|rfl|rfl|rfl|rfl|rfl|rfl|rfl:=h<;>exact um (OK _ b o cs e) (show(ct (a5 _ b o cs)).op=.convert 316 112 (.tmp 70)by kernel_rfl) a9k LN px J8 a
def rd(w):stepG Tryz.prog true (a6 n b o cs) w=.go (a7 n b o cs) w #[⟨.mark (.read ⟨b,o+1,none⟩),false,true⟩]:=by have h:=e;obtain rfl|rfl|rfl|rfl|rfl|rfl|rfl|rfl:=h<;>(show _=_;kernel_rfl)
def s7:aR Tryz.prog true 39 (a7 n b o cs) (a8 n b o cs):=by have h:=e;obtain rfl|rfl|rfl|rfl|rfl|rfl|rfl|rfl:=h<;>exact sgo
def en(w):stepG Tryz.prog true (a8 n b o cs) w=.go (a9 n b o cs) w #[⟨.mark .enable,false,true⟩]:=by have h:=e;obtain rfl|rfl|rfl|rfl|rfl|rfl|rfl|rfl:=h<;>(show _=_;kernel_rfl)
def ret(c):aR Tryz.prog true 1 (a9 n b o (c::cs)) (am (c.finish (.tuple #[])) cs):=by have h:=e;obtain rfl|rfl|rfl|rfl|rfl|rfl|rfl|rfl:=h<;>exact eN
theorem run:(a1 n b o cs).status=.running/\(a3 n b o cs).status=.running/\(a5 n b o cs).status=.running/\(a6 n b o cs).status=.running/\(a8 n b o cs).status=.running:=by have h:=e;obtain rfl|rfl|rfl|rfl|rfl|rfl|rfl|rfl:=h<;>exact⟨a9k,a9k,a9k,a9k,a9k⟩
end
end AddN
end Go.Proofs.Each
end
