/- The numbers under which this program holds sync.Mutex's functions and types, and that it holds them. -/
import Derived.Test.YtdnpeefnobjfaaaGreatDoorProg
import Derived.Conc.MuLone
import Derived.KernelRfl
namespace Go.Proofs
abbrev Tryz.muLink : Go.Conc.Locks.MuLink := { lock := 93, unlock := 94, ilock := 144, iunlock := 145, lockSlow := 188, unlockSlow := 191, disable := 184, enable := 186, acquire := 187, relMerge := 189, cas32 := 185, add32 := 190, tMutex := 109, tIMutex := 107, tPMutex := 244, tPIMutex := 302, tPI32 := 304, tUP := 112, tNoCopy := 105, tU32 := 30 }
theorem Tryz.muLib : Go.Conc.Locks.MuLib Tryz.prog Tryz.muLink :=
  ⟨Tryz.func93, Tryz.func94, Tryz.func144, Tryz.func145, Tryz.func184, Tryz.func186, Tryz.func187, Tryz.func189, Tryz.func185, Tryz.func190,
    Tryz.underlying107, Tryz.runUnderlying107, Tryz.sizeOf107, Tryz.isAgg107, Tryz.zeroValue107,
    Tryz.underlying109, Tryz.runUnderlying109, Tryz.sizeOf109, Tryz.isAgg109, Tryz.zeroValue109,
    Tryz.underlying244, Tryz.runUnderlying244, Tryz.sizeOf244, Tryz.isAgg244, Tryz.zeroValue244,
    Tryz.underlying302, Tryz.runUnderlying302, Tryz.sizeOf302, Tryz.isAgg302, Tryz.zeroValue302,
    Tryz.underlying304, Tryz.runUnderlying304, Tryz.sizeOf304, Tryz.isAgg304, Tryz.zeroValue304,
    Tryz.underlying112, Tryz.runUnderlying112, Tryz.sizeOf112, Tryz.isAgg112, Tryz.zeroValue112,
    Tryz.underlying105, Tryz.runUnderlying105, Tryz.sizeOf105, Tryz.isAgg105, Tryz.zeroValue105,
    Tryz.underlying21, Tryz.runUnderlying21, Tryz.sizeOf21, Tryz.isAgg21, Tryz.zeroValue21, (by kernel_rfl)⟩
end Go.Proofs
