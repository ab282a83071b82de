/-
  DERIVED. GIVEN WITH THE SEED: THE CARDS: each row of YtdnpeefnobjfaaaGreatDoorRows.lean that lists a variable, with what it lists TIED to the program's text (the seventh form; the later family's looks); each row that meets fmt, with fmt's text TOLD by the authors' own Lean function (tested against real Go, not proved from fmt's source: count such statements apart). THE CARD IS WHAT COUNTS. Prove the row's statement (the work); the ties are given (YtdnpeefnobjfaaaGreatDoorTie.lean); close each card by the builder's one call (the guide's Derived/Test/ToyasCard.lean, 'card_holds'). Laid BY PROGRAM, IN A SANDBOX (cutbox-door.mjs). By AI agents, Wed Nov 11 2026. No macro, syntax, notation, axiom, sorry.
-/
import Derived.Test.YtdnpeefnobjfaaaGreatDoorRows
import GoSem.ClaimSeven
namespace Go.Proofs.YtdnpeefnobjfaaaGreatDoor
namespace Rows

/-- THE TIED CARD OF 'milepostlaw.Learns'. -/
def learnsCard : Claim7 := { stood := { row := learnsRow, standIns := [], harness := (true, "70ac1568d3313808654d67938aa5ced3d90396eb88b039362ceaa0d3be62e0b4"), looks := true }, kinds := [], alts := [], goes := true, laidByText := true, laidKinds := [.handle], laidTests := true, laidLooks := .later }
def LearnsCardSaid : Prop := Claim7.holds Tryz.pinned (.plain (OpenSpec.ofChange learnsSpec)) learnsCard

/-- THE TIED CARD OF 'milepostkeep.Forgotten'. -/
def forgottenCard : Claim7 := { stood := { row := forgottenRow, standIns := [], harness := (true, "70ac1568d3313808654d67938aa5ced3d90396eb88b039362ceaa0d3be62e0b4"), looks := true }, kinds := [], alts := [], goes := true, laidByText := true, laidKinds := [.handle], laidTests := true, laidLooks := .later }
def ForgottenCardSaid : Prop := Claim7.holds Tryz.pinned (.plain (OpenSpec.ofChange forgottenSpec)) forgottenCard

/-- THE TIED CARD OF 'milepostlaw.Tells'. -/
def tellsCard : Claim7 := { stood := { row := tellsRow, standIns := [], harness := (true, "70ac1568d3313808654d67938aa5ced3d90396eb88b039362ceaa0d3be62e0b4"), looks := true }, kinds := [], alts := [], goes := true, laidByText := true, laidKinds := [.handle], laidTests := true, laidLooks := .later }
def TellsCardSaid : Prop := Claim7.holds Tryz.pinned (.plain (OpenSpec.ofChange tellsSpec)) tellsCard

/-- THE TIED CARD OF 'milepostkeep.Mirrored'. -/
def mirroredCard : Claim7 := { stood := { row := mirroredRow, standIns := [], harness := (true, "70ac1568d3313808654d67938aa5ced3d90396eb88b039362ceaa0d3be62e0b4"), looks := true }, kinds := [], alts := [], goes := true, laidByText := true, laidKinds := [.handle], laidTests := true, laidLooks := .later }
def MirroredCardSaid : Prop := Claim7.holds Tryz.pinned (.plain (OpenSpec.ofChange mirroredSpec)) mirroredCard

/-- THE TIED CARD OF 'milepostkeep.Nearest'. -/
def nearestCard : Claim7 := { stood := { row := nearestRow, standIns := [], harness := (true, "70ac1568d3313808654d67938aa5ced3d90396eb88b039362ceaa0d3be62e0b4"), looks := true }, kinds := [], alts := [], goes := true, laidByText := true, laidKinds := [.handle], laidTests := true, laidLooks := .later }
def NearestCardSaid : Prop := Claim7.holds Tryz.pinned (.plain (OpenSpec.ofChange nearestSpec)) nearestCard

/-- THE TIED CARD OF 'milepostlaw.All'. -/
def allCard : Claim7 := { stood := { row := allRow, standIns := [], harness := (true, "70ac1568d3313808654d67938aa5ced3d90396eb88b039362ceaa0d3be62e0b4"), looks := true }, kinds := [], alts := [], goes := true, laidByText := true, laidKinds := [.handle], laidTests := true, laidLooks := .later }
def AllCardSaid : Prop := Claim7.holds Tryz.pinned (.plain (OpenSpec.ofChange allSpec)) allCard
end Rows
end Go.Proofs.YtdnpeefnobjfaaaGreatDoor
