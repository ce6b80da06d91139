/-
  DERIVED. GIVEN WITH THE SEED: THE CARDS: each row of YtadoonimokpnoaaDoorRows.lean that lists a variable, with what it lists TIED to the program's text (the seventh form; the later family's looks); each row that meets fmt, with fmt's text TOLD by the authors' own Lean function (tested against real Go, not proved from fmt's source: count such statements apart). THE CARD IS WHAT COUNTS. Prove the row's statement (the work); the ties are given (YtadoonimokpnoaaDoorTie.lean); close each card by the builder's one call (the guide's Derived/Test/ToyasCard.lean, 'card_holds'). Laid BY PROGRAM, IN A SANDBOX (cutbox-door.mjs). By AI agents, Wed Nov 11 2026. No macro, syntax, notation, axiom, sorry.
-/
import Derived.Test.YtadoonimokpnoaaDoorRows
import GoSem.ClaimSeven
namespace Go.Proofs.YtadoonimokpnoaaDoor
namespace Rows

/-- THE TIED CARD OF 'estuarylaw5.FrameCuts'. -/
def frameCutsCard : Claim7 := { stood := { row := frameCutsRow, standIns := [], harness := (true, "eab5955652c21a3c7a9eac1329b5d859b4632a5dfc8834d10f1bff910c310a77"), looks := true }, kinds := [], alts := [], laidByText := true, laidKinds := [.handle, .sentinel], laidTests := true, laidLooks := .later }
def FrameCutsCardSaid : Prop := Claim7.holds Tryd.pinned (.plain (OpenSpec.ofChange frameCutsSpec)) frameCutsCard

/-- THE TIED CARD OF 'estuarylaw5.FrameAfter'. -/
def frameAfterCard : Claim7 := { stood := { row := frameAfterRow, standIns := [], harness := (true, "eab5955652c21a3c7a9eac1329b5d859b4632a5dfc8834d10f1bff910c310a77"), looks := true }, kinds := [], alts := [], laidByText := true, laidKinds := [.handle, .sentinel], laidTests := true, laidLooks := .later }
def FrameAfterCardSaid : Prop := Claim7.holds Tryd.pinned (.plain (OpenSpec.ofChange frameAfterSpec)) frameAfterCard

/-- THE SECOND FORM's CARD OF 'estuarylaw5.FrameCuts'. -/
def frameCutsUptoCard : Claim7 := { stood := { row := frameCutsUptoRow, standIns := [], harness := (true, "eab5955652c21a3c7a9eac1329b5d859b4632a5dfc8834d10f1bff910c310a77"), looks := true }, kinds := [], alts := [], laidByText := true, laidKinds := [.handle, .sentinel], laidTests := true, laidLooks := .later }
def FrameCutsUptoCardSaid : Prop := Claim7.holds Tryd.pinned (.plain (OpenSpec.upto frameCutsSpec)) frameCutsUptoCard

/-- THE SECOND FORM's CARD OF 'estuarylaw5.FrameAfter'. -/
def frameAfterUptoCard : Claim7 := { stood := { row := frameAfterUptoRow, standIns := [], harness := (true, "eab5955652c21a3c7a9eac1329b5d859b4632a5dfc8834d10f1bff910c310a77"), looks := true }, kinds := [], alts := [], laidByText := true, laidKinds := [.handle, .sentinel], laidTests := true, laidLooks := .later }
def FrameAfterUptoCardSaid : Prop := Claim7.holds Tryd.pinned (.plain (OpenSpec.upto frameAfterSpec)) frameAfterUptoCard
end Rows
end Go.Proofs.YtadoonimokpnoaaDoor
