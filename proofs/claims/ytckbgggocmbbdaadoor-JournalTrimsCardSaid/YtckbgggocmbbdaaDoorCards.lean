/-
  DERIVED. GIVEN WITH THE SEED: THE CARDS: each row of YtckbgggocmbbdaaDoorRows.lean that lists a variable, with what it lists TIED to the program's text (the seventh form; the later family's looks); each row that meets fmt, with fmt's text TOLD by the authors' own Lean function (tested against real Go, not proved from fmt's source: count such statements apart). THE CARD IS WHAT COUNTS. Prove the row's statement (the work); the ties are given (YtckbgggocmbbdaaDoorTie.lean); close each card by the builder's one call (the guide's Derived/Test/ToyasCard.lean, 'card_holds'). Laid BY PROGRAM, IN A SANDBOX (cutbox-door.mjs). By AI agents, Wed Nov 11 2026. No macro, syntax, notation, axiom, sorry.
-/
import Derived.Test.YtckbgggocmbbdaaDoorRows
import GoSem.ClaimSeven
namespace Go.Proofs.YtckbgggocmbbdaaDoor
namespace Rows

/-- THE TIED CARD OF 'estuarylaw10.JournalPlays'. -/
def journalPlaysCard : Claim7 := { stood := { row := journalPlaysRow, standIns := [], harness := (true, "4fee6c662313be2b5efc5644a1261c709452f1fbf41bcad66208c918c8eea54d"), looks := true }, kinds := [], alts := [], laidByText := true, laidKinds := [.handle, .sentinel], laidTests := true, laidLooks := .later }
def JournalPlaysCardSaid : Prop := Claim7.holds Tryd.pinned (.plain (OpenSpec.ofChange journalPlaysSpec)) journalPlaysCard

/-- THE TIED CARD OF 'estuarylaw10.JournalTorn'. -/
def journalTornCard : Claim7 := { stood := { row := journalTornRow, standIns := [], harness := (true, "4fee6c662313be2b5efc5644a1261c709452f1fbf41bcad66208c918c8eea54d"), looks := true }, kinds := [], alts := [], laidByText := true, laidKinds := [.handle, .sentinel], laidTests := true, laidLooks := .later }
def JournalTornCardSaid : Prop := Claim7.holds Tryd.pinned (.plain (OpenSpec.ofChange journalTornSpec)) journalTornCard

/-- THE TIED CARD OF 'estuarylaw10.JournalTrims'. -/
def journalTrimsCard : Claim7 := { stood := { row := journalTrimsRow, standIns := [], harness := (true, "4fee6c662313be2b5efc5644a1261c709452f1fbf41bcad66208c918c8eea54d"), looks := true }, kinds := [], alts := [], laidByText := true, laidKinds := [.handle, .sentinel], laidTests := true, laidLooks := .later }
def JournalTrimsCardSaid : Prop := Claim7.holds Tryd.pinned (.plain (OpenSpec.ofChange journalTrimsSpec)) journalTrimsCard

/-- THE TIED CARD OF 'estuarylaw10.JournalTwice'. -/
def journalTwiceCard : Claim7 := { stood := { row := journalTwiceRow, standIns := [], harness := (true, "4fee6c662313be2b5efc5644a1261c709452f1fbf41bcad66208c918c8eea54d"), looks := true }, kinds := [], alts := [], laidByText := true, laidKinds := [.handle, .sentinel], laidTests := true, laidLooks := .later }
def JournalTwiceCardSaid : Prop := Claim7.holds Tryd.pinned (.plain (OpenSpec.ofChange journalTwiceSpec)) journalTwiceCard

/-- THE SECOND FORM's CARD OF 'estuarylaw10.JournalPlays'. -/
def journalPlaysUptoCard : Claim7 := { stood := { row := journalPlaysUptoRow, standIns := [], harness := (true, "4fee6c662313be2b5efc5644a1261c709452f1fbf41bcad66208c918c8eea54d"), looks := true }, kinds := [], alts := [], laidByText := true, laidKinds := [.handle, .sentinel], laidTests := true, laidLooks := .later }
def JournalPlaysUptoCardSaid : Prop := Claim7.holds Tryd.pinned (.plain (OpenSpec.upto journalPlaysSpec)) journalPlaysUptoCard

/-- THE SECOND FORM's CARD OF 'estuarylaw10.JournalTorn'. -/
def journalTornUptoCard : Claim7 := { stood := { row := journalTornUptoRow, standIns := [], harness := (true, "4fee6c662313be2b5efc5644a1261c709452f1fbf41bcad66208c918c8eea54d"), looks := true }, kinds := [], alts := [], laidByText := true, laidKinds := [.handle, .sentinel], laidTests := true, laidLooks := .later }
def JournalTornUptoCardSaid : Prop := Claim7.holds Tryd.pinned (.plain (OpenSpec.upto journalTornSpec)) journalTornUptoCard

/-- THE SECOND FORM's CARD OF 'estuarylaw10.JournalTrims'. -/
def journalTrimsUptoCard : Claim7 := { stood := { row := journalTrimsUptoRow, standIns := [], harness := (true, "4fee6c662313be2b5efc5644a1261c709452f1fbf41bcad66208c918c8eea54d"), looks := true }, kinds := [], alts := [], laidByText := true, laidKinds := [.handle, .sentinel], laidTests := true, laidLooks := .later }
def JournalTrimsUptoCardSaid : Prop := Claim7.holds Tryd.pinned (.plain (OpenSpec.upto journalTrimsSpec)) journalTrimsUptoCard

/-- THE SECOND FORM's CARD OF 'estuarylaw10.JournalTwice'. -/
def journalTwiceUptoCard : Claim7 := { stood := { row := journalTwiceUptoRow, standIns := [], harness := (true, "4fee6c662313be2b5efc5644a1261c709452f1fbf41bcad66208c918c8eea54d"), looks := true }, kinds := [], alts := [], laidByText := true, laidKinds := [.handle, .sentinel], laidTests := true, laidLooks := .later }
def JournalTwiceUptoCardSaid : Prop := Claim7.holds Tryd.pinned (.plain (OpenSpec.upto journalTwiceSpec)) journalTwiceUptoCard
end Rows
end Go.Proofs.YtckbgggocmbbdaaDoor
