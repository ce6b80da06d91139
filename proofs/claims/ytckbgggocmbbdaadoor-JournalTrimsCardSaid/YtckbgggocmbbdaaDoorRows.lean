/-
  NARROWER THAN 'FOR EVERY INPUT', by the rows' own cells (each row's printed sentence says how): JournalPlays: laid · JournalTorn: laid · JournalTrims: laid · JournalTwice: laid.
  DERIVED. THE GIVEN ROWS OF THIS SEAT. 4 by the template 'for every input the law returns true; each argument reads behind the call as it read before'; 0 by the template 'total and deterministic' (their statements: YtckbgggocmbbdaaDoorTotals.lean).
  GIVEN WITH THE SEED: the statements are not yours to turn. If you find one false, say at which input.
  Laid BY PROGRAM, IN A SANDBOX (cutbox-rows.mjs): the forced cells as the released guide's own fill.sh prints them over the translation e7fa1cc08b2373c4… (all of the seat's roots in one cut). By AI agents, Wed Nov 11 2026. No macro, syntax, notation, axiom, sorry.
-/
import Derived.Test.YtckbgggocmbbdaaDoorChecked
import GoSem.Claim
import GoSem.ClaimJoined
import GoSem.ClaimMapViews
import Derived.JoinedTies
import Derived.KernelRfl
namespace Go.Proofs.YtckbgggocmbbdaaDoor
/- THE CELL 'sum', in the pinned program and in every row, IS THE sha256 OF THE DUMP (.gsa) THAT YtckbgggocmbbdaaDoorProg.lean LOADS. Nothing in Lean hashes anything: it is a label: what it is worth is what the hold of that sum in a sandbox is worth. -/
noncomputable def Tryd.pinned : Pinned := { name := "ytckbgggocmbbdaadoor", sum := "e7fa1cc08b2373c41df7cc0ac17adc20baefccf6ddcb6ac99900c782b26f704c", checked := Tryd.checked }
namespace Rows
def none {H : Type} : Left H := { results := [], args := [] }

/- WHAT THE LISTED PACKAGE-LEVEL VARIABLES READ AS WHEN THE CALL BEGINS. Each datum BY PROGRAM (the guide's laid-datum.mjs) off the statement by which the dump's own 'gosem.cut.vars' lays the variable. In a bare row this is a premise. The card (YtckbgggocmbbdaaDoorCards.lean) ties it to the program's text. -/
def laid_errors_errorType {H : Type} : DataW H := .iface "internal/reflectlite.rtype" (.agg [.ptr (.lit (.string [101, 114, 114, 111, 114]))])
def laid_estuary_pack_errOn {H : Type} : DataW H := .iface "*errors.errorString" (.ptr (.agg [.lit (.string [116, 104, 101, 32, 110, 117, 109, 98, 101, 114, 32, 103, 111, 101, 115, 32, 111, 110])]))

/-- 'estuarylaw10.JournalPlays': WHATEVER THE INPUT: true; the input reads as it did. -/
def journalPlaysSpec : ChangeSpec := { name := "journalPlays", fn := fun _ => fun
  | [d] => { results := [.lit (.bool true)], args := [d] }
  | _ => none }
def journalPlaysRow : OpenClaim := { program := "ytckbgggocmbbdaadoor", sum := "e7fa1cc08b2373c41df7cc0ac17adc20baefccf6ddcb6ac99900c782b26f704c", func := "estuary/estuarylaw10.JournalPlays", spec := "journalPlays", inPlace := ["internal/reflectlite.TypeOf", "internal/reflectlite.ValueOf", "(internal/reflectlite.Value).Type", "(internal/reflectlite.Value).IsNil", "(internal/reflectlite.Value).Elem", "(internal/reflectlite.Value).Set"], unfollowed := true, recurses := true, named := ["estuary/pack.errOn", "errors.errorType"], apart := false, laid := [("errors.errorType", laid_errors_errorType), ("estuary/pack.errOn", laid_estuary_pack_errOn)] }
def JournalPlaysSaid : Prop := journalPlaysRow.holds Tryd.pinned (OpenSpec.ofChange journalPlaysSpec)

/-- ITS FALSE NEIGHBOUR: 'it returns false'. Refute it at one input. -/
def journalPlaysWrong : ChangeSpec := { name := "journalPlays", fn := fun _ => fun
  | [d] => { results := [.lit (.bool false)], args := [d] }
  | _ => none }
def JournalPlaysWrongFalsely : Prop := journalPlaysRow.holds Tryd.pinned (OpenSpec.ofChange journalPlaysWrong)

/-- 'estuarylaw10.JournalTorn': WHATEVER THE INPUT: true; the input reads as it did. -/
def journalTornSpec : ChangeSpec := { name := "journalTorn", fn := fun _ => fun
  | [d1, d2, d3, d4] => { results := [.lit (.bool true)], args := [d1, d2, d3, d4] }
  | _ => none }
def journalTornRow : OpenClaim := { program := "ytckbgggocmbbdaadoor", sum := "e7fa1cc08b2373c41df7cc0ac17adc20baefccf6ddcb6ac99900c782b26f704c", func := "estuary/estuarylaw10.JournalTorn", spec := "journalTorn", inPlace := ["internal/reflectlite.TypeOf", "internal/reflectlite.ValueOf", "(internal/reflectlite.Value).Type", "(internal/reflectlite.Value).IsNil", "(internal/reflectlite.Value).Elem", "(internal/reflectlite.Value).Set"], unfollowed := true, recurses := true, named := ["estuary/pack.errOn", "errors.errorType"], apart := false, laid := [("errors.errorType", laid_errors_errorType), ("estuary/pack.errOn", laid_estuary_pack_errOn)] }
def JournalTornSaid : Prop := journalTornRow.holds Tryd.pinned (OpenSpec.ofChange journalTornSpec)

/-- ITS FALSE NEIGHBOUR: 'it returns false'. Refute it at one input. -/
def journalTornWrong : ChangeSpec := { name := "journalTorn", fn := fun _ => fun
  | [d1, d2, d3, d4] => { results := [.lit (.bool false)], args := [d1, d2, d3, d4] }
  | _ => none }
def JournalTornWrongFalsely : Prop := journalTornRow.holds Tryd.pinned (OpenSpec.ofChange journalTornWrong)

/-- 'estuarylaw10.JournalTrims': WHATEVER THE INPUT: true; the input reads as it did. -/
def journalTrimsSpec : ChangeSpec := { name := "journalTrims", fn := fun _ => fun
  | [d1, d2, d3] => { results := [.lit (.bool true)], args := [d1, d2, d3] }
  | _ => none }
def journalTrimsRow : OpenClaim := { program := "ytckbgggocmbbdaadoor", sum := "e7fa1cc08b2373c41df7cc0ac17adc20baefccf6ddcb6ac99900c782b26f704c", func := "estuary/estuarylaw10.JournalTrims", spec := "journalTrims", inPlace := ["internal/reflectlite.TypeOf", "internal/reflectlite.ValueOf", "(internal/reflectlite.Value).Type", "(internal/reflectlite.Value).IsNil", "(internal/reflectlite.Value).Elem", "(internal/reflectlite.Value).Set"], unfollowed := true, recurses := true, named := ["estuary/pack.errOn", "errors.errorType"], apart := false, laid := [("errors.errorType", laid_errors_errorType), ("estuary/pack.errOn", laid_estuary_pack_errOn)] }
def JournalTrimsSaid : Prop := journalTrimsRow.holds Tryd.pinned (OpenSpec.ofChange journalTrimsSpec)

/-- ITS FALSE NEIGHBOUR: 'it returns false'. Refute it at one input. -/
def journalTrimsWrong : ChangeSpec := { name := "journalTrims", fn := fun _ => fun
  | [d1, d2, d3] => { results := [.lit (.bool false)], args := [d1, d2, d3] }
  | _ => none }
def JournalTrimsWrongFalsely : Prop := journalTrimsRow.holds Tryd.pinned (OpenSpec.ofChange journalTrimsWrong)

/-- 'estuarylaw10.JournalTwice': WHATEVER THE INPUT: true; the input reads as it did. -/
def journalTwiceSpec : ChangeSpec := { name := "journalTwice", fn := fun _ => fun
  | [d1, d2] => { results := [.lit (.bool true)], args := [d1, d2] }
  | _ => none }
def journalTwiceRow : OpenClaim := { program := "ytckbgggocmbbdaadoor", sum := "e7fa1cc08b2373c41df7cc0ac17adc20baefccf6ddcb6ac99900c782b26f704c", func := "estuary/estuarylaw10.JournalTwice", spec := "journalTwice", inPlace := ["internal/reflectlite.TypeOf", "internal/reflectlite.ValueOf", "(internal/reflectlite.Value).Type", "(internal/reflectlite.Value).IsNil", "(internal/reflectlite.Value).Elem", "(internal/reflectlite.Value).Set"], unfollowed := true, recurses := true, named := ["estuary/pack.errOn", "errors.errorType"], apart := false, laid := [("errors.errorType", laid_errors_errorType), ("estuary/pack.errOn", laid_estuary_pack_errOn)] }
def JournalTwiceSaid : Prop := journalTwiceRow.holds Tryd.pinned (OpenSpec.ofChange journalTwiceSpec)

/-- ITS FALSE NEIGHBOUR: 'it returns false'. Refute it at one input. -/
def journalTwiceWrong : ChangeSpec := { name := "journalTwice", fn := fun _ => fun
  | [d1, d2] => { results := [.lit (.bool false)], args := [d1, d2] }
  | _ => none }
def JournalTwiceWrongFalsely : Prop := journalTwiceRow.holds Tryd.pinned (OpenSpec.ofChange journalTwiceWrong)

/- THE SECOND FORM. 'bulk': how many values and letters a reading holds, each counted each time it is reached (what is shared counts as often as it is met; a slice's spare places count too). A statement '..UptoSaid' is the law's where the arguments, and the package variables that the reading takes, are together of bulk at most 1048576: NARROWER than '..Said'. Prove '..Said' where nothing that the law and all that it calls make is longer than what came in: it says more and counts as full. Else prove '..UptoSaid'. A law counts once. -/
mutual
def uptoBulk {H : Type} : DataW H → Nat
  | .lit (.string bytes) => bytes.length + 1
  | .lit _ => 1
  | .nil => 1
  | .ptr d => uptoBulk d + 1
  | .slice elems spare => uptoBulkAll elems + uptoBulkAll spare + 1
  | .agg parts => uptoBulkAll parts + 1
  | .iface _ d => uptoBulk d + 1
  | .map entries => uptoBulkEntries entries + 1
  | .held _ => 1
def uptoBulkAll {H : Type} : List (DataW H) → Nat
  | [] => 0
  | d :: r => uptoBulk d + uptoBulkAll r
def uptoBulkEntries {H : Type} : List (Lit × DataW H) → Nat
  | [] => 0
  | x :: r => uptoBulkEntry x + uptoBulkEntries r
def uptoBulkEntry {H : Type} : Lit × DataW H → Nat
  | (.string bytes, d) => bytes.length + uptoBulk d + 1
  | (_, d) => uptoBulk d + 1
 end
def uptoSmall : (H : Type) → List (DataW H) → Bool := fun _ ds => decide (uptoBulkAll ds ≤ 1048576)
def OpenSpec.upto (s : _root_.Go.ChangeSpec) : _root_.Go.OpenSpec := { _root_.Go.OpenSpec.ofChange s with cond := some uptoSmall }

/-- 'estuarylaw10.JournalPlays', WHERE WHAT IT READS IS OF BULK AT MOST 1048576: true; the input reads as it did. -/
def journalPlaysUptoRow : OpenClaim := { program := "ytckbgggocmbbdaadoor", sum := "e7fa1cc08b2373c41df7cc0ac17adc20baefccf6ddcb6ac99900c782b26f704c", func := "estuary/estuarylaw10.JournalPlays", spec := "journalPlays", inPlace := ["internal/reflectlite.TypeOf", "internal/reflectlite.ValueOf", "(internal/reflectlite.Value).Type", "(internal/reflectlite.Value).IsNil", "(internal/reflectlite.Value).Elem", "(internal/reflectlite.Value).Set"], unfollowed := true, recurses := true, named := ["estuary/pack.errOn", "errors.errorType"], apart := false, laid := [("errors.errorType", laid_errors_errorType), ("estuary/pack.errOn", laid_estuary_pack_errOn)], narrowed := true }
def JournalPlaysUptoSaid : Prop := journalPlaysUptoRow.holds Tryd.pinned (OpenSpec.upto journalPlaysSpec)

/-- 'estuarylaw10.JournalTorn', WHERE WHAT IT READS IS OF BULK AT MOST 1048576: true; the input reads as it did. -/
def journalTornUptoRow : OpenClaim := { program := "ytckbgggocmbbdaadoor", sum := "e7fa1cc08b2373c41df7cc0ac17adc20baefccf6ddcb6ac99900c782b26f704c", func := "estuary/estuarylaw10.JournalTorn", spec := "journalTorn", inPlace := ["internal/reflectlite.TypeOf", "internal/reflectlite.ValueOf", "(internal/reflectlite.Value).Type", "(internal/reflectlite.Value).IsNil", "(internal/reflectlite.Value).Elem", "(internal/reflectlite.Value).Set"], unfollowed := true, recurses := true, named := ["estuary/pack.errOn", "errors.errorType"], apart := false, laid := [("errors.errorType", laid_errors_errorType), ("estuary/pack.errOn", laid_estuary_pack_errOn)], narrowed := true }
def JournalTornUptoSaid : Prop := journalTornUptoRow.holds Tryd.pinned (OpenSpec.upto journalTornSpec)

/-- 'estuarylaw10.JournalTrims', WHERE WHAT IT READS IS OF BULK AT MOST 1048576: true; the input reads as it did. -/
def journalTrimsUptoRow : OpenClaim := { program := "ytckbgggocmbbdaadoor", sum := "e7fa1cc08b2373c41df7cc0ac17adc20baefccf6ddcb6ac99900c782b26f704c", func := "estuary/estuarylaw10.JournalTrims", spec := "journalTrims", inPlace := ["internal/reflectlite.TypeOf", "internal/reflectlite.ValueOf", "(internal/reflectlite.Value).Type", "(internal/reflectlite.Value).IsNil", "(internal/reflectlite.Value).Elem", "(internal/reflectlite.Value).Set"], unfollowed := true, recurses := true, named := ["estuary/pack.errOn", "errors.errorType"], apart := false, laid := [("errors.errorType", laid_errors_errorType), ("estuary/pack.errOn", laid_estuary_pack_errOn)], narrowed := true }
def JournalTrimsUptoSaid : Prop := journalTrimsUptoRow.holds Tryd.pinned (OpenSpec.upto journalTrimsSpec)

/-- 'estuarylaw10.JournalTwice', WHERE WHAT IT READS IS OF BULK AT MOST 1048576: true; the input reads as it did. -/
def journalTwiceUptoRow : OpenClaim := { program := "ytckbgggocmbbdaadoor", sum := "e7fa1cc08b2373c41df7cc0ac17adc20baefccf6ddcb6ac99900c782b26f704c", func := "estuary/estuarylaw10.JournalTwice", spec := "journalTwice", inPlace := ["internal/reflectlite.TypeOf", "internal/reflectlite.ValueOf", "(internal/reflectlite.Value).Type", "(internal/reflectlite.Value).IsNil", "(internal/reflectlite.Value).Elem", "(internal/reflectlite.Value).Set"], unfollowed := true, recurses := true, named := ["estuary/pack.errOn", "errors.errorType"], apart := false, laid := [("errors.errorType", laid_errors_errorType), ("estuary/pack.errOn", laid_estuary_pack_errOn)], narrowed := true }
def JournalTwiceUptoSaid : Prop := journalTwiceUptoRow.holds Tryd.pinned (OpenSpec.upto journalTwiceSpec)

end Rows
end Go.Proofs.YtckbgggocmbbdaaDoor
