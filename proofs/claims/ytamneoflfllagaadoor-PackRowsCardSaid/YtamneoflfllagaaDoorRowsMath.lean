/-
  Numbers and texts one behind the other: plain mathematics.
-/
import Derived.Test.YtamneoflfllagaaDoorPackMath
namespace Go.Proofs.YtamneoflfllagaaDoor

/-- Each number, and behind it the text of the same place, where there is one. -/
def packed : List Nat → List ByteArray → ByteArray
  | [], _ => ByteArray.empty
  | n :: r, [] => num n ++ packed r []
  | n :: r, s :: t => num n ++ (text s ++ packed r t)
theorem drop_some {α : Type} {l : List α} {i : Nat} {x : α} (h : l[i]? = some x) : l.drop i = x :: l.drop (i + 1) := by
  obtain ⟨hi, rfl⟩ := List.getElem?_eq_some_iff.1 h
  exact List.drop_eq_getElem_cons hi
theorem packed_some {zs : List Nat} {ss : List ByteArray} {i z : Nat} {x : ByteArray} (hz : zs[i]? = some z) (hs : ss[i]? = some x) : packed (zs.drop i) (ss.drop i) = num z ++ (text x ++ packed (zs.drop (i + 1)) (ss.drop (i + 1))) := by
  rw [drop_some hz, drop_some hs]; rfl
theorem packed_none {zs : List Nat} {ss : List ByteArray} {i z : Nat} (hz : zs[i]? = some z) (hs : ss.length ≤ i) : packed (zs.drop i) (ss.drop i) = num z ++ packed (zs.drop (i + 1)) (ss.drop (i + 1)) := by
  rw [drop_some hz, List.drop_eq_nil_of_le hs, List.drop_eq_nil_of_le (Nat.le_succ_of_le hs)]; rfl
theorem packed_end {zs : List Nat} {ss : List ByteArray} {i : Nat} (h : zs.length ≤ i) : packed (zs.drop i) (ss.drop i) = ByteArray.empty := by
  rw [List.drop_eq_nil_of_le h]; rfl
end Go.Proofs.YtamneoflfllagaaDoor
