/-
  Frames, as plain mathematics of bytes: the sum, a frame, the frame at a place, all frames of a text.
-/
import Derived.Test.YtckbgggocmbbdaaDoorPackMath
namespace Go.Proofs.YtckbgggocmbbdaaDoor

def sumStep (n : Nat) (b : UInt8) : Nat := ((n ^^^ b.toNat) * 16777619) % 4294967296
def sumL (l : List UInt8) : Nat := l.foldl sumStep 2166136261
theorem sumStep_lt (n : Nat) (b : UInt8) : sumStep n b < 4294967296 := Nat.mod_lt _ (by decide)
theorem sumL_lt (l : List UInt8) : sumL l < 4294967296 := by
  have h : ∀ (l : List UInt8) (n : Nat), n < 4294967296 → l.foldl sumStep n < 4294967296 := by
    intro l
    induction l with
    | nil => intro n h; exact h
    | cons b r ih => intro n _; exact ih _ (sumStep_lt n b)
  exact h l _ (by decide)
def fourL (n : Nat) : List UInt8 := [UInt8.ofNat n, UInt8.ofNat (n / 256), UInt8.ofNat (n / 65536), UInt8.ofNat (n / 16777216)]
/-- The sum of s as four bytes, the lowest first. -/
def sign (s : ByteArray) : ByteArray := ⟨(fourL (sumL s.data.toList)).toArray⟩
theorem sign_size (s : ByteArray) : (sign s).size = 4 := rfl
def framed (s : ByteArray) : ByteArray := sign (text s) ++ text s
theorem framed_size (s : ByteArray) : (framed s).size = 4 + (text s).size := by
  unfold framed; rw [ByteArray.size_append, sign_size]
theorem framed_le (s : ByteArray) : (framed s).size ≤ 15 + s.size := by
  rw [framed_size, text_size]; have := num_size_le s.size; omega

/-- What opening comes to: the text and where its frame ends; or the error's number. -/
inductive Od where
  | ok (t : ByteArray) (e : Nat)
  | err (c : Int)
def openL (s : ByteArray) (i : Nat) : Od :=
  if s.size - i < 4 then .err 11 else
    match textL (s.extract (i + 4) s.size) 200000 with
    | .err c => .err c
    | .ok t r => if sign (s.extract (i + 4) (s.size - r.size)) = s.extract i (i + 4) then .ok t (s.size - r.size) else .err 12

theorem ext_right {p q : ByteArray} {n m : Nat} (hn : p.size ≤ n) : (p ++ q).extract n m = q.extract (n - p.size) (m - p.size) := by
  rw [ByteArray.extract_append]
  have : p.extract n m = ByteArray.empty := by rw [ByteArray.extract_eq_empty_iff]; omega
  rw [this, ByteArray.empty_append]
theorem ext_left {p q : ByteArray} {n m : Nat} (hm : m ≤ p.size) : (p ++ q).extract n m = p.extract n m := by
  rw [ByteArray.extract_append]
  have : q.extract (n - p.size) (m - p.size) = ByteArray.empty := by rw [ByteArray.extract_eq_empty_iff]; omega
  rw [this, ByteArray.append_empty]
theorem ext_all {p : ByteArray} {m : Nat} (hm : p.size ≤ m) : p.extract 0 m = p := by
  have := ByteArray.extract_zero_max_size (a := p) (i := m)
  rwa [Nat.max_eq_left hm] at this

theorem textL_le {s t r : ByteArray} {most : Int} (h : textL s most = .ok t r) : r.size ≤ s.size := by
  unfold textL at h
  split at h
  · cases h
  · cases h
  · split at h
    · cases h
    · split at h
      · cases h
      · injection h with _ h
        rw [← h, ByteArray.size_extract]; omega
theorem openL_le {s t : ByteArray} {i e : Nat} (h : openL s i = .ok t e) : e ≤ s.size := by
  unfold openL at h
  split at h
  · cases h
  · split at h
    · cases h
    · split at h
      · injection h with _ h
        omega
      · cases h

/-- Four bytes and a packed text at place i: what opening there comes to. -/
theorem openL_at (p m t q : ByteArray) (hm : m.size = 4) (ht : t.size ≤ 200000) :
    openL (p ++ (m ++ (text t ++ q))) p.size = if sign (text t) = m then .ok t (p.size + (4 + (text t).size)) else .err 12 := by
  have hz : (p ++ (m ++ (text t ++ q))).size = p.size + (4 + ((text t).size + q.size)) := by simp only [ByteArray.size_append, hm]
  have h1 : (p ++ (m ++ (text t ++ q))).extract (p.size + 4) (p ++ (m ++ (text t ++ q))).size = text t ++ q := by
    rw [hz, ext_right (by omega), ext_right (by omega)]
    have e1 : p.size + 4 - p.size - m.size = 0 := by omega
    rw [e1]; exact ext_all (by rw [ByteArray.size_append]; omega)
  have h2 : (p ++ (m ++ (text t ++ q))).extract p.size (p.size + 4) = m := by
    rw [ext_right (by omega), ext_left (by omega)]
    have e1 : p.size - p.size = 0 := by omega
    rw [e1]; exact ext_all (by omega)
  have h3 : (p ++ (m ++ (text t ++ q))).extract (p.size + 4) ((p ++ (m ++ (text t ++ q))).size - q.size) = text t := by
    rw [hz, ext_right (by omega), ext_right (by omega), ext_left (by omega)]
    have e1 : p.size + 4 - p.size - m.size = 0 := by omega
    rw [e1]; exact ext_all (by omega)
  have h4 : (p ++ (m ++ (text t ++ q))).size - q.size = p.size + (4 + (text t).size) := by omega
  unfold openL
  rw [if_neg (by omega), h1, textL_text t q 200000 (by omega) (by omega)]
  simp only
  rw [h2, h3, h4]
theorem openL_framed (p t q : ByteArray) (ht : t.size ≤ 200000) : openL (p ++ (framed t ++ q)) p.size = .ok t (p.size + (framed t).size) := by
  have := openL_at p (sign (text t)) t q (sign_size _) ht
  rw [if_pos rfl] at this
  rw [framed_size, ← this]
  unfold framed
  rw [ByteArray.append_assoc]
theorem openL_spoilt (p m t q : ByteArray) (hm : m.size = 4) (ht : t.size ≤ 200000) (hne : sign (text t) ≠ m) : openL (p ++ (m ++ (text t ++ q))) p.size = .err 12 := by
  rw [openL_at p m t q hm ht, if_neg hne]
theorem openL_end (p : ByteArray) : openL p p.size = .err 11 := by
  unfold openL; rw [if_pos (by omega)]
theorem openL_cut (p t : ByteArray) (j : Nat) (ht : t.size ≤ 200000) (hj : j < (framed t).size) : openL (p ++ (framed t).extract 0 j) p.size = .err 11 := by
  have hz : (p ++ (framed t).extract 0 j).size = p.size + j := by
    rw [ByteArray.size_append, ByteArray.size_extract]; omega
  rw [framed_size] at hj
  unfold openL
  rw [hz]
  by_cases h4 : j < 4
  · rw [if_pos (by omega)]
  · rw [if_neg (by omega)]
    have h1 : (p ++ (framed t).extract 0 j).extract (p.size + 4) (p.size + j) = (text t).extract 0 (j - 4) := by
      rw [ext_right (by omega), ByteArray.extract_extract]
      unfold framed
      rw [ext_right (by rw [sign_size]; omega), sign_size]
      congr 1 <;> omega
    rw [h1, textL_cut t (j - 4) 200000 (by omega) (by omega) (by omega)]

/-- From place i on these texts stand framed in s, up to place n; there nothing can be opened. -/
inductive Frames (s : ByteArray) : Nat → List ByteArray → Nat → Prop
  | done {i : Nat} {c : Int} : openL s i = .err c → Frames s i [] i
  | more {i e n : Nat} {t : ByteArray} {ts : List ByteArray} : openL s i = .ok t e → Frames s e ts n → Frames s i (t :: ts) n

def framesOf : List ByteArray → ByteArray
  | [] => ByteArray.empty
  | t :: r => framed t ++ framesOf r
theorem framesOf_append (a b : List ByteArray) : framesOf (a ++ b) = framesOf a ++ framesOf b := by
  induction a with
  | nil => simp [framesOf]
  | cons t r ih => simp [framesOf, ih, ByteArray.append_assoc]
theorem frames_of (q : ByteArray) (c : Int) : ∀ (ts : List ByteArray) (p : ByteArray), (∀ t ∈ ts, t.size ≤ 200000) → openL (p ++ (framesOf ts ++ q)) (p.size + (framesOf ts).size) = .err c →
    Frames (p ++ (framesOf ts ++ q)) p.size ts (p.size + (framesOf ts).size)
  | [], p, _, h => by
    have e : p.size + (framesOf []).size = p.size := by simp [framesOf]
    rw [e] at h ⊢
    exact .done h
  | t :: r, p, ht, h => by
    have e0 : p ++ (framesOf (t :: r) ++ q) = p ++ (framed t ++ (framesOf r ++ q)) := by simp only [framesOf, ByteArray.append_assoc]
    have e1 : p ++ (framed t ++ (framesOf r ++ q)) = (p ++ framed t) ++ (framesOf r ++ q) := by rw [ByteArray.append_assoc]
    have e2 : p.size + (framesOf (t :: r)).size = (p ++ framed t).size + (framesOf r).size := by simp only [framesOf, ByteArray.size_append]; omega
    rw [e2] at h ⊢
    have ho := openL_framed p t (framesOf r ++ q) (ht t (List.mem_cons_self ..))
    rw [e0] at h ⊢
    refine .more ho ?_
    rw [e1] at h ⊢
    have := frames_of q c r (p ++ framed t) (fun x hx => ht x (List.mem_cons_of_mem _ hx)) h
    rw [ByteArray.size_append] at this ⊢
    exact this

/-- Where the first k frames end. -/
def endsAt (ss : List ByteArray) (k : Nat) : Nat := (framesOf (ss.take k)).size
theorem endsAt_zero (ss : List ByteArray) : endsAt ss 0 = 0 := by simp [endsAt, framesOf]
theorem take_snoc {α : Type} {l : List α} {i : Nat} {x : α} (h : l[i]? = some x) : l.take (i + 1) = l.take i ++ [x] := by
  obtain ⟨hi, rfl⟩ := List.getElem?_eq_some_iff.1 h
  rw [List.take_append_getElem]
theorem framesOf_snoc {ss : List ByteArray} {i : Nat} {x : ByteArray} (h : ss[i]? = some x) : framesOf (ss.take (i + 1)) = framesOf (ss.take i) ++ framed x := by
  rw [take_snoc h, framesOf_append]
  simp [framesOf]
theorem endsAt_succ {ss : List ByteArray} {i : Nat} {x : ByteArray} (h : ss[i]? = some x) : endsAt ss (i + 1) = endsAt ss i + (framed x).size := by
  unfold endsAt; rw [framesOf_snoc h, ByteArray.size_append]
theorem endsAt_all (ss : List ByteArray) : endsAt ss ss.length = (framesOf ss).size := by simp [endsAt]

/-- Cut off at c, where k frames are whole, and not one more. -/
theorem frames_cut (ss : List ByteArray) (c k : Nat) (hs : ∀ t ∈ ss, t.size ≤ 200000) (hk : k ≤ ss.length) (_hc : c ≤ (framesOf ss).size) (h1 : endsAt ss k ≤ c) (h2 : k < ss.length → c < endsAt ss (k + 1)) :
    Frames ((framesOf ss).extract 0 c) 0 (ss.take k) (endsAt ss k) := by
  have key : ∃ q, (framesOf ss).extract 0 c = framesOf (ss.take k) ++ q ∧ openL (framesOf (ss.take k) ++ q) (framesOf (ss.take k)).size = .err 11 := by
    rcases Nat.lt_or_ge k ss.length with hlt | hge
    · have hx : ss[k]? = some ss[k] := List.getElem?_eq_getElem hlt
      have h3 := h2 hlt
      rw [endsAt_succ hx] at h3
      have h4 : (framesOf (ss.take k)).size ≤ c := h1
      have h5 : c < (framesOf (ss.take k)).size + (framed ss[k]).size := h3
      refine ⟨(framed ss[k]).extract 0 (c - (framesOf (ss.take k)).size), ?_, openL_cut _ _ _ (hs _ (List.getElem_mem hlt)) (by omega)⟩
      have e : framesOf ss = framesOf (ss.take k) ++ (framed ss[k] ++ framesOf (ss.drop (k + 1))) := by
        conv => lhs; rw [← List.take_append_drop k ss, List.drop_eq_getElem_cons hlt]
        rw [framesOf_append]; rfl
      conv => lhs; rw [e]
      rw [ByteArray.extract_append, ext_all (by omega), ext_left (by omega)]
      have e0 : 0 - (framesOf (ss.take k)).size = 0 := by omega
      rw [e0]
    · have hkk : k = ss.length := by omega
      subst hkk
      rw [endsAt_all] at h1
      refine ⟨ByteArray.empty, ?_, ?_⟩
      · rw [ByteArray.append_empty, List.take_length, ext_all (by omega)]
      · rw [ByteArray.append_empty]; exact openL_end _
  obtain ⟨q, hq, ho⟩ := key
  rw [hq]
  have e0 : ByteArray.empty ++ (framesOf (ss.take k) ++ q) = framesOf (ss.take k) ++ q := ByteArray.empty_append
  have := frames_of q 11 (ss.take k) ByteArray.empty (fun t ht => hs t (List.mem_of_mem_take ht)) (by rw [e0]; simpa using ho)
  rw [e0] at this
  simpa [endsAt] using this
/-- Frames, and behind them what can't be opened. -/
theorem frames_then (ts : List ByteArray) (q : ByteArray) (c : Int) (hs : ∀ t ∈ ts, t.size ≤ 200000) (ho : openL (framesOf ts ++ q) (framesOf ts).size = .err c) : Frames (framesOf ts ++ q) 0 ts (framesOf ts).size := by
  have e0 : ByteArray.empty ++ (framesOf ts ++ q) = framesOf ts ++ q := ByteArray.empty_append
  have := frames_of q c ts ByteArray.empty hs (by rw [e0]; simpa using ho)
  rw [e0] at this
  simpa using this
theorem frames_whole (ts : List ByteArray) (hs : ∀ t ∈ ts, t.size ≤ 200000) : Frames (framesOf ts) 0 ts (framesOf ts).size := by
  have := frames_then ts ByteArray.empty 11 hs (by rw [ByteArray.append_empty]; exact openL_end _)
  rwa [ByteArray.append_empty] at this

/-! ### one byte changed -/
def middle : List UInt8 := [109, 105, 100, 100, 108, 101]
def turned (n : Nat) : List UInt8 := middle.set (n % 6) (middle.getD (n % 6) 0 ^^^ UInt8.ofNat n)
def turnedB (n : Nat) : ByteArray := ⟨(turned n).toArray⟩
def middleB : ByteArray := ⟨middle.toArray⟩
theorem turned_length (n : Nat) : (turned n).length = 6 := by simp [turned, middle]
theorem turned_size (n : Nat) : (turnedB n).size = 6 := by simp [turnedB, ByteArray.size, turned_length]
theorem text_turned (n : Nat) : text (turnedB n) = ⟨(6 :: turned n).toArray⟩ := by
  unfold text
  rw [turned_size]
  apply ByteArray.ext
  have : num 6 = ⟨#[6]⟩ := by decide +kernel
  rw [this]
  simp [turnedB]
theorem sums_differ : ∀ n, n < 256 → n ≠ 0 → fourL (sumL (6 :: turned n)) ≠ fourL (sumL (6 :: middle)) := by decide +kernel
theorem sign_turned (n : Nat) (hn : n < 256) (h0 : n ≠ 0) : sign (text (turnedB n)) ≠ sign (text middleB) := by
  have e1 : (text (turnedB n)).data.toList = 6 :: turned n := by rw [text_turned]
  have e2 : (text middleB).data.toList = 6 :: middle := by decide +kernel
  intro h
  have h1 := congrArg (fun x : ByteArray => x.data.toList) h
  unfold sign at h1
  rw [e1, e2] at h1
  exact sums_differ n hn h0 h1
end Go.Proofs.YtckbgggocmbbdaaDoor
