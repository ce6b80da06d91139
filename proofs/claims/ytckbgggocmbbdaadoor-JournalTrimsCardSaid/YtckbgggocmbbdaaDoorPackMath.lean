/-
  Numbers as rows of six bits, and back: plain mathematics of lists of bytes.
-/
import Derived.WalkKit
namespace Go.Proofs.YtckbgggocmbbdaaDoor

/-- The bytes of a number: six bits a byte, the lowest first, each plus 64 but the last one; fuel: how many more than one it may have. -/
def sixes : Nat → Nat → List UInt8
  | 0, n => [UInt8.ofNat n]
  | k + 1, n => if n < 64 then [UInt8.ofNat n] else UInt8.ofNat (64 + n % 64) :: sixes k (n / 64)
def numL (n : Nat) : List UInt8 := sixes 10 n
def num (n : Nat) : ByteArray := ⟨(numL n).toArray⟩
def text (s : ByteArray) : ByteArray := num s.size ++ s

/-- What taking a number comes to: the number and how many bytes it has; ill-formed; bytes lack. -/
inductive Tk where
  | ok (n i : Nat)
  | form
  | short
def takeFrom : Nat → Nat → List UInt8 → Tk
  | _, _, [] => .short
  | i, n, b :: r => if 128 ≤ b.toNat ∨ (b.toNat = 0 ∧ 0 < i) ∨ (64 ≤ b.toNat ∧ i = 7) then .form else if 64 ≤ b.toNat then takeFrom (i + 1) (n + (b.toNat - 64) * 64 ^ i) r else .ok (n + b.toNat * 64 ^ i) (i + 1)
def takeL (l : List UInt8) : Tk := takeFrom 0 0 l

theorem toNat_small {n : Nat} (h : n < 256) : (UInt8.ofNat n).toNat = n := by
  simp [Nat.mod_eq_of_lt h]

theorem sixes_small {k n : Nat} (h : n < 64) : sixes k n = [UInt8.ofNat n] := by
  cases k with
  | zero => rfl
  | succ k => simp [sixes, h]
theorem sixes_more {k n : Nat} (h : 64 ≤ n) : sixes (k + 1) n = UInt8.ofNat (64 + n % 64) :: sixes k (n / 64) := by
  have : ¬ n < 64 := by omega
  simp [sixes, this]
theorem sixes_pos (k n : Nat) : 0 < (sixes k n).length := by
  cases k with
  | zero => simp [sixes]
  | succ k => unfold sixes; split <;> simp
theorem sixes_length (k n : Nat) : (sixes k n).length ≤ k + 1 := by
  induction k generalizing n with
  | zero => simp [sixes]
  | succ k ih =>
    unfold sixes
    split
    · simp
    · have := ih (n / 64); simp; omega
theorem num_size_pos (n : Nat) : 0 < (num n).size := by
  have := sixes_pos 10 n
  simpa [num, numL, ByteArray.size] using this
theorem num_size (n : Nat) : (num n).size = (numL n).length := by simp [num, ByteArray.size]
theorem num_size_le (n : Nat) : (num n).size ≤ 11 := by
  rw [num_size]; exact sixes_length 10 n
theorem text_size (s : ByteArray) : (text s).size = (num s.size).size + s.size := by simp [text]

theorem step_form {i n : Nat} {b : UInt8} {r : List UInt8} (h : 128 ≤ b.toNat ∨ (b.toNat = 0 ∧ 0 < i) ∨ (64 ≤ b.toNat ∧ i = 7)) : takeFrom i n (b :: r) = .form := by
  simp only [takeFrom]; rw [if_pos h]
theorem step_on {i n : Nat} {b : UInt8} {r : List UInt8} (h1 : 64 ≤ b.toNat) (h2 : b.toNat < 128) (h3 : i ≠ 7) : takeFrom i n (b :: r) = takeFrom (i + 1) (n + (b.toNat - 64) * 64 ^ i) r := by
  simp only [takeFrom]; rw [if_neg (by omega), if_pos h1]
theorem step_last {i n : Nat} {b : UInt8} {r : List UInt8} (h1 : b.toNat < 64) (h2 : b.toNat ≠ 0 ∨ i = 0) : takeFrom i n (b :: r) = .ok (n + b.toNat * 64 ^ i) (i + 1) := by
  simp only [takeFrom]; rw [if_neg (by omega), if_neg (by omega)]

theorem take_sixes (k : Nat) : ∀ (i n acc : Nat) (r : List UInt8), i ≤ 7 → n < 64 ^ (8 - i) → n < 64 ^ (k + 1) → (0 < n ∨ i = 0) → takeFrom i acc (sixes k n ++ r) = .ok (acc + n * 64 ^ i) (i + (sixes k n).length) := by
  induction k with
  | zero =>
    intro i n acc r hi h8 hk h0
    have hn : n < 64 := by simpa using hk
    have e := toNat_small (n := n) (by omega)
    rw [sixes_small hn]
    show takeFrom i acc (UInt8.ofNat n :: r) = _
    rw [step_last (by omega) (by omega), e]; rfl
  | succ k ih =>
    intro i n acc r hi h8 hk h0
    by_cases hn : n < 64
    · have e := toNat_small (n := n) (by omega)
      rw [sixes_small hn]
      show takeFrom i acc (UInt8.ofNat n :: r) = _
      rw [step_last (by omega) (by omega), e]; rfl
    · have e := toNat_small (n := 64 + n % 64) (by omega)
      have hi7 : i ≠ 7 := by
        intro h7; subst h7
        have : (64 : Nat) ^ (8 - 7) = 64 := rfl
        omega
      have p1 : (64 : Nat) ^ (8 - i) = 64 * 64 ^ (8 - (i + 1)) := by
        have : 8 - i = (8 - (i + 1)) + 1 := by omega
        rw [this, Nat.pow_succ, Nat.mul_comm]
      have p2 : (64 : Nat) ^ (k + 1 + 1) = 64 * 64 ^ (k + 1) := by rw [Nat.pow_succ, Nat.mul_comm]
      have p3 : (64 : Nat) ^ (i + 1) = 64 * 64 ^ i := by rw [Nat.pow_succ, Nat.mul_comm]
      rw [sixes_more (by omega)]
      show takeFrom i acc (UInt8.ofNat (64 + n % 64) :: (sixes k (n / 64) ++ r)) = _
      rw [step_on (by omega) (by omega) hi7, e, ih (i + 1) (n / 64) _ r (by omega) (by omega) (by omega) (by omega)]
      have h1 : acc + (64 + n % 64 - 64) * 64 ^ i + n / 64 * 64 ^ (i + 1) = acc + n * 64 ^ i := by
        have h2 : n = n % 64 + 64 * (n / 64) := by omega
        have h3 : n * 64 ^ i = (n % 64) * 64 ^ i + n / 64 * (64 * 64 ^ i) := by
          conv => lhs; rw [h2]
          rw [Nat.add_mul]; congr 1
          rw [Nat.mul_comm 64 (n / 64), Nat.mul_assoc]
        have h4 : 64 + n % 64 - 64 = n % 64 := by omega
        rw [p3, h4, h3, Nat.add_assoc]
      rw [h1]
      have h5 : i + 1 + (sixes k (n / 64)).length = i + (UInt8.ofNat (64 + n % 64) :: sixes k (n / 64)).length := by simp; omega
      rw [h5]
theorem take_num (n : Nat) (h : n < 281474976710656) (r : List UInt8) : takeL (numL n ++ r) = .ok n (numL n).length := by
  have := take_sixes 10 0 n 0 r (by omega) (by simpa using h) (by have : (64 : Nat) ^ (10 + 1) = 73786976294838206464 := rfl; omega) (.inr rfl)
  simpa [takeL, numL] using this

theorem take_cut (k : Nat) : ∀ (i n acc j : Nat), i ≤ 7 → n < 64 ^ (8 - i) → j < (sixes k n).length → takeFrom i acc ((sixes k n).take j) = .short := by
  induction k with
  | zero =>
    intro i n acc j hi h8 hj
    have : j = 0 := by simp [sixes] at hj; exact hj
    subst this; simp [takeFrom]
  | succ k ih =>
    intro i n acc j hi h8 hj
    cases j with
    | zero => simp [takeFrom]
    | succ j =>
      by_cases hn : n < 64
      · rw [sixes_small hn] at hj; simp at hj
      · have e := toNat_small (n := 64 + n % 64) (by omega)
        have hi7 : i ≠ 7 := by
          intro h7; subst h7
          have : (64 : Nat) ^ (8 - 7) = 64 := rfl
          omega
        have p1 : (64 : Nat) ^ (8 - i) = 64 * 64 ^ (8 - (i + 1)) := by
          have : 8 - i = (8 - (i + 1)) + 1 := by omega
          rw [this, Nat.pow_succ, Nat.mul_comm]
        rw [sixes_more (by omega)] at hj ⊢
        simp only [List.take_succ_cons]
        rw [step_on (by omega) (by omega) hi7]
        exact ih (i + 1) (n / 64) _ j (by omega) (by omega) (by simpa using hj)
theorem take_num_cut (n j : Nat) (h : n < 281474976710656) (hj : j < (numL n).length) : takeL ((numL n).take j) = .short :=
  take_cut 10 0 n 0 j (by omega) (by simpa using h) hj
theorem take_le (l : List UInt8) : ∀ (i n m j : Nat), takeFrom i n l = .ok m j → i < j ∧ j ≤ i + l.length := by
  induction l with
  | nil => intro i n m j h; simp [takeFrom] at h
  | cons b r ih =>
    intro i n m j h
    simp only [takeFrom] at h
    split at h
    · cases h
    · split at h
      · have := ih _ _ _ _ h
        simp; omega
      · injection h with _ h
        simp; omega
theorem takeL_le {l : List UInt8} {n i : Nat} (h : takeL l = .ok n i) : 0 < i ∧ i ≤ l.length := by
  have := take_le l 0 0 n i h
  omega

/-- What taking a text comes to: the text and what is behind it; or the error's number. -/
inductive Tx where
  | ok (t r : ByteArray)
  | err (c : Int)
def textL (s : ByteArray) (most : Int) : Tx :=
  match takeL s.data.toList with
  | .form => .err 10
  | .short => .err 11
  | .ok n i => if most < n then .err 13 else if s.size - i < n then .err 11 else .ok (s.extract i (i + n)) (s.extract (i + n) s.size)
theorem append_extract_right (a b : ByteArray) : (a ++ b).extract a.size (a ++ b).size = b := by
  rw [ByteArray.size_append]
  exact ByteArray.extract_append_eq_right rfl rfl
theorem numL_bytes (n : Nat) (x : ByteArray) : (num n ++ x).data.toList = numL n ++ x.data.toList := by
  simp [num]
theorem take_num_bytes (n : Nat) (h : n < 281474976710656) (x : ByteArray) : takeL (num n ++ x).data.toList = .ok n (num n).size := by
  rw [numL_bytes, take_num n h, num_size]
theorem take_num_short (n j : Nat) (h : n < 281474976710656) (hj : j < (num n).size) : takeL ((num n).extract 0 j).data.toList = .short := by
  rw [num_size] at hj
  have e : ((num n).extract 0 j).data.toList = (numL n).take j := by simp [num]
  rw [e]; exact take_num_cut n j h hj
theorem text_split (s x : ByteArray) : text s ++ x = num s.size ++ (s ++ x) := by
  unfold text; rw [ByteArray.append_assoc]
theorem textL_text (s x : ByteArray) (most : Int) (h : (s.size : Int) ≤ most) (hs : s.size < 281474976710656) : textL (text s ++ x) most = .ok s x := by
  have e := take_num_bytes s.size hs (s ++ x)
  rw [← text_split] at e
  unfold textL
  rw [e]
  simp only
  have hz : (text s ++ x).size = (num s.size).size + (s.size + x.size) := by
    rw [text_split]; simp
  rw [if_neg (by omega), if_neg (by omega), text_split]
  have h1 : (num s.size ++ (s ++ x)).extract (num s.size).size ((num s.size).size + s.size) = s := by
    have := ByteArray.extract_append_size_add (a := num s.size) (b := s ++ x) (i := 0) (j := s.size)
    rw [Nat.add_zero] at this
    rw [this]; exact ByteArray.extract_append_eq_left rfl
  have h2 : (num s.size ++ (s ++ x)).extract ((num s.size).size + s.size) (num s.size ++ (s ++ x)).size = x := by
    have h3 : (num s.size ++ (s ++ x)).size = (num s.size).size + (s ++ x).size := by simp
    rw [h3, ByteArray.extract_append_size_add]
    exact ByteArray.extract_append_eq_right rfl (by simp)
  rw [h1, h2]
theorem textL_cut (s : ByteArray) (j : Nat) (most : Int) (h : (s.size : Int) ≤ most) (hs : s.size < 281474976710656) (hj : j < (text s).size) : textL ((text s).extract 0 j) most = .err 11 := by
  rw [text_size] at hj
  by_cases hp : j < (num s.size).size
  · have e1 : (text s).extract 0 j = (num s.size).extract 0 j := by
      unfold text
      rw [ByteArray.extract_append]
      have : s.extract (0 - (num s.size).size) (j - (num s.size).size) = ByteArray.empty := by
        rw [ByteArray.extract_eq_empty_iff]; omega
      rw [this, ByteArray.append_empty]
    unfold textL
    rw [e1, take_num_short s.size j hs hp]
  · have e1 : (text s).extract 0 j = num s.size ++ s.extract 0 (j - (num s.size).size) := by
      unfold text
      rw [ByteArray.extract_append]
      have h1 : (num s.size).extract 0 j = num s.size := by
        have := ByteArray.extract_zero_max_size (a := num s.size) (i := j)
        rwa [Nat.max_eq_left (by omega)] at this
      rw [h1]; congr 2; omega
    have e := take_num_bytes s.size hs (s.extract 0 (j - (num s.size).size))
    rw [← e1] at e
    unfold textL
    rw [e]
    simp only
    have hz : ((text s).extract 0 j).size = j := by
      rw [ByteArray.size_extract, text_size]; omega
    rw [if_neg (by omega), hz, if_pos (by omega)]
end Go.Proofs.YtckbgggocmbbdaaDoor
