/-
  pack.Num: the bytes of a number; pack.Text, pack.Flag.
-/
import Derived.Test.YtckbgggocmbbdaaDoorErrs
import Derived.Test.YtckbgggocmbbdaaDoorPackMath
import Derived.Deep.AppendLies
import Derived.OwnWalk
import Derived.KernelRfl
namespace Go.Proofs.YtckbgggocmbbdaaDoor
open Go.RowKit Go.Extern.Stop Go.Stop Go.Extern

theorem Tryd.infoU8 : (Tryd.prog.info? 5).map (fun i => (i.zero, i.size, i.bytes)) = some (some (.int .u8 0), 1, 1) := by kernel_rfl
def byteV (b : UInt8) : Value := .int .u8 (b.toNat : Int)
/-- A row of the call's own that holds these bytes. -/
def Holds (base : Nat) (w : World) (v : Value) (l : List UInt8) : Prop := w.ownsRow base 5 1 v l.length (l.map byteV)

theorem map_snoc (l : List UInt8) (b : UInt8) (v : Value) (h : v = byteV b) : l.map byteV ++ [v] = (l ++ [b]).map byteV := by
  subst h; simp
theorem conv_own {base g n cap : Nat} {l : List UInt8} {w : World} (h : w.ownsRow base 5 1 (.slice (some ⟨g, 0, none⟩) n cap) n (l.map byteV)) : (convert 46 9 (.slice (some ⟨g, 0, none⟩) n cap)).run Tryd.prog w = .ok (.string ⟨l.toArray⟩) w := by
  have hl : l.length = n := by have := h.1; simpa using this
  subst hl
  refine run_convert_bytes_back (P := Tryd.prog) w 46 9 5 ⟨g, 0, none⟩ cap l Tryd.underlying46 Tryd.underlying5 Tryd.underlying9 fun j hj => ?_
  exact h.cells (g := g) rfl j (byteV l[j]) (by simp [hj])
theorem byte_more (m : Nat) : Value.int .u8 ((m : Int) % 64 + 64) = byteV (UInt8.ofNat (64 + m % 64)) := by
  unfold byteV; rw [toNat_small (by omega)]; congr 1; omega
theorem byte_last (m : Nat) (h : m < 64) : Value.int .u8 (m : Int) = byteV (UInt8.ofNat m) := by
  unfold byteV; rw [toNat_small (by omega)]

/-- What the loop holds. -/
structure NumAt (w : World) (n : Nat) (k : Nat) (mv bv : Value) (wr : World) (m : Nat) (done : List UInt8) : Prop where
  p1 : mv = .int .i64 m
  p2 : numL n = done ++ sixes k m
  p3 : m < 64 ^ (k + 1)
  p4 : m ≤ 9223372036854775807
  p5 : done.length + k ≤ 10
  p6 : Holds w.heap.size wr bv done
  p7 : Below w.heap.size w wr

set_option maxRecDepth 100000 in
set_option maxHeartbeats 4000000 in
theorem num_any (n : Nat) (w : World) (hn : n ≤ 9223372036854775807) :
    Calls Tryd.prog 42 #[.int .i64 n] w fun e w' => e = .returned (.string (num n)) ∧ Below w.heap.size w w' := by
  obtain ⟨i0, hi0, hz0, hz1, hz2⟩ := info_parts Tryd.infoU8
  have n0 : (0 : Int) ≤ (n : Int) := by omega
  go_enter Tryd.func42, Tryd.ntmps42
  go_wp2
  go_loopg [0, 3] 10 (fun k mv bv wr => ∃ m done, NumAt w n k mv bv wr m done)
  case atStart => 
    refine ⟨n, [], rfl, rfl, ?_, hn, by simp, World.ownsRow_nil _ _ _ _, Below.refl _ _⟩
    have : (64 : Nat) ^ (10 + 1) = 73786976294838206464 := rfl
    omega
  case round =>
    obtain ⟨m, done, rfl, h2, h3, h4, h5, h6, h7⟩ := hrel
    have H6 := Lib.hid h6
    have H2 := Lib.hid h2
    have H3 := Lib.hid h3
    have H7 := Lib.hid h7
    clear h6 h2 h3
    have hsz : w.heap.size ≤ wr.heap.size := h7.size
    clear h7
    by_cases hm : 64 ≤ m
    · have hdl : done.length ≤ 10 := by omega
      go_wp2_with (at_builtin; refine wpList_append_lies _ rfl (.tmp 10) (.tmp 15) 46 rfl w.heap.size 5 i0 _ 1 1 Tryd.underlying46 hi0 hz0 hz1 hz2 rfl (by decide) u3 done.length (done.map byteV) rfl (World.ownsRow.alloc H6.out _) ⟨wr.heap.size, 0, none⟩ 1 1 [.int .u8 ((m : Int) % 64 + 64)] rfl rfl (World.news_of_block (cs := #[.int .u8 ((m : Int) % 64 + 64)]) (t := 5) (fr := (0, 0)) (alloc_here wr _)) (by simp [Value.oneCell']) (by decide) (by simp [maxLen]; omega) (by omega) (by simp; omega) (wr.heap.size + 1) (by simp) ?_; intro gg cap w1 hown1 hgrow hat hlt)
      rw [map_snoc _ _ _ (byte_more m)] at hown1
      have hb1 : Below w.heap.size w w1 := (H7.out.alloc hsz _).grown hgrow (by simp; omega) (fun q hq => (World.ownsRow.lt H6.out q hq).1)
      obtain ⟨k', hk'⟩ : ∃ k', gk = k' + 1 := by
        rcases gk with _ | k'
        · have := H3.out; simp at this; omega
        · exact ⟨k', rfl⟩
      go_roundg (gk - 1)
      case measure => omega
      case rel =>
        subst hk'
        refine ⟨m / 64, done ++ [UInt8.ofNat (64 + m % 64)], by go_num, ?_, ?_, by omega, ?_, ?_, hb1⟩
        · rw [H2.out, sixes_more hm]; simp
        · have h := H3.out
          have p2 : (64 : Nat) ^ (k' + 1 + 1) = 64 * 64 ^ (k' + 1) := by rw [Nat.pow_succ, Nat.mul_comm]
          show m / 64 < 64 ^ (k' + 1)
          omega
        · simp; omega
        · unfold Holds
          rw [List.length_append]
          exact hown1
    · go_wp2_with (at_builtin; refine wpList_append_lies _ rfl (.tmp 17) (.tmp 20) 46 rfl w.heap.size 5 i0 _ 1 1 Tryd.underlying46 hi0 hz0 hz1 hz2 rfl (by decide) u3 done.length (done.map byteV) rfl (World.ownsRow.alloc H6.out _) ⟨wr.heap.size, 0, none⟩ 1 1 [.int .u8 (m : Int)] rfl rfl (World.news_of_block (cs := #[.int .u8 (m : Int)]) (t := 5) (fr := (0, 0)) (alloc_here wr _)) (by simp [Value.oneCell']) (by decide) (by simp [maxLen]; omega) (by omega) (by simp; omega) (wr.heap.size + 1) (by simp) ?_; intro gg cap w1 hown1 hgrow hat hlt; rw [map_snoc _ _ _ (byte_last m (by omega))] at hown1; have hcv := conv_own hown1; have HO1 := Lib.hid hown1; clear hown1)
      have hb1 : Below w.heap.size w w1 := (H7.out.alloc hsz _).grown hgrow (by simp; omega) (fun q hq => (World.ownsRow.lt H6.out q hq).1)
      have e1 : num n = ⟨(done ++ [UInt8.ofNat m]).toArray⟩ := by
        unfold num; rw [H2.out, sixes_small (by omega)]
      clear hcv
      go_ret
      exact ⟨by rw [e1]; rfl, hb1⟩

set_option maxRecDepth 100000 in
set_option maxHeartbeats 4000000 in
theorem num_neg (n : Int) (w : World) (hn : n < 0) :
    Calls Tryd.prog 42 #[.int .i64 n] w fun e w' => e = .returned (.string (num 0)) ∧ Below w.heap.size w w' := by
  obtain ⟨i0, hi0, hz0, hz1, hz2⟩ := info_parts Tryd.infoU8
  have n0 : ¬ 0 ≤ n := by omega
  have n1 : n ≤ 0 := by omega
  go_enter Tryd.func42, Tryd.ntmps42
  go_wp2
  refine wp_loop_rounds 1 ?_
  rw [rounds_succ]
  go_wp2_with (at_builtin; refine wpList_append_lies _ rfl (.tmp 17) (.tmp 20) 46 rfl w.heap.size 5 i0 _ 1 1 Tryd.underlying46 hi0 hz0 hz1 hz2 rfl (by decide) (.slice none 0 0) 0 [] rfl (World.ownsRow_nil _ _ _ _) ⟨w.heap.size, 0, none⟩ 1 1 [.int .u8 0] rfl rfl (World.news_of_block (cs := #[.int .u8 0]) (t := 5) (fr := (0, 0)) (alloc_here w _)) (by simp [Value.oneCell']) (by decide) (by simp [maxLen]) (by omega) (by simp) (w.heap.size + 1) (by simp) ?_; intro gg cap w1 hown1 hgrow hat hlt; rw [show ([] : List Value) ++ [.int .u8 0] = [(0 : UInt8)].map byteV from rfl] at hown1; have hcv := conv_own hown1; have HO1 := Lib.hid hown1; clear hown1)
  have hb1 : Below w.heap.size w w1 := ((Below.refl _ _).alloc (Nat.le_refl _) _).grown hgrow (by simp) (fun q hq => by simp [Value.ownBlock] at hq)
  clear hcv
  go_ret
  exact ⟨rfl, hb1⟩

theorem text_any (s : ByteArray) (w : World) (hs : s.size ≤ 4000000000000000000) :
    Calls Tryd.prog 31 #[.string s] w fun e w' => e = .returned (.string (text s)) ∧ Below w.heap.size w w' := by
  have h11 := num_size_le s.size
  have n1 : ¬ 9223372036854775807 < (num s.size).size + s.size := by omega
  have C := num_any s.size w (by omega)
  generalize hq : num s.size = q at C n1 h11
  have HQ := Lib.hid hq
  clear hq
  go_enter Tryd.func31, Tryd.ntmps31
  go_wp2_with (go_at_call 42; (with_reducible refine C.mono ?_); rintro e w' ⟨rfl, hb⟩)
  go_ret
  exact ⟨by unfold text; rw [HQ.out]; rfl, hb⟩
end Go.Proofs.YtckbgggocmbbdaaDoor
