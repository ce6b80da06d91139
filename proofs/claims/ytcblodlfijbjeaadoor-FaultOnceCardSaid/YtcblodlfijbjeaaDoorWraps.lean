/-
  FaultWraps, walked.
-/
import Derived.Test.YtcblodlfijbjeaaDoorKnown
import Derived.Deep.RegionHeld3
import Derived.Deep.DeepCutAuto
namespace Go.Proofs.YtcblodlfijbjeaaDoor
open Go.RowKit Go.Extern.Stop Go.Stop Go.Extern

/-- What the loop holds of the error. -/
def ErrIs (w : World) (v : Value) (ws : List ByteArray) (c : Int) : Prop := (c = 0 ∧ v = .nilIface) ∨ (c ≠ 0 ∧ Chain w v ws c)
theorem ErrIs.later {w w' : World} {v : Value} {ws : List ByteArray} {c : Int} (h : ErrIs w v ws c) (hb : Below w.heap.size w w') : ErrIs w' v ws c := by
  rcases h with ⟨h1, h2⟩ | ⟨h1, h2⟩
  · exact .inl ⟨h1, h2⟩
  · exact .inr ⟨h1, h2.later hb⟩
def WrapTo (w : World) (ws : List ByteArray) (c : Int) (e : Ending) (w' : World) : Prop := ∃ v, e = .returned v ∧ ErrIs w' v ws c ∧ Below w.heap.size w w'
theorem new_any (c : Int) (s : ByteArray) (w : World) : Calls Tryd.prog 6 #[.int .i64 c, .string s] w (WrapTo w [s] c) := by
  by_cases hc : c = 0
  · subst hc
    refine (new_ok s w).mono ?_
    rintro e w' ⟨rfl, rfl⟩
    exact ⟨_, rfl, .inl ⟨rfl, rfl⟩, Below.refl _ _⟩
  · refine (new_some c (by simpa using hc) s w).mono ?_
    rintro e w' ⟨rfl, rfl⟩
    exact ⟨_, rfl, .inr ⟨hc, .fault _ _ _ _ _ (alloc_here _ _) (.num c)⟩, (Below.refl _ _).alloc (Nat.le_refl _) _⟩
theorem wrap_any (v : Value) (ws : List ByteArray) (c : Int) (s : ByteArray) (w : World) (h : ErrIs w v ws c) : Calls Tryd.prog 8 #[v, .string s] w (WrapTo w (s :: ws) c) := by
  rcases h with ⟨h1, rfl⟩ | ⟨h1, h2⟩
  · refine (wrap_nil s w).mono ?_
    rintro e w' ⟨rfl, rfl⟩
    exact ⟨_, rfl, .inl ⟨h1, rfl⟩, Below.refl _ _⟩
  · obtain ⟨t, x, rfl⟩ := h2.shape
    refine (wrap_some t x s w).mono ?_
    rintro e w' ⟨rfl, rfl⟩
    have hb : Below w.heap.size w (w.alloc (.cells #[.string s, .iface t x] 42)) := (Below.refl _ _).alloc (Nat.le_refl _) _
    exact ⟨_, rfl, .inr ⟨h1, .fault _ _ _ _ _ (alloc_here _ _) (h2.later hb)⟩, hb⟩

theorem wraps_few (code : Int) (a : Option Addr) (n cap : Nat) (w : World) (hg : Handle w) (hn : n = 0 ∨ 12 < n) :
    Calls Tryd.prog 3 #[.int .i64 code, .slice a n cap] w fun e w' => e = .returned (.bool true) ∧ Below w.heap.size w w' := by
  have C := known_true w hg
  clear hg
  rcases hn with rfl | hn
  · go_enter Tryd.func3, Tryd.ntmps3
    go_wp2_with (go_at_call 5; (with_reducible refine C.mono ?_); rintro e w1 ⟨rfl, hb⟩)
    go_ret
    exact ⟨rfl, hb⟩
  · go_enter Tryd.func3, Tryd.ntmps3
    go_wp2_with (go_at_call 5; (with_reducible refine C.mono ?_); rintro e w1 ⟨rfl, hb⟩)
    go_ret
    exact ⟨rfl, hb⟩

theorem chain_head {w : World} {v : Value} {ws : List ByteArray} {c : Int} (h : Chain w v ws c) (hl : 0 < ws.length) : ∃ b s r, v = .iface 40 (.pointer (some ⟨b, 0, none⟩)) ∧ ws = s :: r := by
  rcases h.parts with ⟨_, rfl⟩ | ⟨b, s, v', r, rfl, rfl, _, _⟩
  · simp at hl
  · exact ⟨b, s, r, rfl, rfl⟩
theorem errorIs (s : ByteArray) (v : Value) (ws : List ByteArray) (c : Int) (t u : ByteArray) (w : World) (hlen : ws.length ≤ 1000) (hch : Chain w v ws c) (hg : Handle w) (hi : ItoaIs w c t) (hu : errorWord ++ t = u) (ht : t.size ≤ 1000) (hsum : (textOf (s :: ws) u).size ≤ 140737488355328) :
    Calls Tryd.prog 59 #[.agg #[.string s, v]] w fun e w' => e = .returned (.string (textOf (s :: ws) u)) ∧ Below w.heap.size w w' := by
  subst hu
  exact error_any s v ws c t w hlen hch hg hi ht hsum
theorem isCode_not (v : Value) (ws : List ByteArray) (c d : Int) (w : World) (hd : (c == d) = false) (hch : Chain w v ws c) (hg : Handle w) : Calls Tryd.prog 12 #[v, .int .i64 d] w fun e w' => e = .returned (.bool false) ∧ Below w.heap.size w w' := by
  refine (isCode_any v ws c d w hch hg).mono ?_
  rintro e w' ⟨rfl, hb⟩
  exact ⟨by rw [hd], hb⟩
theorem errnoIs (c : Int) (t u : ByteArray) (w : World) (hu : errorWord ++ t = u) (h : ItoaIs w c t) (ht : t.size ≤ 1000) : Calls Tryd.prog 7 #[.int .i64 c] w fun e w' => e = .returned (.string u) ∧ Below w.heap.size w w' := by
  subst hu
  exact errno_any c t w h ht
theorem itoa_short (c : Int) (h0 : -9223372036854775808 ≤ c) (h1 : c ≤ 9223372036854775807) : (⟨(Lib.itoa c).toArray⟩ : ByteArray).size ≤ 30 := by
  have key : ∀ u : Nat, u < 18446744073709551616 → (Lib.decDigits u).length ≤ 21 := fun u hu => by
    rcases Nat.eq_zero_or_pos u with rfl | h
    · decide +kernel
    · rw [Lib.decDigits_length]
      have := Lib.numDigits_eq u h hu
      split at this <;> omega
  have e : (⟨(Lib.itoa c).toArray⟩ : ByteArray).size = (Lib.itoa c).length := by simp [ByteArray.size]
  rw [e]
  by_cases hc : 0 ≤ c
  · obtain ⟨u, rfl⟩ : ∃ u : Nat, c = u := ⟨c.toNat, by omega⟩
    rw [Lib.itoa_nonneg]
    have := key u (by omega)
    omega
  · obtain ⟨u, rfl⟩ : ∃ u : Nat, c = -(u : Int) := ⟨c.natAbs, by omega⟩
    rw [Lib.itoa_neg u (by omega)]
    have := key u (by omega)
    simp; omega

/-- What the loop holds when k wheres are behind it. -/
structure At (w : World) (xs : List ByteArray) (n : Nat) (code : Int) (u : ByteArray) (k : Nat) (fe tx wv iv : Value) (wr : World) : Prop where
  p1 : 1 ≤ k
  p2 : k ≤ n
  p3 : iv = .int .i64 (k : Int)
  p4 : ErrIs wr fe (xs.take k).reverse code
  p5 : tx = .string (textOf (xs.take k).reverse u)
  p6 : wr.ownsRow w.heap.size 9 1 wv k ((xs.take k).reverse.map .string)
  p7 : Below w.heap.size w wr
  p8 : (textOf (xs.take k).reverse u).size ≤ 140737488351300 + 50 * k

theorem take_rev {xs : List ByteArray} {k : Nat} {x : ByteArray} (h : xs[k]? = some x) : (xs.take (k + 1)).reverse = x :: (xs.take k).reverse := by
  obtain ⟨hlt, rfl⟩ := List.getElem?_eq_some_iff.1 h
  rw [List.take_succ_eq_append_getElem hlt, List.reverse_append]; rfl

set_option maxRecDepth 100000 in
set_option maxHeartbeats 4000000 in
theorem wraps_many (code : Int) (b off n cap : Nat) (xs : List ByteArray) (w : World) (h0 : -9223372036854775808 ≤ code) (h1 : code ≤ 9223372036854775807) (hxs : xs.length = n) (hn1 : 1 ≤ n) (hn2 : n ≤ 12)
    (hcell : ∀ (j : Nat) (x : ByteArray), xs[j]? = some x → w.cell? ⟨b, off + j, none⟩ = some (.string x)) (hsize : ∀ x ∈ xs, x.size ≤ 140737488351232) (hg : Handle w) (ht : Lib.TabIs Tryd.prog w "internal/strconv.uint64pow10" .u64 Lib.pow10Tab) :
    Calls Tryd.prog 3 #[.int .i64 code, .slice (some ⟨b, off, none⟩) n cap] w fun e w' => e = .returned (.bool true) ∧ Below w.heap.size w w' := by
  have C := known_true w hg
  obtain ⟨x0, hx0⟩ : ∃ x, xs[0]? = some x := ⟨_, List.getElem?_eq_getElem (by omega)⟩
  have hc0 := hcell 0 x0 hx0
  have hbl : b < w.heap.size := lt_of_cell hc0
  obtain ⟨t, hI, hts⟩ : ∃ t, ItoaIs w code t ∧ t.size ≤ 30 := ⟨_, itoaIs_tab code h0 h1 w ht, itoa_short code h0 h1⟩
  obtain ⟨u, hu⟩ : ∃ u, errorWord ++ t = u := ⟨_, rfl⟩
  have hus : u.size ≤ 40 := by
    have h6 : errorWord.size = 6 := rfl
    rw [← hu, ByteArray.size_append, h6]; omega
  have HI := Lib.hid hI
  have HU := Lib.hid hu
  have hx0s := hsize x0 (List.mem_of_getElem? hx0)
  have HG := Lib.hid hg
  have HX := Lib.hid hxs
  have HX0 := Lib.hid hx0
  have HC := Lib.hid hcell
  have HS := Lib.hid hsize
  clear hI hu hg ht hxs hx0 hcell hsize
  go_enter Tryd.func3, Tryd.ntmps3
  go_wp2_with fail
  go_at_call 5
  ((with_reducible refine C.mono ?_); rintro e w1 ⟨rfl, hb⟩)
  have c0 : w1.cell? ⟨b, off, none⟩ = some (.string x0) := by rw [hb.cell hbl]; exact hc0
  have HB1 := Lib.hid hb
  clear hb hc0 C
  go_wp2_with fail
  go_at_call 6
  ((with_reducible refine (new_any code x0 _).mono ?_); rintro e w2 ⟨v, rfl, he, hb⟩)
  have HE := Lib.hid he
  have HB2 := Lib.hid (HB1.out.trans (hb.mono HB1.out.size))
  have c0' : w2.cell? ⟨b, off, none⟩ = some (.string x0) := by rw [hb.cell (Nat.lt_of_lt_of_le hbl HB1.out.size)]; exact c0
  clear he hb HB1 c0
  have hbl2 : b < w2.heap.size := Nat.lt_of_lt_of_le hbl HB2.out.size
  have i1 : (0 : Int) < (n : Int) := by omega
  have i2 : 0 < n := by omega
  have k1 : x0.size ≤ 9223372036854775805 := by omega
  have k2 : x0.size + 2 + u.size ≤ 9223372036854775807 := by omega
  have n1 : ¬ 9223372036854775805 < x0.size := by omega
  have n2 : ¬ 9223372036854775807 < x0.size + 2 + u.size := by omega
  have n3 : ¬ 9223372036854775807 < x0.size + 2 := by omega
  go_upto_region 7 with (fail)
  go_cut [7] (fun s7 wx => s7 = .string (x0 ++ ⟨#[58, 32]⟩ ++ u) ∧ Below w2.heap.size w2 wx)
  case first =>
    go_region_held3 (fun W => W.cell? ⟨b, off, none⟩ = some (.string x0))
      (first | go_keep | (rw [hb.cell (by simpa using hbl2)]; assumption))
      ((go_at_call 7; refine (errnoIs code t u _ HU.out (HI.out.later HB2.out.drew) (by omega)).mono ?_; rintro e w3 ⟨rfl, hb⟩))
    all_goals (go_wp2_with fail; go_meet; exact ⟨rfl, (Below.refl _ _).drew.trans hb⟩)
  case rest =>
    obtain ⟨rfl, hb⟩ := hcut
    have HB3 := Lib.hid (HB2.out.trans (hb.mono HB2.out.size))
    have HE3 := Lib.hid (HE.out.later hb)
    have c0 : wc.cell? ⟨b, off, none⟩ = some (.string x0) := by rw [hb.cell hbl2]; exact c0'
    clear hb c0' HE HB2 hbl2 k1 k2 n1 n2 n3
    obtain ⟨i0, hi0, hz0, hz1, hz2⟩ := info_parts Tryd.info9
    go_wp2_with fail
    go_loopg [6, 7, 8, 9] (n - 1) (fun gk fe tx wv iv wr => ∃ k, gk = n - k ∧ At w xs n code u k fe tx wv iv wr)
    case atStart =>
      have e1 : (xs.take 1).reverse = [x0] := by
        have := take_rev (k := 0) HX0.out
        simpa using this
      have e2 : textOf [x0] u = x0 ++ ⟨#[58, 32]⟩ ++ u := by rw [textOf_cons, textOf_nil]; rfl
      refine ⟨1, rfl, ⟨Nat.le_refl _, hn1, rfl, ?_, ?_, ?_, ?_, ?_⟩⟩
      · rw [e1]; exact HE3.out.later ((Below.refl _ _).alloc (Nat.le_refl _) _)
      · rw [e1, e2]
      · rw [e1]; exact World.ownsRow_lit wc #[.string x0] 1 HB3.out.size (by decide) rfl
      · exact HB3.out.alloc HB3.out.size _
      · rw [e1, textOf_size]; simp [lens]; omega
    case round =>
      obtain ⟨k, hk, A⟩ := hrel
      obtain ⟨a1, a2, rfl, a4, rfl, a6, a7, a8⟩ := A
      clear HE3 HB3
      obtain ⟨g, cap2, rfl, hgb, hgs⟩ := a6.form (by omega)
      have i3 : (1 : Int) ≤ (k : Int) := by omega
      have i4 : (k : Int) ≤ 12 := by omega
      have HE := Lib.hid a4
      have HR := Lib.hid a6
      have HB := Lib.hid a7
      have HK := Lib.hid hk
      have HT := Lib.hid a8
      have hbr : b < wr.heap.size := Nat.lt_of_lt_of_le hbl a7.size
      by_cases hlt : k < n
      · obtain ⟨x, hx⟩ : ∃ x, xs[k]? = some x := ⟨_, List.getElem?_eq_getElem (by rw [HX.out]; exact hlt)⟩
        have i5 : (k : Int) < (n : Int) := by omega
        have d0 : wr.cell? ⟨b, off + k, none⟩ = some (.string x) := by rw [a7.cell hbl]; exact HC.out k x hx
        obtain ⟨T, hT⟩ : ∃ T, textOf (xs.take k).reverse u = T := ⟨_, rfl⟩
        rw [hT] at a8
        rw [hT]
        have hTs : T.size ≤ 140737488352000 := by omega
        have HTT := Lib.hid hT
        have HXX := Lib.hid hx
        clear a4 a6 a7 a8 hk hT hx
        by_cases hxs : x.size ≤ 40
        · have j1 : (x.size : Int) ≤ 40 := by omega
          have k1 : x.size ≤ 9223372036854775805 := by omega
          have k2 : x.size + 2 + T.size ≤ 9223372036854775807 := by omega
          go_wp2_with fail
          go_at_call 8
          ((with_reducible refine (wrap_any _ _ code x _ HE.out).mono ?_); rintro e w4 ⟨v4, rfl, he, hb⟩)
          have HE4 := Lib.hid he
          have HR4 := Lib.hid (ownsRow_below HR.out hb)
          have d4 : w4.cell? ⟨b, off + k, none⟩ = some (.string x) := by rw [hb.cell hbr]; exact d0
          have hs4 : w.heap.size ≤ w4.heap.size := Nat.le_trans HB.out.size hb.size
          have HB4 := Lib.hid (HB.out.trans (hb.mono HB.out.size))
          clear he hb d0
          have hrl : (xs.take k).reverse.length = k := by simp [HX.out]; omega
          have hl1 : ((xs.take k).reverse.map Value.string).length = k * 1 := by rw [List.length_map, hrl, Nat.mul_one]
          have hl2 : ∀ u ∈ (xs.take k).reverse.map Value.string, u.oneCell' = true := fun u hu => by
            obtain ⟨_, _, rfl⟩ := List.mem_map.1 hu
            rfl
          have HL1 := Lib.hid hl1
          have HL2 := Lib.hid hl2
          clear hl1 hl2
          clear hrl
          have hnews : ∀ o j u, ((xs.take k).reverse.map Value.string)[j]? = some u → (w4.alloc o).cell? ((⟨g, 0, none⟩ : Addr).add j) = some u := fun o j u hu => (HR4.out.alloc o).cells rfl j u hu
          have HN := Lib.hid hnews
          clear hnews
          go_wp2_with (at_builtin; refine wpList_append_lies _ rfl (.tmp 67) (.tmp 68) 22 rfl w.heap.size 9 i0 _ 1 16 Tryd.underlying22 hi0 hz0 hz1 hz2 rfl (by decide) (.slice (some ⟨w4.heap.size, 0, none⟩) 1 1) 1 [.string x] rfl (World.ownsRow_lit w4 #[.string x] 1 hs4 (by decide) rfl) ⟨g, 0, none⟩ k cap2 ((xs.take k).reverse.map Value.string) rfl HL1.out (HN.out _) HL2.out (by omega) (by simp [maxLen]; omega) (by omega) (by simp; omega) (w4.heap.size + 1) (by simp) ?_; intro gg cap3 w5 hown5 hgrow hat hlt5)
          have hb5 : Below w4.heap.size w4 w5 := ((Below.refl _ _).alloc (Nat.le_refl _) _).grown hgrow (by simp) (fun q hq => by simp [Value.ownBlock] at hq; omega)
          have ek : 1 + k = k + 1 := by omega
          rw [ek] at hown5
          simp only [ek]
          go_roundg (n - (k + 1))
          case measure => have := HK.out; omega
          case rel =>
            refine ⟨k + 1, rfl, ⟨by omega, by omega, by go_num, ?_, ?_, ?_, ?_, ?_⟩⟩
            · rw [take_rev HXX.out]; exact HE4.out.later hb5
            · rw [take_rev HXX.out, textOf_cons, HTT.out]; rfl
            · rw [take_rev HXX.out]; exact hown5
            · exact HB4.out.trans (hb5.mono hs4)
            · have h8 := HT.out
              rw [take_rev HXX.out, textOf_size]
              rw [textOf_size] at h8
              simp only [lens, List.map_cons, List.sum_cons] at h8 ⊢
              omega
        · have j1 : 40 < (x.size : Int) := by omega
          go_wp2
          go_ret
          exact ⟨rfl, HB.out⟩
      · obtain rfl : k = n := by omega
        have i5 : ¬ (k : Int) < (k : Int) := by omega
        have hall : (xs.take k).reverse.length = k := by simp [HX.out]
        have hgr : Handle wr := HG.out.later a7
        have hir : ItoaIs wr code t := HI.out.later a7
        clear HT
        generalize (xs.take k).reverse = ws at a4 a6 a8 hall HE HR ⊢
        subst hall
        have hwl : ws.length ≤ 1000 := by omega
        have HGR := Lib.hid hgr
        have HIR := Lib.hid hir
        have H8 := Lib.hid a8
        clear a6 a7 a8 hk hgr hir
        rcases a4 with ⟨rfl, rfl⟩ | ⟨hne, hch⟩
        · go_wp2
          go_ret
          exact ⟨rfl, HB.out⟩
        · have e0 : (code == 0) = false := by simpa using hne
          have e1 : (code == wrap64 (code + 1)) = false := by
            have : ¬ (code = wrap64 (code + 1)) := by unfold wrap64; omega
            simpa using this
          have hal : Below wr.heap.size wr (wr.alloc (.cells #[.int .i64 0] 24)) := (Below.refl _ _).alloc (Nat.le_refl _) _
          have HCH := Lib.hid hch
          obtain ⟨tv, xv, rfl⟩ := hch.shape
          have C9 := As_num ⟨wr.heap.size, 0, none⟩ (.int .i64 0) tv xv ws code (wr.alloc (.cells #[.int .i64 0] 24)) (hch.later hal) (HGR.out.later hal) (by simp) (by simp)
          have E1 := Lib.hid e1
          have HNE := Lib.hid hne
          clear hch hal e1 hne
          go_wp2_with fail
          go_at_call 9
          ((with_reducible refine C9.mono ?_); rintro e w2 ⟨rfl, w1, hb, rfl⟩)
          have hc1 : w1.cell? ⟨wr.heap.size, 0, none⟩ = some (.int .i64 0) := by rw [hb.cell (by simp)]; simp
          have hc2 := World.cell?_setCell_same w1 ⟨wr.heap.size, 0, none⟩ (.int .i64 code) hc1
          have hb9 : Below wr.heap.size wr (w1.setCell ⟨wr.heap.size, 0, none⟩ (.int .i64 code)) := (((Below.refl _ _).alloc (Nat.le_refl _) _).trans (hb.mono (by simp))).setCell (by simp) _
          have H9 := Lib.hid hb9
          clear hb hb9 hc1
          generalize w1.setCell ⟨wr.heap.size, 0, none⟩ (.int .i64 code) = w9 at hc2 H9 ⊢
          go_wp2_with fail
          clear hc2
          go_at_call 10
          ((with_reducible refine (Is_num code _ ws code _ (HCH.out.later H9.out)).mono ?_); rintro e w10 ⟨rfl, hb⟩)
          have H10 := Lib.hid (H9.out.trans (hb.mono H9.out.size)); clear hb H9
          go_wp2_with fail
          go_at_call 11
          ((with_reducible refine (code_any _ ws code _ (HCH.out.later H10.out) (HGR.out.later H10.out)).mono ?_); rintro e w11 ⟨rfl, hb⟩)
          have H11 := Lib.hid (H10.out.trans (hb.mono H10.out.size)); clear hb H10
          go_wp2_with fail
          go_at_call 12
          ((with_reducible refine (isCode_any _ ws code _ _ (HCH.out.later H11.out) (HGR.out.later H11.out)).mono ?_); rintro e w12 ⟨rfl, hb⟩)
          have H12 := Lib.hid (H11.out.trans (hb.mono H11.out.size)); clear hb H11
          go_wp2_with fail
          go_at_call 12
          ((with_reducible refine (isCode_not _ ws code (wrap64 (code + 1)) _ E1.out (HCH.out.later H12.out) (HGR.out.later H12.out)).mono ?_); rintro e w13 ⟨rfl, hb⟩)
          have H13 := Lib.hid (H12.out.trans (hb.mono H12.out.size)); clear hb H12
          go_wp2_with fail
          go_at_call 14
          ((with_reducible refine (where_any _ ws code _ (by omega) (HCH.out.later H13.out) (HGR.out.later H13.out)).mono ?_); rintro e w14 ⟨sv, rfl, ho, hb⟩)
          obtain ⟨g4, cap4, rfl, hg4, hgl4⟩ := ho.form (by omega)
          have HO := Lib.hid ho
          have H14 := Lib.hid (H13.out.trans (hb.mono H13.out.size)); clear hb H13 ho
          go_wp2_with fail
          have hO : w14.ownsRow w13.heap.size 9 1 (.slice (some ⟨g4, 0, none⟩) ws.length cap4) ws.length (ws.map .string) := HO.out
          have hR : w14.ownsRow w.heap.size 9 1 (.slice (some ⟨g, 0, none⟩) ws.length cap2) ws.length (ws.map .string) := ownsRow_below HR.out H14.out
          go_at_call 13
          ((with_reducible refine (same_true w13.heap.size w.heap.size g4 g ws.length cap4 cap2 ws _ (by omega) hO hR).mono ?_); rintro e w15 ⟨rfl, hb⟩)
          have H15 := Lib.hid (H14.out.trans (hb.mono H14.out.size)); clear hb H14 hO hR
          obtain ⟨bq, sq, wq, hqe, hqs⟩ := chain_head (HCH.out.later H15.out) (by omega)
          obtain ⟨hqe1, hqe2⟩ : tv = 40 ∧ xv = .pointer (some ⟨bq, 0, none⟩) := by injection hqe with h1 h2; exact ⟨h1, h2⟩
          subst hqe1 hqe2 hqs
          obtain ⟨v1, hv, hc1⟩ := (HCH.out.later H15.out).head
          have mE := Tryd.methodError hv
          have nE := Tryd.nilError
          have HC1 := Lib.hid hc1
          clear hc1 hv hqe
          go_wp2_with fail
          go_at_call 59
          ((with_reducible refine (errorIs sq v1 wq code t u _ (by simp at hwl; omega) HC1.out (HGR.out.later H15.out) (HIR.out.later H15.out) HU.out (by omega) (by have := H8.out; omega)).mono ?_); rintro e w16 ⟨rfl, hb⟩)
          have H16 := Lib.hid (H15.out.trans (hb.mono H15.out.size)); clear hb H15 HC1
          go_wp2
          go_ret
          exact ⟨rfl, HB.out.trans (H16.out.mono HB.out.size)⟩
end Go.Proofs.YtcblodlfijbjeaaDoor
