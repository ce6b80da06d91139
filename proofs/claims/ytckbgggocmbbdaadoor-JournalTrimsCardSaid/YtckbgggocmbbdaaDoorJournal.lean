/-
  The calls of package journal: Open, Add, Sync, Trim, Len.
-/
import Derived.Test.YtckbgggocmbbdaaDoorAppTexts
import Derived.Test.YtckbgggocmbbdaaDoorRefWrap
import Derived.Deep.RegionHeld3
namespace Go.Proofs.YtckbgggocmbbdaaDoor
open Go.RowKit Go.Extern.Stop Go.Stop Go.Extern

/-- At block j lies a journal of the disk at d. -/
def JournalAt (j d : Nat) (w : World) : Prop := w.heap[j]? = some (.cells #[.pointer (some ⟨d, 0, none⟩)] 53 (0, 0))
theorem JournalAt.lt {j d : Nat} {w : World} (h : JournalAt j d w) : j < w.heap.size := (Array.getElem?_eq_some_iff.1 h).1
theorem JournalAt.later {j d : Nat} {w w' : World} (h : JournalAt j d w) (hb : Below w.heap.size w w') : JournalAt j d w' := by
  unfold JournalAt
  rw [hb.block j h.lt]; exact h
theorem JournalAt.keeps {base j d : Nat} {w w' : World} {all : ByteArray} {loose : Nat} (h : JournalAt j d w) (hd : DiskIs base d w all loose) (hk : Keeps base d w w') : JournalAt j d w' := by
  refine hk.far j _ _ _ h ?_ (by decide)
  rintro rfl
  obtain ⟨cs, hb⟩ := hd.box
  have h' : w.heap[j]? = _ := h
  rw [hb] at h'
  simp at h'
theorem JournalAt.grown {b j d : Nat} {w w' : World} {v : Value} {xs : List ByteArray} (h : JournalAt j d w) (k : OwnTexts b w v xs) (hg : w.grownBy w' v.ownBlock) : JournalAt j d w' := block_kept k h (by decide) hg
theorem JournalAt.cell {j d : Nat} {w : World} (h : JournalAt j d w) : w.cell? ⟨j, 0, none⟩ = some (.pointer (some ⟨d, 0, none⟩)) := by
  have h' : w.heap[j]? = _ := h
  simp [World.cell?, h']

/-! ### what the calls ask -/
theorem By_nil (s : ByteArray) (w : World) : Calls Tryd.prog 22 #[.string s, .nilIface] w fun e w' => e = .returned .nilIface ∧ w = w' := by
  go_enter Tryd.func22, Tryd.ntmps22
  go_wp2
  go_ret
  exact ⟨rfl, rfl⟩
theorem Tryd.eqNilNum (v : Value) (w : World) : (binOp .eql 29 .nilIface (.iface 55 v)).run Tryd.prog w = .ok (.bool false) w := by kernel_rfl
set_option maxRecDepth 100000 in
theorem Is_nil (c : Int) (w : World) : Calls Tryd.prog 25 #[.nilIface, .iface 55 (.int .i64 c)] w fun e w' => e = .returned (.bool false) ∧ w = w' := by
  have e0 := Tryd.eqNilNum
  go_enter Tryd.func25, Tryd.ntmps25
  go_wp2
  go_ret
  exact ⟨rfl, rfl⟩
theorem to_slice (s : ByteArray) (j : Nat) (jv : Int) (hj : jv = j) (h2 : j ≤ s.size) (W : World) :
    (Instr.slice 9 (.string s) none (some (.int .i64 jv)) none).run Tryd.prog W = .ok (.string (s.extract 0 j)) W := by
  subst hj
  have := run_slice_string_h (P := Tryd.prog) W 9 s Tryd.underlying9 .i64 (j : Int) (by omega) (by omega)
  simpa using this
theorem front_left (p q : ByteArray) : (p ++ q).extract 0 p.size = p := by
  rw [ext_left (Nat.le_refl _)]; exact ext_all (Nat.le_refl _)
theorem framesOf_take_le (ts : List ByteArray) (i : Nat) : (framesOf (ts.take i)).size ≤ (framesOf ts).size := by
  conv => rhs; rw [← List.take_append_drop i ts, framesOf_append, ByteArray.size_append]
  omega
theorem framed_in {ts : List ByteArray} {t : ByteArray} (h : t ∈ ts) : (framed t).size ≤ (framesOf ts).size := by
  induction ts with
  | nil => cases h
  | cons x r ih =>
    simp only [framesOf, ByteArray.size_append]
    rcases List.mem_cons.1 h with rfl | h
    · omega
    · have := ih h; omega
theorem size_framed (s : ByteArray) : s.size ≤ (framed s).size := by
  rw [framed_size, text_size]; omega
theorem framesOf_len (ts : List ByteArray) : ts.length ≤ (framesOf ts).size := by
  induction ts with
  | nil => simp
  | cons x r ih => simp only [framesOf, ByteArray.size_append, List.length_cons, framed_size]; omega
theorem few_of {ts : List ByteArray} (h : (framesOf ts).size ≤ 200000) : ts.length ≤ 1000000 ∧ ∀ t ∈ ts, t.size ≤ 200000 :=
  ⟨by have := framesOf_len ts; omega, fun t ht => by have := framed_in ht; have := size_framed t; omega⟩

/-! ### Open -/
set_option maxRecDepth 100000 in
set_option maxHeartbeats 4000000 in
/-- Open, where nothing is behind the frames. -/
theorem open_whole {base d : Nat} {w : World} {ts : List ByteArray} {loose : Nat} {a : Addr} (h : DiskIs base d w (framesOf ts) loose) (hg : Handle w) (ho : OnErr w a) (hbase : base ≤ w.heap.size) :
    Calls Tryd.prog 9 #[.pointer (some ⟨d, 0, none⟩)] w fun e w' => ∃ j sv, e = .returned (.tuple #[.pointer (some ⟨j, 0, none⟩), sv, .nilIface]) ∧ JournalAt j d w' ∧ OwnTexts base w' sv ts ∧ DiskIs base d w' (framesOf ts) loose ∧ Below w.heap.size w w' := by
  have hm := h.most
  obtain ⟨f1, f2⟩ := few_of hm
  have B := bytes_any h
  have C := all_own _ ts _ a w (frames_whole ts f2) f1 (by omega) hg ho
  have HD := Lib.hid h
  clear h f2 hg ho
  generalize framesOf ts = F at B C HD hm
  have n1 : ¬ (F.size : Int) < (F.size : Int) := by omega
  go_enter Tryd.func9, Tryd.ntmps9
  go_wp2_with fail
  go_at_call 17
  ((with_reducible refine B.mono ?_); rintro e w1 ⟨rfl, rfl⟩)
  go_wp2_with fail
  go_at_call 20
  ((with_reducible refine C.mono ?_); rintro e w1 ⟨sv, rfl, hr, hb⟩)
  have HR := Lib.hid (row_low hbase hr)
  have HB := Lib.hid hb
  clear hr hb B C
  go_wp2
  go_ret3
  have hb2 : Below w1.heap.size w1 (w1.alloc (.cells #[.pointer (some ⟨d, 0, none⟩)] 53)) := (Below.refl _ _).alloc (Nat.le_refl _) _
  exact ⟨_, _, rfl, alloc_here _ _, row_below HR.out hb2, (HD.out.later HB.out).later hb2, HB.out.trans (hb2.mono HB.out.size)⟩

set_option maxRecDepth 100000 in
set_option maxHeartbeats 4000000 in
/-- Open, where something is behind them: it is cut off. -/
theorem open_torn {base d : Nat} {w : World} {ts : List ByteArray} {q : ByteArray} {loose : Nat} {c : Int} {a : Addr} (h : DiskIs base d w (framesOf ts ++ q) loose) (hq : 0 < q.size) (hf : openL (framesOf ts ++ q) (framesOf ts).size = .err c) (hg : Handle w) (ho : OnErr w a) (hbase : base ≤ w.heap.size) :
    Calls Tryd.prog 9 #[.pointer (some ⟨d, 0, none⟩)] w fun e w' => ∃ j sv, e = .returned (.tuple #[.pointer (some ⟨j, 0, none⟩), sv, .nilIface]) ∧ JournalAt j d w' ∧ OwnTexts base w' sv ts ∧ DiskIs base d w' (framesOf ts) 0 ∧ Keeps base d w w' := by
  have hm := h.most
  rw [ByteArray.size_append] at hm
  obtain ⟨f1, f2⟩ := few_of (ts := ts) (by omega)
  have B := bytes_any h
  have C := all_own _ ts _ a w (frames_then ts q c f2 hf) f1 (by rw [ByteArray.size_append]; omega) hg ho
  have S := to_slice (framesOf ts ++ q) (framesOf ts).size _ rfl (by rw [ByteArray.size_append]; omega)
  rw [front_left] at S
  have HD := Lib.hid h
  have hsz : (framesOf ts ++ q).size = (framesOf ts).size + q.size := ByteArray.size_append
  clear h f2 hg ho hf
  generalize framesOf ts ++ q = A at B C HD S hsz
  generalize framesOf ts = F at C HD S hsz hm
  have n1 : (F.size : Int) < (A.size : Int) := by omega
  go_enter Tryd.func9, Tryd.ntmps9
  go_wp2_with fail
  go_at_call 17
  ((with_reducible refine B.mono ?_); rintro e w1 ⟨rfl, rfl⟩)
  go_wp2_with fail
  go_at_call 20
  ((with_reducible refine C.mono ?_); rintro e w1 ⟨sv, rfl, hr, hb⟩)
  have HR := Lib.hid (row_low hbase hr)
  have HK := Lib.hid (Keeps.of_below (d := d) hb hbase)
  have HD1 := Lib.hid (HD.out.later hb)
  clear hr hb B C
  go_wp2_with fail
  go_at_call 21
  refine (replace_ok HD1.out (b := F) (by omega)).mono ?_
  rintro e w2 ⟨rfl, hD, hK⟩
  have HR2 := Lib.hid (OwnTexts.beside (xs := ts) HR.out HD1.out hK)
  have HK2 := Lib.hid (HK.out.trans hK)
  have HD2 := Lib.hid hD
  clear hD hK
  go_wp2
  go_ret3
  have hb2 : Below w2.heap.size w2 (w2.alloc (.cells #[.pointer (some ⟨d, 0, none⟩)] 53)) := (Below.refl _ _).alloc (Nat.le_refl _) _
  exact ⟨_, _, rfl, alloc_here _ _, HR2.out.later hb2, HD2.out.later hb2, HK2.out.trans (Keeps.of_below hb2 (Nat.le_trans hbase HK2.out.size))⟩

/-! ### Add, Sync, Len -/
set_option maxRecDepth 100000 in
set_option maxHeartbeats 4000000 in
/-- Add, where there is room. -/
theorem add_ok {base d j : Nat} {w : World} {all s : ByteArray} {loose : Nat} (h : DiskIs base d w all loose) (hj : JournalAt j d w) (hbase : base ≤ w.heap.size) (hm : all.size + (framed s).size ≤ 200000) :
    Calls Tryd.prog 10 #[.pointer (some ⟨j, 0, none⟩), .string s] w fun e w' => e = .returned .nilIface ∧ DiskIs base d w' (all ++ framed s) (loose + (framed s).size) ∧ Keeps base d w w' ∧ JournalAt j d w' := by
  have C := fun W => wrapF_any s W (by have := size_framed s; omega)
  generalize framed s = t at C hm
  have c0 := hj.cell
  have HJ := Lib.hid hj
  have HD := Lib.hid h
  clear hj h
  go_enter Tryd.func10, Tryd.ntmps10
  go_wp2_with fail
  go_region_held3 (fun W => W.cell? ⟨j, 0, none⟩ = some (.pointer (some ⟨d, 0, none⟩)))
    (first | go_keep | assumption)
    (first
      | (go_at_call 23; (with_reducible refine (C _).mono ?_); rintro e w1 ⟨rfl, hb⟩; have q1 : w1.cell? ⟨j, 0, none⟩ = some (.pointer (some ⟨d, 0, none⟩)) := ((HJ.out.later (Below.refl _ _).drew).later hb).cell)
      | (go_at_call 19; (with_reducible refine (append_ok ((HD.out.later (Below.refl _ _).drew).later hb) hm).mono ?_); rintro e w2 ⟨rfl, hD, hK⟩; have q2 : w2.cell? ⟨j, 0, none⟩ = some (.pointer (some ⟨d, 0, none⟩)) := (((HJ.out.later (Below.refl _ _).drew).later hb).keeps ((HD.out.later (Below.refl _ _).drew).later hb) hK).cell)
      | (go_at_call 22; (with_reducible refine (By_nil _ _).mono ?_); rintro e w3 ⟨rfl, rfl⟩))
  all_goals
    go_wp2_with fail
    go_ret
    refine ⟨rfl, hD, ?_, ((HJ.out.later (Below.refl _ _).drew).later hb).keeps ((HD.out.later (Below.refl _ _).drew).later hb) hK⟩
    exact (Keeps.of_below ((Below.refl _ _).drew.trans hb) hbase).trans hK

set_option maxHeartbeats 4000000 in
/-- Sync. -/
theorem jsync_any {base d j : Nat} {w : World} {all : ByteArray} {loose : Nat} (h : DiskIs base d w all loose) (hj : JournalAt j d w) :
    Calls Tryd.prog 11 #[.pointer (some ⟨j, 0, none⟩)] w fun e w' => e = .returned (.tuple #[]) ∧ DiskIs base d w' all 0 ∧ Keeps base d w w' ∧ JournalAt j d w' := by
  have c0 := hj.cell
  have C := sync_any h
  have HJ := Lib.hid hj
  have HD := Lib.hid h
  clear hj h
  go_enter Tryd.func11, Tryd.ntmps11
  go_wp2_with fail
  go_at_call 24
  ((with_reducible refine C.mono ?_); rintro e w1 ⟨rfl, hD, hK⟩)
  go_wp2
  go_end0
  exact ⟨rfl, hD, hK, HJ.out.keeps HD.out hK⟩

set_option maxHeartbeats 4000000 in
/-- Len. -/
theorem len_any {base d j : Nat} {w : World} {ts : List ByteArray} {loose : Nat} {a : Addr} (h : DiskIs base d w (framesOf ts) loose) (hj : JournalAt j d w) (hg : Handle w) (ho : OnErr w a) :
    Calls Tryd.prog 16 #[.pointer (some ⟨j, 0, none⟩)] w fun e w' => e = .returned (.int .i64 ts.length) ∧ Below w.heap.size w w' := by
  have hm := h.most
  obtain ⟨f1, f2⟩ := few_of hm
  have B := bytes_any h
  have C := all_own _ ts _ a w (frames_whole ts f2) f1 (by omega) hg ho
  have c0 := hj.cell
  clear h f2 hg ho hj
  generalize framesOf ts = F at B C hm
  go_enter Tryd.func16, Tryd.ntmps16
  go_wp2_with fail
  go_at_call 17
  ((with_reducible refine B.mono ?_); rintro e w1 ⟨rfl, rfl⟩)
  go_wp2_with fail
  go_at_call 20
  ((with_reducible refine C.mono ?_); rintro e w1 ⟨sv, rfl, hr, hb⟩)
  obtain ⟨p, c, hs⟩ := OwnTexts.shape (xs := ts) hr
  subst hs
  clear hr B C
  go_wp2
  go_ret
  exact ⟨rfl, hb⟩

/-! ### Trim -/
/-- What the loop holds when i records lie on the disk beside. -/
structure TrimAt (xs : List ByteArray) (w w1 : World) (k : Nat) (iv : Value) (wr : World) (i L : Nat) : Prop where
  p1 : iv = .int .i64 i
  p2 : i + k = xs.length
  p3 : DiskIs w.heap.size w.heap.size wr (framesOf (xs.take i)) L
  p4 : Keeps w.heap.size w.heap.size w1 wr

set_option maxRecDepth 100000 in
set_option maxHeartbeats 8000000 in
/-- Trim, where there is room. -/
theorem trim_ok {base d j : Nat} {w : World} {all : ByteArray} {loose : Nat} {v : Value} {xs : List ByteArray} (h : DiskIs base d w all loose) (hj : JournalAt j d w) (hbase : base ≤ w.heap.size) (ht : Texts w v xs) (hm : (framesOf xs).size ≤ 200000) :
    Calls Tryd.prog 13 #[.pointer (some ⟨j, 0, none⟩), v] w fun e w' => e = .returned .nilIface ∧ DiskIs base d w' (framesOf xs) 0 ∧ Keeps base d w w' ∧ JournalAt j d w' := by
  obtain ⟨p, c, rfl, ht⟩ := ht
  obtain ⟨f1, f2⟩ := few_of hm
  have HF := Lib.hid f2
  have HT := Lib.hid ht
  have HJ := Lib.hid hj
  have HD := Lib.hid h
  obtain ⟨l, hl⟩ : ∃ l, l = xs.length := ⟨_, rfl⟩
  rw [← hl] at f1
  have HL := Lib.hid hl
  have hN := newDisk w.heap.size w (Nat.le_refl _)
  have hB1 : Below w.heap.size w (w.alloc (.cells #[.slice none 0 0, .int .i64 0] 48)) := (Below.refl _ _).alloc (Nat.le_refl _) _
  have HN := Lib.hid hN
  have HB1 := Lib.hid hB1
  clear f2 ht hj h hN hB1
  rw [← hl]
  clear hl
  go_enter Tryd.func13, Tryd.ntmps13
  go_wp2_with fail
  go_at_call 8
  refine (diskNew_any _).mono ?_
  rintro e w1 ⟨rfl, rfl⟩
  generalize w.alloc (.cells #[.slice none 0 0, .int .i64 0] 48) = w1 at HN HB1
  go_wp2_with fail
  go_loopg [12] l (fun k iv wr => ∃ i L, TrimAt xs w w1 k iv wr i L)
  case atStart => exact ⟨0, 0, rfl, by rw [Nat.zero_add]; exact HL.out, HN.out, Keeps.refl _ _ _⟩
  case round =>
    obtain ⟨i, L, rfl, h2, h3, h4⟩ := hrel
    have H2 := Lib.hid h2
    have H3 := Lib.hid h3
    have H4 := Lib.hid h4
    have HBW := Lib.hid (HB1.out.trans h4.below)
    have hin : i ≤ l := by have := HL.out; omega
    clear h2 h3 h4
    by_cases hlt : i < l
    · have i5 : (i : Int) < (l : Int) := by omega
      obtain ⟨x, hx⟩ : ∃ x, xs[i]? = some x := ⟨_, List.getElem?_eq_getElem (by rw [← HL.out]; exact hlt)⟩
      obtain ⟨sb, so, hp, hc⟩ := HT.out i x hx
      subst hp
      have ct : wr.cell? ⟨sb, so + i, none⟩ = some (.string x) := by rw [HBW.out.cell (lt_of_cell hc)]; exact hc
      have hsn := framesOf_snoc hx
      have hle := framesOf_take_le xs (i + 1)
      rw [hsn, ByteArray.size_append] at hle
      have CT := wrapF_any x wr (by have := HF.out x (List.mem_of_getElem? hx); omega)
      have HS := Lib.hid hsn
      clear hc hx hsn
      generalize framed x = t at CT hle HS
      go_wp2_with fail
      go_at_call 23
      ((with_reducible refine CT.mono ?_); rintro e w2 ⟨rfl, hb⟩)
      have HD2 := Lib.hid (H3.out.later hb)
      have HK2 := Lib.hid (H4.out.trans (Keeps.of_below hb HBW.out.size))
      clear hb CT ct
      go_wp2_with fail
      go_at_call 19
      refine (append_ok (b := t) HD2.out (by omega)).mono ?_
      rintro e w3 ⟨rfl, hD, hK⟩
      have HD3 := Lib.hid hD
      have HK3 := Lib.hid (HK2.out.trans hK)
      clear hD hK
      go_wp2_with fail
      go_at_call 25
      refine (Is_nil _ _).mono ?_
      rintro e w4 ⟨rfl, rfl⟩
      go_wp2
      go_roundg (gk - 1)
      case measure => have := H2.out; have := HL.out; omega
      case rel =>
        refine ⟨i + 1, L + t.size, by go_num, ?_, ?_, HK3.out⟩
        · have := H2.out; have := HL.out; omega
        · rw [HS.out]; exact HD3.out
    · obtain rfl : i = l := by omega
      have i5 : ¬ (i : Int) < (i : Int) := by omega
      have hD1 : DiskIs w.heap.size w.heap.size wr (framesOf xs) L := by
        have := H3.out
        rw [HL.out, List.take_length] at this
        exact this
      have H1 := Lib.hid hD1
      have c0 := (HJ.out.later HBW.out).cell
      have hDD := HD.out.later HBW.out
      have R := replace_ok hDD hm
      have hJJ := HJ.out.later HBW.out
      have HJJ := Lib.hid hJJ
      have HDD := Lib.hid hDD
      clear hD1 hDD hJJ
      obtain ⟨F, hF⟩ : ∃ F, framesOf xs = F := ⟨_, rfl⟩
      rw [hF] at H1 R hm
      have HE := Lib.hid hF
      clear hF
      go_wp2_with fail
      go_region_held3 (fun W => W.cell? ⟨j, 0, none⟩ = some (.pointer (some ⟨d, 0, none⟩)))
        (first | go_keep | assumption)
        (first
          | (go_at_call 17; (with_reducible refine (bytes_any (H1.out.later (Below.refl _ _).drew)).mono ?_); rintro e w2 ⟨rfl, rfl⟩)
          | (go_at_call 21; (with_reducible refine (replace_ok (HDD.out.later (Below.refl _ _).drew) hm).mono ?_); rintro e w2 ⟨rfl, hD, hK⟩; have q2 : w2.cell? ⟨j, 0, none⟩ = some (.pointer (some ⟨d, 0, none⟩)) := ((HJJ.out.later (Below.refl _ _).drew).keeps (HDD.out.later (Below.refl _ _).drew) hK).cell)
          | (go_at_call 22; (with_reducible refine (By_nil _ _).mono ?_); rintro e w3 ⟨rfl, rfl⟩))
      all_goals
        go_wp2_with fail
        go_ret
        refine ⟨rfl, by rw [HE.out]; exact hD, ?_, (HJJ.out.later (Below.refl _ _).drew).keeps (HDD.out.later (Below.refl _ _).drew) hK⟩
        exact (Keeps.of_below (HBW.out.trans (Below.refl _ _).drew) hbase).trans hK
end Go.Proofs.YtckbgggocmbbdaaDoor
