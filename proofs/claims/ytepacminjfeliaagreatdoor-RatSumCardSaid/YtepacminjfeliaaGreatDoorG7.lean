/-
  A part of the proof: QSplit, RowNum, Ahead, Heads, HeadOne.
-/
import Derived.Test.YtepacminjfeliaaGreatDoorG6
import Derived.Shelf.RegionOpen
import Derived.Deep.RegionHeld3
import Derived.Test.YtepacminjfeliaaGreatDoorG2
import Derived.Laws.ResultCell
/-
  strings.Cut with a slash and rat's split: what a text is written of. The text has 1000000 bytes at most.
-/
namespace Go.Proofs.YtepacminjfeliaaGreatDoor
open Go.RowKit

/-- Both ways of Cut with a slash. -/
theorem slash_cases (T : ByteArray) : (Lib.indexByte T.data.toList 47 = -1 ∧ ∀ c ∈ by0 T, (c != 47) = true) ∨
    (∃ i : Nat, Lib.indexByte T.data.toList 47 = (i : Int) ∧ i < T.size ∧ (∀ c ∈ (by0 T).take i, (c != 47) = true) ∧ (by0 T)[i]? = some 47) := by
  have hge := Lib.indexByte_ge T.data.toList 47
  by_cases h : Lib.indexByte T.data.toList 47 = -1
  · refine .inl ⟨h, fun c hc => ?_⟩
    obtain ⟨k, hk⟩ := List.mem_iff_getElem?.1 hc
    have := Lib.indexByte_none h k
    simp only [bne_iff_ne, ne_eq]
    intro e
    subst e
    exact this hk
  · obtain ⟨i, hi⟩ : ∃ i : Nat, Lib.indexByte T.data.toList 47 = (i : Int) := ⟨(Lib.indexByte T.data.toList 47).toNat, by omega⟩
    obtain ⟨h1, h2⟩ := Lib.indexByte_some hi
    refine .inr ⟨i, hi, ?_, fun c hc => ?_, h1⟩
    · have := (List.getElem?_eq_some_iff.1 h1).1
      rw [← by0_len]
      exact this
    · obtain ⟨k, hk⟩ := List.mem_iff_getElem?.1 hc
      rw [List.getElem?_take] at hk
      split at hk
      · simp only [bne_iff_ne, ne_eq]
        intro e
        subst e
        exact h2 k (by assumption) hk
      · simp at hk

/-- What Cut answers at a slash. -/
def SlashCut (T : ByteArray) : Value :=
  if Lib.indexByte T.data.toList 47 = -1 then .tuple #[.string T, .string ⟨#[]⟩, .bool false]
  else .tuple #[.string (T.extract 0 (Lib.indexByte T.data.toList 47).toNat), .string (T.extract ((Lib.indexByte T.data.toList 47).toNat + 1) T.size), .bool true]

set_option maxRecDepth 100000 in
set_option maxHeartbeats 2000000 in
theorem liteCut_slash (T : ByteArray) (w : World) (hs : T.size ≤ 1000000) : Calls Tryz.prog 72 #[.string T, .string ⟨#[47]⟩] w fun e w' => e = .returned (SlashCut T) ∧ ∃ n, w' = w.drewN n := by
  have hp := index_slash T w
  rcases slash_cases T with ⟨h, -⟩ | ⟨i, h, hi, -⟩
  · unfold SlashCut
    rw [if_pos h]
    rw [h] at hp
    go_enter Tryz.func72, Tryz.ntmps72
    go_wp2_with fail
    refine hp.mono ?_
    rintro e w' ⟨rfl, rfl⟩
    go_wp2
    go_ret3
    exact ⟨rfl, 0, rfl⟩
  · unfold SlashCut
    rw [if_neg (by omega), h]
    rw [h] at hp
    simp only [Int.toNat_natCast]
    have c1 : (0 : Int) ≤ ↑i := by omega
    have c2 : (↑i : Int) ≤ ↑T.size := by omega
    have c3 : (0 : Int) ≤ ↑i + 1 := by omega
    have c4 : (↑i + 1 : Int) ≤ ↑T.size := by omega
    go_enter Tryz.func72, Tryz.ntmps72
    go_wp2_with fail
    refine hp.mono ?_
    rintro e w' ⟨rfl, rfl⟩
    go_wp2
    go_region
    go_wp2
    go_ret3
    exact ⟨rfl, 1, rfl⟩

set_option maxRecDepth 100000 in
set_option maxHeartbeats 2000000 in
theorem cut_slash (T : ByteArray) (w : World) (hs : T.size ≤ 1000000) : Calls Tryz.prog 51 #[.string T, .string ⟨#[47]⟩] w fun e w' => e = .returned (SlashCut T) ∧ ∃ n, w' = w.drewN n := by
  have hp := liteCut_slash T w hs
  have hv : ∃ a b c, SlashCut T = .tuple #[a, b, c] := by unfold SlashCut; split <;> exact ⟨_, _, _, rfl⟩
  obtain ⟨a, b, c, hv⟩ := hv
  rw [hv] at hp ⊢
  go_enter Tryz.func51, Tryz.ntmps51
  go_wp2_with fail
  refine hp.mono ?_
  rintro e w' ⟨rfl, n, rfl⟩
  go_wp2
  go_ret3
  exact ⟨rfl, n, rfl⟩

/-- What a text is written of, as split's value. -/
def partsV (s : ByteArray) : Value := .agg #[.bool (negB (by0 s)), .string (aheadS s), .bool (slash (by0 s)), .string (behindS s)]

theorem body_size (s : ByteArray) : (bodyS s).size ≤ s.size := by
  rw [← by0_len, bodyS_by0, ← by0_len]; exact body_le _

/-- What split is given by Cut: the parts. -/
theorem split_parts (s : ByteArray) : (SlashCut (bodyS s) = .tuple #[.string (aheadS s), .string ⟨#[]⟩, .bool false] ∧ slash (by0 s) = false ∧ behindS s = ⟨#[49]⟩) ∨
    (SlashCut (bodyS s) = .tuple #[.string (aheadS s), .string (behindS s), .bool true] ∧ slash (by0 s) = true) := by
  unfold SlashCut
  rcases slash_cases (bodyS s) with ⟨h, hn⟩ | ⟨i, h, hi, hn, h47⟩
  · have k := cutted_end (s := s) rfl rfl hn
    simp [Cutted] at k
    exact .inl ⟨by rw [if_pos h, ← k.1], k.2.2, k.2.1.symm⟩
  · have k := cutted_at (s := s) rfl rfl hn h47
    simp [Cutted] at k
    refine .inr ⟨?_, k.2.2⟩
    rw [if_neg (by omega), h, Int.toNat_natCast, k.1, k.2.1]

/-- A text's parts in a box. -/
def Bx4 (W : World) (g : Nat) (a b c d : Value) : Prop := W.heap[g]? = some (.cells #[a, b, c, d] 35)

theorem Bx4.cells {W : World} {g : Nat} {a b c d : Value} (h : Bx4 W g a b c d) : W.cell? ⟨g, 0, none⟩ = some a ∧ W.cell? ⟨g, 1, none⟩ = some b ∧ W.cell? ⟨g, 2, none⟩ = some c ∧ W.cell? ⟨g, 3, none⟩ = some d := by
  unfold Bx4 at h
  simp [World.cell?, h]

theorem Bx4.free {W : World} {g : Nat} {a b c d : Value} (h : Bx4 W g a b c d) (k : Nat) : W.frozen? ⟨g, k, none⟩ = false := by
  unfold Bx4 at h
  simp [World.frozen?, h]

theorem Bx4.below {W W' : World} {g : Nat} {a b c d : Value} (h : Bx4 W g a b c d) (hb : Below W.heap.size W W') : Bx4 W' g a b c d := below_heap hb h

theorem Bx4.put {W : World} {g : Nat} {a b c d : Value} (h : Bx4 W g a b c d) (a2 b2 c2 d2 : Value) : Bx4 ((((W.setCell ⟨g, 0, none⟩ a2).setCell ⟨g, 1, none⟩ b2).setCell ⟨g, 2, none⟩ c2).setCell ⟨g, 3, none⟩ d2) g a2 b2 c2 d2 := by
  unfold Bx4 at h ⊢
  simp [World.setCell, Array.getElem?_modify, h]

set_option maxRecDepth 100000 in
set_option maxHeartbeats 4000000 in
theorem split_abs (s : ByteArray) (w : World) (hs : s.size ≤ 1000000) (ra : ∀ w, Calls Tryz.prog 52 #[.string (aheadS s)] w (Samed w true)) (rb : ∀ w, Calls Tryz.prog 52 #[.string (behindS s)] w (Samed w true)) (hc : SlashCut (bodyS s) = .tuple #[.string (aheadS s), .string (behindS s), .bool true]) :
    Calls Tryz.prog 25 #[.string s] w fun e w' => e = .returned (.tuple #[.agg #[.bool (negB (by0 s)), .string (aheadS s), .bool true, .string (behindS s)], .bool true]) ∧ Below w.heap.size w w' := by
  have hbs := Lib.hid (Nat.le_trans (body_size s) hs)
  have HC := Lib.hid hc
  clear hc hs
  have HB : Below w.heap.size w (w.alloc (.cells #[.bool false, .string ⟨#[]⟩, .bool false, .string ⟨#[]⟩] 35)) := alb w _
  have bx : Bx4 (w.alloc (.cells #[.bool false, .string ⟨#[]⟩, .bool false, .string ⟨#[]⟩] 35)) w.heap.size (.bool false) (.string ⟨#[]⟩) (.bool false) (.string ⟨#[]⟩) := heap_alloc_new w _
  go_enter Tryz.func25, Tryz.ntmps25
  go_wp2_with fail
  refine (cutPrefix_minus s _).mono ?_
  rintro e w' ⟨rfl, rfl⟩
  go_wp2_with fail
  refine (cut_slash (bodyS s) _ hbs.out).mono ?_
  rintro e w1 ⟨rfl, n, rfl⟩
  have hb1 := drewN_below (w.alloc (.cells #[.bool false, .string ⟨#[]⟩, .bool false, .string ⟨#[]⟩] 35)) n
  replace bx := bx.below hb1
  replace HB := onto HB hb1
  rw [HC.out]
  go_wp2_with fail
  refine (ra _).mono ?_
  rintro e w2 ⟨rfl, hb2⟩
  replace bx := bx.below hb2
  replace HB := onto HB hb2
  go_wp2_with fail
  refine (rb _).mono ?_
  rintro e w3 ⟨rfl, hb3⟩
  replace bx := bx.below hb3
  replace HB := onto HB hb3
  obtain ⟨c0, c1, c2, c3⟩ := bx.cells
  have f0 := bx.free 0
  have f1 := bx.free 1
  have f2 := bx.free 2
  have f3 := bx.free 3
  have bx2 := bx.put (.bool (negB (by0 s))) (.string (aheadS s)) (.bool true) (.string (behindS s))
  go_wp2
  obtain ⟨d0, d1, d2, d3⟩ := bx2.cells
  obtain ⟨W4, hW4⟩ : ∃ W4, W4 = (((w3.setCell ⟨w.heap.size, 0, none⟩ (.bool (negB (by0 s)))).setCell ⟨w.heap.size, 1, none⟩ (.string (aheadS s))).setCell ⟨w.heap.size, 2, none⟩ (.bool true)).setCell ⟨w.heap.size, 3, none⟩ (.string (behindS s)) := ⟨_, rfl⟩
  have hB4 : Below w.heap.size w W4 := by rw [hW4]; exact (((HB.setCell (p := ⟨w.heap.size, 0, none⟩) (Nat.le_refl _) _).setCell (p := ⟨w.heap.size, 1, none⟩) (Nat.le_refl _) _).setCell (p := ⟨w.heap.size, 2, none⟩) (Nat.le_refl _) _).setCell (p := ⟨w.heap.size, 3, none⟩) (Nat.le_refl _) _
  rw [← hW4] at d0 d1 d2 d3 ⊢
  try simp only [Exit.inBlock, Exit.then]
  refine bodyPost_ret (v := .tuple #[.agg #[.bool (negB (by0 s)), .string (aheadS s), .bool true, .string (behindS s)], .bool true]) (by simp [results, Tryz.results25, go_sem, d0, d1, d2, d3]) rfl ?_
  exact ⟨rfl, hB4⟩

set_option maxRecDepth 100000 in
set_option maxHeartbeats 4000000 in
theorem split_abn (s : ByteArray) (w : World) (hs : s.size ≤ 1000000) (ra : ∀ w, Calls Tryz.prog 52 #[.string (aheadS s)] w (Samed w true)) (rb : ∀ w, Calls Tryz.prog 52 #[.string ⟨#[49]⟩] w (Samed w true)) (hc : SlashCut (bodyS s) = .tuple #[.string (aheadS s), .string ⟨#[]⟩, .bool false]) :
    Calls Tryz.prog 25 #[.string s] w fun e w' => e = .returned (.tuple #[.agg #[.bool (negB (by0 s)), .string (aheadS s), .bool false, .string ⟨#[49]⟩], .bool true]) ∧ Below w.heap.size w w' := by
  have hbs := Lib.hid (Nat.le_trans (body_size s) hs)
  have HC := Lib.hid hc
  clear hc hs
  have HB : Below w.heap.size w (w.alloc (.cells #[.bool false, .string ⟨#[]⟩, .bool false, .string ⟨#[]⟩] 35)) := alb w _
  have bx : Bx4 (w.alloc (.cells #[.bool false, .string ⟨#[]⟩, .bool false, .string ⟨#[]⟩] 35)) w.heap.size (.bool false) (.string ⟨#[]⟩) (.bool false) (.string ⟨#[]⟩) := heap_alloc_new w _
  go_enter Tryz.func25, Tryz.ntmps25
  go_wp2_with fail
  refine (cutPrefix_minus s _).mono ?_
  rintro e w' ⟨rfl, rfl⟩
  go_wp2_with fail
  refine (cut_slash (bodyS s) _ hbs.out).mono ?_
  rintro e w1 ⟨rfl, n, rfl⟩
  have hb1 := drewN_below (w.alloc (.cells #[.bool false, .string ⟨#[]⟩, .bool false, .string ⟨#[]⟩] 35)) n
  replace bx := bx.below hb1
  replace HB := onto HB hb1
  rw [HC.out]
  go_wp2_with fail
  refine (ra _).mono ?_
  rintro e w2 ⟨rfl, hb2⟩
  replace bx := bx.below hb2
  replace HB := onto HB hb2
  go_wp2_with fail
  refine (rb _).mono ?_
  rintro e w3 ⟨rfl, hb3⟩
  replace bx := bx.below hb3
  replace HB := onto HB hb3
  obtain ⟨c0, c1, c2, c3⟩ := bx.cells
  have f0 := bx.free 0
  have f1 := bx.free 1
  have f2 := bx.free 2
  have f3 := bx.free 3
  have bx2 := bx.put (.bool (negB (by0 s))) (.string (aheadS s)) (.bool false) (.string ⟨#[49]⟩)
  go_wp2
  obtain ⟨d0, d1, d2, d3⟩ := bx2.cells
  obtain ⟨W4, hW4⟩ : ∃ W4, W4 = (((w3.setCell ⟨w.heap.size, 0, none⟩ (.bool (negB (by0 s)))).setCell ⟨w.heap.size, 1, none⟩ (.string (aheadS s))).setCell ⟨w.heap.size, 2, none⟩ (.bool false)).setCell ⟨w.heap.size, 3, none⟩ (.string ⟨#[49]⟩) := ⟨_, rfl⟩
  have hB4 : Below w.heap.size w W4 := by rw [hW4]; exact (((HB.setCell (p := ⟨w.heap.size, 0, none⟩) (Nat.le_refl _) _).setCell (p := ⟨w.heap.size, 1, none⟩) (Nat.le_refl _) _).setCell (p := ⟨w.heap.size, 2, none⟩) (Nat.le_refl _) _).setCell (p := ⟨w.heap.size, 3, none⟩) (Nat.le_refl _) _
  rw [← hW4] at d0 d1 d2 d3 ⊢
  try simp only [Exit.inBlock, Exit.then]
  refine bodyPost_ret (v := .tuple #[.agg #[.bool (negB (by0 s)), .string (aheadS s), .bool false, .string ⟨#[49]⟩], .bool true]) (by simp [results, Tryz.results25, go_sem, d0, d1, d2, d3]) rfl ?_
  exact ⟨rfl, hB4⟩

set_option maxRecDepth 100000 in
set_option maxHeartbeats 4000000 in
theorem split_axs (s : ByteArray) (w : World) (hs : s.size ≤ 1000000) (ra : ∀ w, Calls Tryz.prog 52 #[.string (aheadS s)] w (Samed w true)) (rb : ∀ w, Calls Tryz.prog 52 #[.string (behindS s)] w (Samed w false)) (hc : SlashCut (bodyS s) = .tuple #[.string (aheadS s), .string (behindS s), .bool true]) :
    Calls Tryz.prog 25 #[.string s] w fun e w' => e = .returned (.tuple #[.agg #[.bool (negB (by0 s)), .string (aheadS s), .bool true, .string (behindS s)], .bool false]) ∧ Below w.heap.size w w' := by
  have hbs := Lib.hid (Nat.le_trans (body_size s) hs)
  have HC := Lib.hid hc
  clear hc hs
  have HB : Below w.heap.size w (w.alloc (.cells #[.bool false, .string ⟨#[]⟩, .bool false, .string ⟨#[]⟩] 35)) := alb w _
  have bx : Bx4 (w.alloc (.cells #[.bool false, .string ⟨#[]⟩, .bool false, .string ⟨#[]⟩] 35)) w.heap.size (.bool false) (.string ⟨#[]⟩) (.bool false) (.string ⟨#[]⟩) := heap_alloc_new w _
  go_enter Tryz.func25, Tryz.ntmps25
  go_wp2_with fail
  refine (cutPrefix_minus s _).mono ?_
  rintro e w' ⟨rfl, rfl⟩
  go_wp2_with fail
  refine (cut_slash (bodyS s) _ hbs.out).mono ?_
  rintro e w1 ⟨rfl, n, rfl⟩
  have hb1 := drewN_below (w.alloc (.cells #[.bool false, .string ⟨#[]⟩, .bool false, .string ⟨#[]⟩] 35)) n
  replace bx := bx.below hb1
  replace HB := onto HB hb1
  rw [HC.out]
  go_wp2_with fail
  refine (ra _).mono ?_
  rintro e w2 ⟨rfl, hb2⟩
  replace bx := bx.below hb2
  replace HB := onto HB hb2
  go_wp2_with fail
  refine (rb _).mono ?_
  rintro e w3 ⟨rfl, hb3⟩
  replace bx := bx.below hb3
  replace HB := onto HB hb3
  obtain ⟨c0, c1, c2, c3⟩ := bx.cells
  have f0 := bx.free 0
  have f1 := bx.free 1
  have f2 := bx.free 2
  have f3 := bx.free 3
  have bx2 := bx.put (.bool (negB (by0 s))) (.string (aheadS s)) (.bool true) (.string (behindS s))
  go_wp2
  obtain ⟨d0, d1, d2, d3⟩ := bx2.cells
  obtain ⟨W4, hW4⟩ : ∃ W4, W4 = (((w3.setCell ⟨w.heap.size, 0, none⟩ (.bool (negB (by0 s)))).setCell ⟨w.heap.size, 1, none⟩ (.string (aheadS s))).setCell ⟨w.heap.size, 2, none⟩ (.bool true)).setCell ⟨w.heap.size, 3, none⟩ (.string (behindS s)) := ⟨_, rfl⟩
  have hB4 : Below w.heap.size w W4 := by rw [hW4]; exact (((HB.setCell (p := ⟨w.heap.size, 0, none⟩) (Nat.le_refl _) _).setCell (p := ⟨w.heap.size, 1, none⟩) (Nat.le_refl _) _).setCell (p := ⟨w.heap.size, 2, none⟩) (Nat.le_refl _) _).setCell (p := ⟨w.heap.size, 3, none⟩) (Nat.le_refl _) _
  rw [← hW4] at d0 d1 d2 d3 ⊢
  try simp only [Exit.inBlock, Exit.then]
  refine bodyPost_ret (v := .tuple #[.agg #[.bool (negB (by0 s)), .string (aheadS s), .bool true, .string (behindS s)], .bool false]) (by simp [results, Tryz.results25, go_sem, d0, d1, d2, d3]) rfl ?_
  exact ⟨rfl, hB4⟩

set_option maxRecDepth 100000 in
set_option maxHeartbeats 4000000 in
theorem split_axn (s : ByteArray) (w : World) (hs : s.size ≤ 1000000) (ra : ∀ w, Calls Tryz.prog 52 #[.string (aheadS s)] w (Samed w true)) (rb : ∀ w, Calls Tryz.prog 52 #[.string ⟨#[49]⟩] w (Samed w false)) (hc : SlashCut (bodyS s) = .tuple #[.string (aheadS s), .string ⟨#[]⟩, .bool false]) :
    Calls Tryz.prog 25 #[.string s] w fun e w' => e = .returned (.tuple #[.agg #[.bool (negB (by0 s)), .string (aheadS s), .bool false, .string ⟨#[49]⟩], .bool false]) ∧ Below w.heap.size w w' := by
  have hbs := Lib.hid (Nat.le_trans (body_size s) hs)
  have HC := Lib.hid hc
  clear hc hs
  have HB : Below w.heap.size w (w.alloc (.cells #[.bool false, .string ⟨#[]⟩, .bool false, .string ⟨#[]⟩] 35)) := alb w _
  have bx : Bx4 (w.alloc (.cells #[.bool false, .string ⟨#[]⟩, .bool false, .string ⟨#[]⟩] 35)) w.heap.size (.bool false) (.string ⟨#[]⟩) (.bool false) (.string ⟨#[]⟩) := heap_alloc_new w _
  go_enter Tryz.func25, Tryz.ntmps25
  go_wp2_with fail
  refine (cutPrefix_minus s _).mono ?_
  rintro e w' ⟨rfl, rfl⟩
  go_wp2_with fail
  refine (cut_slash (bodyS s) _ hbs.out).mono ?_
  rintro e w1 ⟨rfl, n, rfl⟩
  have hb1 := drewN_below (w.alloc (.cells #[.bool false, .string ⟨#[]⟩, .bool false, .string ⟨#[]⟩] 35)) n
  replace bx := bx.below hb1
  replace HB := onto HB hb1
  rw [HC.out]
  go_wp2_with fail
  refine (ra _).mono ?_
  rintro e w2 ⟨rfl, hb2⟩
  replace bx := bx.below hb2
  replace HB := onto HB hb2
  go_wp2_with fail
  refine (rb _).mono ?_
  rintro e w3 ⟨rfl, hb3⟩
  replace bx := bx.below hb3
  replace HB := onto HB hb3
  obtain ⟨c0, c1, c2, c3⟩ := bx.cells
  have f0 := bx.free 0
  have f1 := bx.free 1
  have f2 := bx.free 2
  have f3 := bx.free 3
  have bx2 := bx.put (.bool (negB (by0 s))) (.string (aheadS s)) (.bool false) (.string ⟨#[49]⟩)
  go_wp2
  obtain ⟨d0, d1, d2, d3⟩ := bx2.cells
  obtain ⟨W4, hW4⟩ : ∃ W4, W4 = (((w3.setCell ⟨w.heap.size, 0, none⟩ (.bool (negB (by0 s)))).setCell ⟨w.heap.size, 1, none⟩ (.string (aheadS s))).setCell ⟨w.heap.size, 2, none⟩ (.bool false)).setCell ⟨w.heap.size, 3, none⟩ (.string ⟨#[49]⟩) := ⟨_, rfl⟩
  have hB4 : Below w.heap.size w W4 := by rw [hW4]; exact (((HB.setCell (p := ⟨w.heap.size, 0, none⟩) (Nat.le_refl _) _).setCell (p := ⟨w.heap.size, 1, none⟩) (Nat.le_refl _) _).setCell (p := ⟨w.heap.size, 2, none⟩) (Nat.le_refl _) _).setCell (p := ⟨w.heap.size, 3, none⟩) (Nat.le_refl _) _
  rw [← hW4] at d0 d1 d2 d3 ⊢
  try simp only [Exit.inBlock, Exit.then]
  refine bodyPost_ret (v := .tuple #[.agg #[.bool (negB (by0 s)), .string (aheadS s), .bool false, .string ⟨#[49]⟩], .bool false]) (by simp [results, Tryz.results25, go_sem, d0, d1, d2, d3]) rfl ?_
  exact ⟨rfl, hB4⟩

set_option maxRecDepth 100000 in
set_option maxHeartbeats 4000000 in
theorem split_xxs (s : ByteArray) (w : World) (hs : s.size ≤ 1000000) (ra : ∀ w, Calls Tryz.prog 52 #[.string (aheadS s)] w (Samed w false)) (hc : SlashCut (bodyS s) = .tuple #[.string (aheadS s), .string (behindS s), .bool true]) :
    Calls Tryz.prog 25 #[.string s] w fun e w' => e = .returned (.tuple #[.agg #[.bool (negB (by0 s)), .string (aheadS s), .bool true, .string (behindS s)], .bool false]) ∧ Below w.heap.size w w' := by
  have hbs := Lib.hid (Nat.le_trans (body_size s) hs)
  have HC := Lib.hid hc
  clear hc hs
  have HB : Below w.heap.size w (w.alloc (.cells #[.bool false, .string ⟨#[]⟩, .bool false, .string ⟨#[]⟩] 35)) := alb w _
  have bx : Bx4 (w.alloc (.cells #[.bool false, .string ⟨#[]⟩, .bool false, .string ⟨#[]⟩] 35)) w.heap.size (.bool false) (.string ⟨#[]⟩) (.bool false) (.string ⟨#[]⟩) := heap_alloc_new w _
  go_enter Tryz.func25, Tryz.ntmps25
  go_wp2_with fail
  refine (cutPrefix_minus s _).mono ?_
  rintro e w' ⟨rfl, rfl⟩
  go_wp2_with fail
  refine (cut_slash (bodyS s) _ hbs.out).mono ?_
  rintro e w1 ⟨rfl, n, rfl⟩
  have hb1 := drewN_below (w.alloc (.cells #[.bool false, .string ⟨#[]⟩, .bool false, .string ⟨#[]⟩] 35)) n
  replace bx := bx.below hb1
  replace HB := onto HB hb1
  rw [HC.out]
  go_wp2_with fail
  refine (ra _).mono ?_
  rintro e w2 ⟨rfl, hb2⟩
  replace bx := bx.below hb2
  replace HB := onto HB hb2
  obtain ⟨c0, c1, c2, c3⟩ := bx.cells
  have f0 := bx.free 0
  have f1 := bx.free 1
  have f2 := bx.free 2
  have f3 := bx.free 3
  have bx2 := bx.put (.bool (negB (by0 s))) (.string (aheadS s)) (.bool true) (.string (behindS s))
  go_wp2
  obtain ⟨d0, d1, d2, d3⟩ := bx2.cells
  obtain ⟨W4, hW4⟩ : ∃ W4, W4 = (((w2.setCell ⟨w.heap.size, 0, none⟩ (.bool (negB (by0 s)))).setCell ⟨w.heap.size, 1, none⟩ (.string (aheadS s))).setCell ⟨w.heap.size, 2, none⟩ (.bool true)).setCell ⟨w.heap.size, 3, none⟩ (.string (behindS s)) := ⟨_, rfl⟩
  have hB4 : Below w.heap.size w W4 := by rw [hW4]; exact (((HB.setCell (p := ⟨w.heap.size, 0, none⟩) (Nat.le_refl _) _).setCell (p := ⟨w.heap.size, 1, none⟩) (Nat.le_refl _) _).setCell (p := ⟨w.heap.size, 2, none⟩) (Nat.le_refl _) _).setCell (p := ⟨w.heap.size, 3, none⟩) (Nat.le_refl _) _
  rw [← hW4] at d0 d1 d2 d3 ⊢
  try simp only [Exit.inBlock, Exit.then]
  refine bodyPost_ret (v := .tuple #[.agg #[.bool (negB (by0 s)), .string (aheadS s), .bool true, .string (behindS s)], .bool false]) (by simp [results, Tryz.results25, go_sem, d0, d1, d2, d3]) rfl ?_
  exact ⟨rfl, hB4⟩

set_option maxRecDepth 100000 in
set_option maxHeartbeats 4000000 in
theorem split_xxn (s : ByteArray) (w : World) (hs : s.size ≤ 1000000) (ra : ∀ w, Calls Tryz.prog 52 #[.string (aheadS s)] w (Samed w false)) (hc : SlashCut (bodyS s) = .tuple #[.string (aheadS s), .string ⟨#[]⟩, .bool false]) :
    Calls Tryz.prog 25 #[.string s] w fun e w' => e = .returned (.tuple #[.agg #[.bool (negB (by0 s)), .string (aheadS s), .bool false, .string ⟨#[49]⟩], .bool false]) ∧ Below w.heap.size w w' := by
  have hbs := Lib.hid (Nat.le_trans (body_size s) hs)
  have HC := Lib.hid hc
  clear hc hs
  have HB : Below w.heap.size w (w.alloc (.cells #[.bool false, .string ⟨#[]⟩, .bool false, .string ⟨#[]⟩] 35)) := alb w _
  have bx : Bx4 (w.alloc (.cells #[.bool false, .string ⟨#[]⟩, .bool false, .string ⟨#[]⟩] 35)) w.heap.size (.bool false) (.string ⟨#[]⟩) (.bool false) (.string ⟨#[]⟩) := heap_alloc_new w _
  go_enter Tryz.func25, Tryz.ntmps25
  go_wp2_with fail
  refine (cutPrefix_minus s _).mono ?_
  rintro e w' ⟨rfl, rfl⟩
  go_wp2_with fail
  refine (cut_slash (bodyS s) _ hbs.out).mono ?_
  rintro e w1 ⟨rfl, n, rfl⟩
  have hb1 := drewN_below (w.alloc (.cells #[.bool false, .string ⟨#[]⟩, .bool false, .string ⟨#[]⟩] 35)) n
  replace bx := bx.below hb1
  replace HB := onto HB hb1
  rw [HC.out]
  go_wp2_with fail
  refine (ra _).mono ?_
  rintro e w2 ⟨rfl, hb2⟩
  replace bx := bx.below hb2
  replace HB := onto HB hb2
  obtain ⟨c0, c1, c2, c3⟩ := bx.cells
  have f0 := bx.free 0
  have f1 := bx.free 1
  have f2 := bx.free 2
  have f3 := bx.free 3
  have bx2 := bx.put (.bool (negB (by0 s))) (.string (aheadS s)) (.bool false) (.string ⟨#[49]⟩)
  go_wp2
  obtain ⟨d0, d1, d2, d3⟩ := bx2.cells
  obtain ⟨W4, hW4⟩ : ∃ W4, W4 = (((w2.setCell ⟨w.heap.size, 0, none⟩ (.bool (negB (by0 s)))).setCell ⟨w.heap.size, 1, none⟩ (.string (aheadS s))).setCell ⟨w.heap.size, 2, none⟩ (.bool false)).setCell ⟨w.heap.size, 3, none⟩ (.string ⟨#[49]⟩) := ⟨_, rfl⟩
  have hB4 : Below w.heap.size w W4 := by rw [hW4]; exact (((HB.setCell (p := ⟨w.heap.size, 0, none⟩) (Nat.le_refl _) _).setCell (p := ⟨w.heap.size, 1, none⟩) (Nat.le_refl _) _).setCell (p := ⟨w.heap.size, 2, none⟩) (Nat.le_refl _) _).setCell (p := ⟨w.heap.size, 3, none⟩) (Nat.le_refl _) _
  rw [← hW4] at d0 d1 d2 d3 ⊢
  try simp only [Exit.inBlock, Exit.then]
  refine bodyPost_ret (v := .tuple #[.agg #[.bool (negB (by0 s)), .string (aheadS s), .bool false, .string ⟨#[49]⟩], .bool false]) (by simp [results, Tryz.results25, go_sem, d0, d1, d2, d3]) rfl ?_
  exact ⟨rfl, hB4⟩

theorem split_any (s : ByteArray) (w : World) (hs : s.size ≤ 1000000) : Calls Tryz.prog 25 #[.string s] w fun e w' => e = .returned (.tuple #[partsV s, .bool (decide (Formed (by0 s)))]) ∧ Below w.heap.size w w' := by
  unfold partsV
  have ra : ∀ b, decide (Dec (ahead (by0 s))) = b → ∀ w, Calls Tryz.prog 52 #[.string (aheadS s)] w (Samed w b) := fun b h w => right_is (aheadS s) w (by rw [aheadS_by0]; exact h)
  have rb : ∀ b, decide (Dec (behind (by0 s))) = b → ∀ w, Calls Tryz.prog 52 #[.string (behindS s)] w (Samed w b) := fun b h w => right_is (behindS s) w (by rw [behindS_by0]; exact h)
  by_cases ha : Dec (ahead (by0 s))
  · by_cases hb : Dec (behind (by0 s))
    · rw [decide_eq_true (show Formed (by0 s) from ⟨ha, hb⟩)]
      rcases split_parts s with ⟨hc, hl, he⟩ | ⟨hc, hl⟩
      · rw [hl]
        rw [he] at rb ⊢
        exact split_abn s w hs (ra true (decide_eq_true ha)) (rb true (decide_eq_true hb)) hc
      · rw [hl]
        exact split_abs s w hs (ra true (decide_eq_true ha)) (rb true (decide_eq_true hb)) hc
    · rw [decide_eq_false (fun h : Formed (by0 s) => hb h.2)]
      rcases split_parts s with ⟨hc, hl, he⟩ | ⟨hc, hl⟩
      · rw [hl]
        rw [he] at rb ⊢
        exact split_axn s w hs (ra true (decide_eq_true ha)) (rb false (decide_eq_false hb)) hc
      · rw [hl]
        exact split_axs s w hs (ra true (decide_eq_true ha)) (rb false (decide_eq_false hb)) hc
  · rw [decide_eq_false (fun h : Formed (by0 s) => ha h.1)]
    rcases split_parts s with ⟨hc, hl, he⟩ | ⟨hc, hl⟩
    · rw [hl]
      rw [he]
      exact split_xxn s w hs (ra false (decide_eq_false ha)) hc
    · rw [hl]
      exact split_xxs s w hs (ra false (decide_eq_false ha)) hc

end Go.Proofs.YtepacminjfeliaaGreatDoor

/-
  Euclid's row of two numbers, gone along by their topmost bits: plain numbers. Nothing of the program is in here. No condition.
-/
namespace Go.Proofs.YtepacminjfeliaaGreatDoor

/-- The factors of two numbers of Euclid's row, by their sizes; even: a and d are from 0 on, b and c are not above 0; odd: the other way round. -/
structure Near (even : Bool) (x0 y0 x y A B C D : Nat) : Prop where
  le : y ≤ x
  ex : x0 = D * x + B * y
  ey : y0 = C * x + A * y
  det : if even then A * D = B * C + 1 else B * C = A * D + 1
  pos : B ≠ 0 → 0 < C ∧ 0 < D
  good : B = 0 ∨ (if even then C ≤ y ∧ B + D + y < x else D ≤ y ∧ A + C + y < x)
  sA : A < 2147483648
  sB : B < 2147483648
  sC : C < 2147483648
  sD : D < 2147483648

theorem Near.zero {x0 y0 : Nat} (h : y0 ≤ x0) : Near true x0 y0 x0 y0 1 0 0 1 :=
  ⟨h, by omega, by omega, by decide, by simp, .inl rfl, by decide, by decide, by decide, by decide⟩

theorem small_of_sq {n m z : Nat} (h : n * m ≤ z) (hz : z < 4611686018427387904) (hm : n ≤ m) : n < 2147483648 := by
  rcases Nat.lt_or_ge n 2147483648 with c | c
  · exact c
  · have h1 := Nat.mul_le_mul c (Nat.le_trans c hm)
    omega

/-- One step on: the quotient is the same whatever stands below. -/
theorem Near.step {even : Bool} {x0 y0 x y A B C D q y' : Nat} (h : Near even x0 y0 x y A B C D) (h0 : x0 < 4611686018427387904) (h1 : y0 < 4611686018427387904) (hy : x = q * y + y')
    (lo : if even then B + q * (y + D) ≤ x else A + q * (y + C) ≤ x) (hi : if even then x + A + q * C + C < q * y + y else x + B + q * D + D < q * y + y) :
    Near (!even) x0 y0 y y' C D (A + q * C) (B + q * D) ∧ y' < y := by
  have hx := h.ex
  have hyy := h.ey
  have hdet := h.det
  have e1 : x0 = (B + q * D) * y + D * y' := by rw [hx, hy, Nat.mul_add, Nat.add_mul]; have : D * (q * y) = q * D * y := by rw [← Nat.mul_assoc, Nat.mul_comm D q]
                                                omega
  have e2 : y0 = (A + q * C) * y + C * y' := by rw [hyy, hy, Nat.mul_add, Nat.add_mul]; have : C * (q * y) = q * C * y := by rw [← Nat.mul_assoc, Nat.mul_comm C q]
                                                omega
  have b1 : (B + q * D) * y ≤ x0 := by omega
  have b2 : (A + q * C) * y ≤ y0 := by omega
  cases even with
  | true =>
    simp only [if_true, Bool.not_true] at lo hi hdet ⊢
    have l1 : B + q * D ≤ y' := by rw [Nat.mul_add] at lo; omega
    have l2 : A + q * C + C + y' < y := by omega
    have dd : (if false = true then C * (B + q * D) = D * (A + q * C) + 1 else D * (A + q * C) = C * (B + q * D) + 1) := by
      rw [if_neg (by decide), Nat.mul_add, Nat.mul_add, Nat.mul_comm D A, hdet, Nat.mul_comm C B, Nat.mul_left_comm D q C, Nat.mul_left_comm C q D, Nat.mul_comm D C]
      omega
    have hq : q ≠ 0 := by
      intro hq; subst hq
      have := h.le
      simp only [Nat.zero_mul] at hi hy
      omega
    have hA : A ≠ 0 := by intro hA; rw [hA, Nat.zero_mul] at hdet; omega
    have hD : D ≠ 0 := by intro hD; rw [hD, Nat.mul_zero] at hdet; omega
    have hqD : 0 < q * D := Nat.mul_pos (by omega) (by omega)
    exact ⟨⟨by omega, e1, e2, dd, fun _ => ⟨by omega, by omega⟩, .inr (by rw [if_neg (by decide)]; omega), h.sC, h.sD, small_of_sq b2 h1 (by omega), small_of_sq b1 h0 (by omega)⟩, by omega⟩
  | false =>
    simp only [Bool.false_eq_true, if_false, Bool.not_false] at lo hi hdet ⊢
    have l1 : A + q * C ≤ y' := by rw [Nat.mul_add] at lo; omega
    have l2 : B + q * D + D + y' < y := by omega
    have dd : (if true = true then C * (B + q * D) = D * (A + q * C) + 1 else D * (A + q * C) = C * (B + q * D) + 1) := by
      rw [if_pos rfl, Nat.mul_add, Nat.mul_add, Nat.mul_comm C B, hdet, Nat.mul_comm D A, Nat.mul_left_comm D q C, Nat.mul_left_comm C q D, Nat.mul_comm D C]
      omega
    have hq : q ≠ 0 := by
      intro hq; subst hq
      have := h.le
      simp only [Nat.zero_mul] at hi hy
      omega
    have hB : B ≠ 0 := by intro hB; rw [hB, Nat.zero_mul] at hdet; omega
    have hC : C ≠ 0 := by intro hC; rw [hC, Nat.mul_zero] at hdet; omega
    have hqC : 0 < q * C := Nat.mul_pos (by omega) (by omega)
    exact ⟨⟨by omega, e1, e2, dd, fun _ => ⟨by omega, by omega⟩, .inr (by rw [if_pos rfl]; omega), h.sC, h.sD, small_of_sq b2 h1 (by omega), small_of_sq b1 h0 (by omega)⟩, by omega⟩

/-- What the factors make of the whole numbers, of which x0 and y0 are the topmost bits. -/
theorem Near.whole {even : Bool} {x0 y0 x y A B C D T X Y : Nat} (h : Near even x0 y0 x y A B C D) (hB : B ≠ 0) (hT : 0 < T) (hx : x0 = X / T) (hy : y0 = Y / T) :
    ∃ X' Y' : Nat, Y' < X' ∧ (if even then X' + B * Y = A * X ∧ Y' + C * X = D * Y else X' + A * X = B * Y ∧ Y' + D * Y = C * X) := by
  have good := h.good.resolve_left hB
  have eX := Nat.div_add_mod X T
  have eY := Nat.div_add_mod Y T
  have lX := Nat.mod_lt X hT
  have lY := Nat.mod_lt Y hT
  rw [← hx] at eX
  rw [← hy] at eY
  generalize X % T = xl at eX lX
  generalize Y % T = yl at eY lY
  have ex := h.ex
  have ey := h.ey
  have det := h.det
  have hT1 : ∀ a b : Nat, b ≤ T → a * b ≤ a * T := fun a b hb => Nat.mul_le_mul_left a hb
  cases even with
  | true =>
    simp only [if_true] at good det ⊢
    obtain ⟨g1, g2⟩ := good
    -- A x0 = x + B y0, D y0 = y + C x0
    have p1 : A * x0 = x + B * y0 := by
      rw [ex, ey, Nat.mul_add, Nat.mul_add, ← Nat.mul_assoc, det, Nat.add_mul, Nat.one_mul, ← Nat.mul_assoc, ← Nat.mul_assoc, ← Nat.mul_assoc, Nat.mul_comm B A]; omega
    have p2 : D * y0 = y + C * x0 := by
      rw [ex, ey, Nat.mul_add, Nat.mul_add, ← Nat.mul_assoc, ← Nat.mul_assoc D A, Nat.mul_comm D A, det, Nat.add_mul, Nat.one_mul, ← Nat.mul_assoc, ← Nat.mul_assoc, Nat.mul_comm D C, Nat.mul_comm C B]; omega
    have q1 : A * X = T * x + B * (T * y0) + A * xl := by rw [← eX, Nat.mul_add, Nat.mul_left_comm, p1, Nat.mul_add, Nat.mul_left_comm T B]
    have q2 : D * Y = T * y + C * (T * x0) + D * yl := by rw [← eY, Nat.mul_add, Nat.mul_left_comm, p2, Nat.mul_add, Nat.mul_left_comm T C]
    have r1 : B * Y = B * (T * y0) + B * yl := by rw [← eY, Nat.mul_add]
    have r2 : C * X = C * (T * x0) + C * xl := by rw [← eX, Nat.mul_add]
    have s1 := hT1 B yl (by omega)
    have s2 := hT1 C xl (by omega)
    have s3 := hT1 D yl (by omega)
    have t1 : (B + D + y + 1) * T ≤ x * T := Nat.mul_le_mul_right _ g2
    have t2 : C * T ≤ y * T := Nat.mul_le_mul_right _ g1
    rw [Nat.add_mul, Nat.add_mul, Nat.add_mul, Nat.one_mul] at t1
    rw [Nat.mul_comm T x] at q1
    rw [Nat.mul_comm T y] at q2
    exact ⟨A * X - B * Y, D * Y - C * X, by omega, by omega, by omega⟩
  | false =>
    simp only [Bool.false_eq_true, if_false] at good det ⊢
    obtain ⟨g1, g2⟩ := good
    have p1 : B * y0 = x + A * x0 := by
      rw [ex, ey, Nat.mul_add, Nat.mul_add, ← Nat.mul_assoc, det, Nat.add_mul, Nat.one_mul, ← Nat.mul_assoc, ← Nat.mul_assoc, ← Nat.mul_assoc, Nat.mul_comm B A]; omega
    have p2 : C * x0 = y + D * y0 := by
      rw [ex, ey, Nat.mul_add, Nat.mul_add, ← Nat.mul_assoc, ← Nat.mul_assoc C B, Nat.mul_comm C B, det, Nat.add_mul, Nat.one_mul, ← Nat.mul_assoc, ← Nat.mul_assoc, Nat.mul_comm C D, Nat.mul_comm D A]; omega
    have q1 : B * Y = T * x + A * (T * x0) + B * yl := by rw [← eY, Nat.mul_add, Nat.mul_left_comm, p1, Nat.mul_add, Nat.mul_left_comm T A]
    have q2 : C * X = T * y + D * (T * y0) + C * xl := by rw [← eX, Nat.mul_add, Nat.mul_left_comm, p2, Nat.mul_add, Nat.mul_left_comm T D]
    have r1 : A * X = A * (T * x0) + A * xl := by rw [← eX, Nat.mul_add]
    have r2 : D * Y = D * (T * y0) + D * yl := by rw [← eY, Nat.mul_add]
    have s1 := hT1 A xl (by omega)
    have s2 := hT1 D yl (by omega)
    have s3 := hT1 C xl (by omega)
    have t1 : (A + C + y + 1) * T ≤ x * T := Nat.mul_le_mul_right _ g2
    have t2 : D * T ≤ y * T := Nat.mul_le_mul_right _ g1
    rw [Nat.add_mul, Nat.add_mul, Nat.add_mul, Nat.one_mul] at t1
    rw [Nat.mul_comm T x] at q1
    rw [Nat.mul_comm T y] at q2
    exact ⟨B * Y - A * X, C * X - D * Y, by omega, by omega, by omega⟩

/-- The whole numbers behind are smaller, and what divides both is the same. -/
theorem Near.gcd {even : Bool} {x0 y0 x y A B C D X Y X' Y' : Nat} (h : Near even x0 y0 x y A B C D)
    (he : if even then X' + B * Y = A * X ∧ Y' + C * X = D * Y else X' + A * X = B * Y ∧ Y' + D * Y = C * X) :
    X = D * X' + B * Y' ∧ Y = C * X' + A * Y' ∧ Nat.gcd X' Y' = Nat.gcd X Y := by
  have det := h.det
  have key : X = D * X' + B * Y' ∧ Y = C * X' + A * Y' := by
    cases even with
    | true =>
      simp only [if_true] at he det
      obtain ⟨e1, e2⟩ := he
      have f1 := congrArg (D * ·) e1
      have f2 := congrArg (B * ·) e2
      have f3 := congrArg (C * ·) e1
      have f4 := congrArg (A * ·) e2
      simp only [Nat.mul_add, ← Nat.mul_assoc] at f1 f2 f3 f4
      rw [Nat.mul_comm D A, det, Nat.add_mul, Nat.one_mul] at f1
      rw [det, Nat.add_mul, Nat.one_mul] at f4
      rw [Nat.mul_comm D B] at f1
      rw [Nat.mul_comm C B, Nat.mul_comm C A] at f3
      exact ⟨by omega, by omega⟩
    | false =>
      simp only [Bool.false_eq_true, if_false] at he det
      obtain ⟨e1, e2⟩ := he
      have f1 := congrArg (D * ·) e1
      have f2 := congrArg (B * ·) e2
      have f3 := congrArg (C * ·) e1
      have f4 := congrArg (A * ·) e2
      simp only [Nat.mul_add, ← Nat.mul_assoc] at f1 f2 f3 f4
      rw [Nat.mul_comm D A, Nat.mul_comm D B] at f1
      rw [det, Nat.add_mul, Nat.one_mul] at f2
      rw [Nat.mul_comm C B, det, Nat.add_mul, Nat.one_mul, Nat.mul_comm C A] at f3
      exact ⟨by omega, by omega⟩
  obtain ⟨k1, k2⟩ := key
  refine ⟨k1, k2, ?_⟩
  apply Nat.dvd_antisymm
  · apply Nat.dvd_gcd
    · rw [k1]; exact Nat.dvd_add (Nat.dvd_mul_left_of_dvd (Nat.gcd_dvd_left _ _) _) (Nat.dvd_mul_left_of_dvd (Nat.gcd_dvd_right _ _) _)
    · rw [k2]; exact Nat.dvd_add (Nat.dvd_mul_left_of_dvd (Nat.gcd_dvd_left _ _) _) (Nat.dvd_mul_left_of_dvd (Nat.gcd_dvd_right _ _) _)
  · have d1 : Nat.gcd X Y ∣ A * X := Nat.dvd_mul_left_of_dvd (Nat.gcd_dvd_left _ _) _
    have d2 : Nat.gcd X Y ∣ B * Y := Nat.dvd_mul_left_of_dvd (Nat.gcd_dvd_right _ _) _
    have d3 : Nat.gcd X Y ∣ C * X := Nat.dvd_mul_left_of_dvd (Nat.gcd_dvd_left _ _) _
    have d4 : Nat.gcd X Y ∣ D * Y := Nat.dvd_mul_left_of_dvd (Nat.gcd_dvd_right _ _) _
    cases even with
    | true =>
      simp only [if_true] at he
      apply Nat.dvd_gcd
      · exact (Nat.dvd_add_left d2).1 (he.1 ▸ d1)
      · exact (Nat.dvd_add_left d3).1 (he.2 ▸ d4)
    | false =>
      simp only [Bool.false_eq_true, if_false] at he
      apply Nat.dvd_gcd
      · exact (Nat.dvd_add_left d1).1 (he.1 ▸ d2)
      · exact (Nat.dvd_add_left d4).1 (he.2 ▸ d3)

end Go.Proofs.YtepacminjfeliaaGreatDoor

/-
  nat.ahead: the factors by which two numbers of Euclid's row come of two others, found from their topmost 62 bits.
-/
namespace Go.Proofs.YtepacminjfeliaaGreatDoor
open Go.RowKit

/-- The factors with their signs. -/
def Signed (even : Bool) (A B C D : Nat) (a b c d : Int) : Prop := if even then a = A ∧ b = -B ∧ c = -C ∧ d = D else a = -A ∧ b = B ∧ c = C ∧ d = -D

/-- Four numbers in a block. -/
def Four (w : World) (g : Nat) (a b c d : Int) : Prop := w.heap[g]? = some (.cells #[.int .i64 a, .int .i64 b, .int .i64 c, .int .i64 d] 119 (0, 0))

theorem Near.dpos {even : Bool} {x0 y0 x y A B C D : Nat} (h : Near even x0 y0 x y A B C D) : 0 < D := by
  have det := h.det
  cases even with
  | true =>
    simp only [if_true] at det
    rcases Nat.eq_zero_or_pos D with e | e
    · rw [e, Nat.mul_zero] at det; omega
    · exact e
  | false =>
    simp only [Bool.false_eq_true, if_false] at det
    exact (h.pos (by intro e; rw [e, Nat.zero_mul] at det; omega)).2

theorem Near.xle {even : Bool} {x0 y0 x y A B C D : Nat} (h : Near even x0 y0 x y A B C D) : x ≤ x0 := by
  rw [h.ex]
  exact Nat.le_trans (Nat.le_mul_of_pos_left x h.dpos) (Nat.le_add_right _ _)

/-- The bounds that the loop's arithmetic needs. -/
structure Bounds (x y : Nat) (a b c d : Int) : Prop where
  a1 : -2147483648 < a
  a2 : a < 2147483648
  b1 : -2147483648 < b
  b2 : b < 2147483648
  c1 : -2147483648 < c
  c2 : c < 2147483648
  d1 : -2147483648 < d
  d2 : d < 2147483648
  xa : 0 ≤ (x : Int) + a
  xb : 0 ≤ (x : Int) + b

theorem Near.bounds {even : Bool} {x0 y0 x y A B C D : Nat} {a b c d : Int} (h : Near even x0 y0 x y A B C D) (s : Signed even A B C D a b c d) : Bounds x y a b c d := by
  have sA := h.sA
  have sB := h.sB
  have sC := h.sC
  have sD := h.sD
  have good := h.good
  have det := h.det
  unfold Signed at s
  cases even with
  | true =>
    simp only [if_true] at s good
    obtain ⟨rfl, rfl, rfl, rfl⟩ := s
    constructor <;> omega
  | false =>
    simp only [Bool.false_eq_true, if_false] at s good det
    obtain ⟨rfl, rfl, rfl, rfl⟩ := s
    have hB : B ≠ 0 := by intro e; rw [e, Nat.zero_mul] at det; omega
    have g := good.resolve_left hB
    constructor <;> omega

/-- One round. -/
theorem Near.next {even : Bool} {x0 y0 x y A B C D q : Nat} {a b c d : Int} (h : Near even x0 y0 x y A B C D) (s : Signed even A B C D a b c d) (h0 : x0 < 4611686018427387904) (h1 : y0 ≤ x0)
    (t1 : 0 < (y : Int) + c) (t2 : 0 < (y : Int) + d) (e1 : ((x : Int) + a) / ((y : Int) + c) = (q : Int)) (e2 : ((x : Int) + b) / ((y : Int) + d) = (q : Int)) :
    ∃ y' : Nat, (x : Int) - (q : Int) * (y : Int) = (y' : Int) ∧ Near (!even) x0 y0 y y' C D (A + q * C) (B + q * D) ∧ Signed (!even) C D (A + q * C) (B + q * D) c d (a - (q : Int) * c) (b - (q : Int) * d) ∧ y' < y ∧
      (-2147483648 ≤ (q : Int) * c ∧ (q : Int) * c ≤ 2147483648) ∧ (-2147483648 ≤ (q : Int) * d ∧ (q : Int) * d ≤ 2147483648) ∧ (0 ≤ (q : Int) * (y : Int) ∧ (q : Int) * (y : Int) ≤ x) := by
  have m1 := Int.ediv_mul_le ((x : Int) + a) (Int.ne_of_gt t1)
  have m2 := Int.lt_ediv_add_one_mul_self ((x : Int) + a) t1
  have m3 := Int.ediv_mul_le ((x : Int) + b) (Int.ne_of_gt t2)
  have m4 := Int.lt_ediv_add_one_mul_self ((x : Int) + b) t2
  rw [e1] at m1 m2
  rw [e2] at m3 m4
  have eP : (q : Int) * (y : Int) = ((q * y : Nat) : Int) := by rw [Int.natCast_mul]
  have eC : (q : Int) * (C : Int) = ((q * C : Nat) : Int) := by rw [Int.natCast_mul]
  have eD : (q : Int) * (D : Int) = ((q * D : Nat) : Int) := by rw [Int.natCast_mul]
  have hs := h
  unfold Signed at s ⊢
  cases even with
  | true =>
    simp only [if_true, Bool.not_true, Bool.false_eq_true, if_false] at s ⊢
    obtain ⟨rfl, rfl, rfl, rfl⟩ := s
    rw [Int.add_mul, Int.mul_add, Int.mul_neg, Int.one_mul, eP, eC] at m2
    rw [Int.mul_add, eP, eD] at m3
    have lo : B + q * (y + D) ≤ x := by rw [Nat.mul_add]; omega
    have hi : x + A + q * C + C < q * y + y := by omega
    have hq : q * y ≤ x := by rw [Nat.mul_add] at lo; omega
    obtain ⟨y', hy⟩ := Nat.exists_eq_add_of_le hq
    obtain ⟨n1, n2⟩ := h.step (q := q) (y' := y') h0 (by omega) hy (by rw [if_pos rfl]; exact lo) (by rw [if_pos rfl]; exact hi)
    have k1 := n1.sC
    have k2 := n1.sD
    refine ⟨y', by rw [eP]; omega, n1, ⟨rfl, rfl, ?_, ?_⟩, n2, ?_, ?_, ?_⟩
    · rw [Int.mul_neg, eC]; omega
    · rw [eD]; omega
    · rw [Int.mul_neg, eC]; omega
    · rw [eD]; omega
    · rw [eP]; omega
  | false =>
    simp only [Bool.false_eq_true, if_false, Bool.not_false, if_true] at s ⊢
    obtain ⟨rfl, rfl, rfl, rfl⟩ := s
    rw [Int.mul_add, eP, eC] at m1
    rw [Int.add_mul, Int.mul_add, Int.mul_neg, Int.one_mul, eP, eD] at m4
    have lo : A + q * (y + C) ≤ x := by rw [Nat.mul_add]; omega
    have hi : x + B + q * D + D < q * y + y := by omega
    have hq : q * y ≤ x := by rw [Nat.mul_add] at lo; omega
    obtain ⟨y', hy⟩ := Nat.exists_eq_add_of_le hq
    obtain ⟨n1, n2⟩ := h.step (q := q) (y' := y') h0 (by omega) hy (by rw [if_neg (by decide)]; exact lo) (by rw [if_neg (by decide)]; exact hi)
    have k1 := n1.sC
    have k2 := n1.sD
    refine ⟨y', by rw [eP]; omega, n1, ⟨rfl, rfl, ?_, ?_⟩, n2, ?_, ?_, ?_⟩
    · rw [eC]; omega
    · rw [Int.mul_neg, eD]; omega
    · rw [eC]; omega
    · rw [Int.mul_neg, eD]; omega
    · rw [eP]; omega

/-- What ahead answers. -/
def Ahead (x0 y0 : Nat) (w : World) (e : Ending) (w' : World) : Prop :=
  ∃ even A B C D x y a b c d, e = .returned (.agg #[.int .i64 a, .int .i64 b, .int .i64 c, .int .i64 d]) ∧ Near even x0 y0 x y A B C D ∧ Signed even A B C D a b c d ∧ Below w.heap.size w w'

/-- In ahead's loop. -/
def AheadAt (w : World) (x0 y0 : Nat) (s t : Value) (wr : World) : Prop :=
  ∃ even A B C D x y a b c d, s = .int .i64 ((x : Nat) : Int) ∧ t = .int .i64 ((y : Nat) : Int) ∧ Near even x0 y0 x y A B C D ∧ Signed even A B C D a b c d ∧ Four wr (w.heap.size + 1) a b c d ∧ Four wr w.heap.size 0 0 0 0 ∧ Below w.heap.size w wr

theorem Four.cell {w : World} {g : Nat} {a b c d : Int} (h : Four w g a b c d) : w.cell? ⟨g, 0, none⟩ = some (.int .i64 a) ∧ w.cell? ⟨g, 1, none⟩ = some (.int .i64 b) ∧ w.cell? ⟨g, 2, none⟩ = some (.int .i64 c) ∧ w.cell? ⟨g, 3, none⟩ = some (.int .i64 d) := by
  unfold Four at h
  simp [World.cell?, h]

theorem Four.free {w : World} {g : Nat} {a b c d : Int} (h : Four w g a b c d) (i : Nat) : w.frozen? ⟨g, i, none⟩ = false := by
  unfold Four at h
  simp [World.frozen?, h]

theorem four_set {w : World} {g : Nat} {a b c d a' b' c' d' : Int} (h : Four w g a b c d) :
    Four ((((w.setCell ⟨g, 0, none⟩ (.int .i64 a')).setCell ⟨g, 1, none⟩ (.int .i64 b')).setCell ⟨g, 2, none⟩ (.int .i64 c')).setCell ⟨g, 3, none⟩ (.int .i64 d')) g a' b' c' d' := by
  unfold Four at h ⊢
  simp [World.setCell, Array.getElem?_modify, h]

theorem four_new2 (w : World) (o : Obj) (a b c d : Int) : Four ((w.alloc o).alloc (.cells #[.int .i64 a, .int .i64 b, .int .i64 c, .int .i64 d] 119)) (w.heap.size + 1) a b c d := by
  unfold Four
  have h := heap_alloc_new (w.alloc o) (.cells #[.int .i64 a, .int .i64 b, .int .i64 c, .int .i64 d] 119)
  rwa [show (w.alloc o).heap.size = w.heap.size + 1 from by simp] at h

theorem Four.other {w : World} {g g' i : Nat} {a b c d : Int} {v : Value} (h : Four w g a b c d) (hne : g ≠ g') : Four (w.setCell ⟨g', i, none⟩ v) g a b c d := by
  unfold Four at h ⊢
  rw [Below.heap_setCell _ _ _ _ hne]; exact h

/-- The end: the factors are handed back. -/
theorem ahead_done {x0 y0 : Nat} {w W : World} {even : Bool} {A B C D x y : Nat} {a b c d : Int} {tmps : Array Value} {ds : List Deferred} (hn : Near even x0 y0 x y A B C D) (hs : Signed even A B C D a b c d) (hf : Four W w.heap.size a b c d) (hb : Below w.heap.size w W)
    (ht : tmps[4]?.getD undef = .pointer (some ⟨w.heap.size, 0, none⟩)) (hd : ds = []) : bodyPost Tryz.prog Tryz.f104 (Ahead x0 y0 w) Exit.ret { tmps := tmps, defers := ds } W := by
  subst hd
  obtain ⟨m0, m1, m2, m3⟩ := hf.cell
  refine bodyPost_ret (v := .agg #[.int .i64 a, .int .i64 b, .int .i64 c, .int .i64 d]) ?_ rfl ⟨even, A, B, C, D, x, y, a, b, c, d, rfl, hn, hs, hb⟩
  simp [results, Tryz.results104, go_sem, ht, m0, m1, m2, m3]

set_option maxRecDepth 100000 in
set_option maxHeartbeats 4000000 in
theorem ahead_any (x0 y0 : Nat) (w : World) (h : y0 ≤ x0) (hx : x0 < 4611686018427387904) :
    Calls Tryz.prog 104 #[.int .i64 (x0 : Int), .int .i64 (y0 : Int)] w (Ahead x0 y0 w) := by
  have HX := Lib.hid hx; clear hx
  go_enter Tryz.func104, Tryz.ntmps104
  go_wp2
  go_loopw [0, 1] (fun s t wr => AheadAt w x0 y0 s t wr) (fun _ t _ => (intOf t).toNat)
  case atStart =>
    refine ⟨true, 1, 0, 0, 1, x0, y0, 1, 0, 0, 1, rfl, rfl, Near.zero h, ⟨rfl, rfl, rfl, rfl⟩, ?_, ?_, ?_⟩
    · exact four_new2 _ _ _ _ _ _
    · exact (Below.heap_alloc _ _ _ (by simp)).trans (heap_alloc_new w _)
    · exact ((Below.refl _ _).alloc (Nat.le_refl _) _).alloc (by simp) _
  case round =>
    obtain ⟨even, A, B, C, D, x, y, a, b, c, d, rfl, rfl, hn, hs, hf, hf0, hbel⟩ := hrel
    have bd := hn.bounds hs
    obtain ⟨a1, a2, b1, b2, c1, c2, d1, d2, xa, xb⟩ := bd
    have hx := hn.xle
    have hx0 := HX.out
    have hle := hn.le
    obtain ⟨m0, m1, m2, m3⟩ := hf.cell
    obtain ⟨r0, r1, r2, r3⟩ := hf0.cell
    have f0 := hf.free 0
    have f1 := hf.free 1
    have f2 := hf.free 2
    have f3 := hf.free 3
    have o0 := hf0.free 0
    have o1 := hf0.free 1
    have o2 := hf0.free 2
    have o3 := hf0.free 3
    have hdone : ∀ tmps : Array Value, tmps[4]?.getD undef = .pointer (some ⟨w.heap.size, 0, none⟩) →
        bodyPost Tryz.prog Tryz.f104 (Ahead x0 y0 w) Exit.ret { tmps := tmps, defers := [] } ((((wr.setCell ⟨w.heap.size, 0, none⟩ (.int .i64 a)).setCell ⟨w.heap.size, 1, none⟩ (.int .i64 b)).setCell ⟨w.heap.size, 2, none⟩ (.int .i64 c)).setCell ⟨w.heap.size, 3, none⟩ (.int .i64 d)) := fun tmps ht =>
      ahead_done hn hs (four_set hf0) ((((hbel.setCell (Nat.le_refl _) _).setCell (Nat.le_refl _) _).setCell (Nat.le_refl _) _).setCell (Nat.le_refl _) _) ht rfl
    have HDN := Lib.hid hdone; clear hdone
    by_cases t1 : 0 < (y : Int) + c
    · by_cases t2 : 0 < (y : Int) + d
      · have td1 : decide ((0 : Int) < (y : Int) + c) = true := decide_eq_true t1
        have td2 : decide ((0 : Int) < (y : Int) + d) = true := decide_eq_true t2
        obtain ⟨q, hq⟩ : ∃ q : Nat, ((x : Int) + a) / ((y : Int) + c) = (q : Int) := Int.eq_ofNat_of_zero_le (Int.ediv_nonneg xa (Int.le_of_lt t1))
        obtain ⟨q2, hq2⟩ : ∃ q : Nat, ((x : Int) + b) / ((y : Int) + d) = (q : Int) := Int.eq_ofNat_of_zero_le (Int.ediv_nonneg xb (Int.le_of_lt t2))
        by_cases hqq : q = q2
        · subst hqq
          obtain ⟨y', ey, hn', hs', hlt, hqc, hqd, hqy⟩ := hn.next hs hx0 h t1 t2 hq hq2
          have bd' := hn'.bounds hs'
          obtain ⟨-, -, -, -, c1', c2', d1', d2', -, -⟩ := bd'
          have HEY := Lib.hid ey; clear ey
          have HF := Lib.hid hf; clear hf
          have HF0 := Lib.hid hf0; clear hf0
          clear hn hs r0 r1 r2 r3 o0 o1 o2 o3
          go_wp2
          go_roundw
          case rel =>
            rw [HEY.out]
            have hne : w.heap.size ≠ w.heap.size + 1 := by omega
            exact ⟨!even, C, D, A + q * C, B + q * D, y, y', c, d, _, _, rfl, rfl, hn', hs', four_set HF.out, (((HF0.out.other hne).other hne).other hne).other hne,
              (((hbel.setCell (by simp) _).setCell (by simp) _).setCell (by simp) _).setCell (by simp) _⟩
          case measure =>
            rw [HEY.out]
            simp [intOf]; omega
        · have hne : ((q : Int) != (q2 : Int)) = true := by rw [bne_iff_ne]; omega
          have HQQ := Lib.hid hqq; clear hqq
          go_wp2
          exact HDN.out _ rfl
      · have td1 : decide ((0 : Int) < (y : Int) + c) = true := decide_eq_true t1
        have td2 : decide ((0 : Int) < (y : Int) + d) = false := decide_eq_false t2
        go_wp2
        exact HDN.out _ rfl
    · have td1 : decide ((0 : Int) < (y : Int) + c) = false := decide_eq_false t1
      go_wp2
      exact HDN.out _ rfl

end Go.Proofs.YtepacminjfeliaaGreatDoor

/-
  nat.heads: the topmost 62 bits of a number of three limbs at least, and what a number that is not greater has at the same places.
-/
namespace Go.Proofs.YtepacminjfeliaaGreatDoor
open Go.RowKit

/-- What stands from a limb and some bits on: the three topmost limbs. -/
theorem head_val {l : List Nat} {m s : Nat} (hl : Lim l) (hlen : l.length ≤ m + 3) (hs : s ≤ 31) (hfit : at0 l (m + 2) * 2 ^ s < 4294967296) :
    (at0 l (m + 2) * 4294967296 + at0 l (m + 1)) * 2 ^ s + at0 l m / 2 ^ (32 - s) < 18446744073709551616 ∧
    ((at0 l (m + 2) * 4294967296 + at0 l (m + 1)) * 2 ^ s + at0 l m / 2 ^ (32 - s)) / 4 = val l / (2 ^ (34 - s) * pw m) ∧
    (at0 l m / 2 ^ (32 - s) < 2 ^ s) := by
  have a0 := at0_lt hl m
  have a1 := at0_lt hl (m + 1)
  have a2 := at0_lt hl (m + 2)
  have d1 : 2 ^ s * 2 ^ (32 - s) = 4294967296 := by rw [← Nat.pow_add, show s + (32 - s) = 32 from by omega]
  have hlow : at0 l m / 2 ^ (32 - s) < 2 ^ s := by
    rw [Nat.div_lt_iff_lt_mul (Nat.two_pow_pos _), d1]; exact a0
  have hval : val l = sm (at0 l) m + pw m * (at0 l m + 4294967296 * at0 l (m + 1) + 18446744073709551616 * at0 l (m + 2)) := by
    rw [← sm_all l hlen]
    show sm (at0 l) m + pw m * at0 l m + pw (m + 1) * at0 l (m + 1) + pw (m + 2) * at0 l (m + 2) = _
    rw [show pw (m + 2) = 4294967296 * pw (m + 1) from rfl, show pw (m + 1) = 4294967296 * pw m from rfl, Nat.mul_add, Nat.mul_add]
    have e1 : pw m * (4294967296 * at0 l (m + 1)) = 4294967296 * pw m * at0 l (m + 1) := by rw [Nat.mul_left_comm, Nat.mul_assoc]
    have e2 : pw m * (18446744073709551616 * at0 l (m + 2)) = 4294967296 * (4294967296 * pw m) * at0 l (m + 2) := by
      rw [Nat.mul_left_comm, Nat.mul_assoc, Nat.mul_assoc, ← Nat.mul_assoc 4294967296 4294967296]
    omega
  have hsm := sm_lt (x := at0 l) (fun j => at0_lt hl j) m
  have ediv : val l / (2 ^ (34 - s) * pw m) = (at0 l m + 4294967296 * at0 l (m + 1) + 18446744073709551616 * at0 l (m + 2)) / 2 ^ (34 - s) := by
    rw [Nat.mul_comm, ← Nat.div_div_eq_div_mul, hval, Nat.add_mul_div_left _ _ (pw_pos m), Nat.div_eq_of_lt hsm, Nat.zero_add]
  have e34 : 2 ^ (34 - s) = 2 ^ (32 - s) * 4 := by rw [show 34 - s = (32 - s) + 2 from by omega, Nat.pow_add]
  have key : (at0 l m + 4294967296 * at0 l (m + 1) + 18446744073709551616 * at0 l (m + 2)) / 2 ^ (32 - s) = (at0 l (m + 2) * 4294967296 + at0 l (m + 1)) * 2 ^ s + at0 l m / 2 ^ (32 - s) := by
    have e : at0 l m + 4294967296 * at0 l (m + 1) + 18446744073709551616 * at0 l (m + 2) = at0 l m + 2 ^ (32 - s) * ((at0 l (m + 2) * 4294967296 + at0 l (m + 1)) * 2 ^ s) := by
      rw [Nat.mul_left_comm, Nat.mul_comm (2 ^ (32 - s)), d1]; omega
    rw [e, Nat.add_mul_div_left _ _ (Nat.two_pow_pos _)]; omega
  refine ⟨?_, ?_, hlow⟩
  · rw [Nat.add_mul]
    have h1 : at0 l (m + 2) * 4294967296 * 2 ^ s = at0 l (m + 2) * 2 ^ s * 4294967296 := Nat.mul_right_comm _ _ _
    have h2 : at0 l (m + 1) * 2 ^ s ≤ 4294967295 * 2 ^ s := Nat.mul_le_mul_right _ (by omega)
    -- the topmost limb leaves room for 2^s
    have h3 : at0 l (m + 2) * 2 ^ s + 2 ^ s ≤ 4294967296 := by
      have : at0 l (m + 2) < 2 ^ (32 - s) := by
        rw [← d1, Nat.mul_comm] at hfit
        exact Nat.lt_of_mul_lt_mul_left hfit
      have := Nat.mul_le_mul_right (2 ^ s) this
      rw [Nat.mul_comm (2 ^ (32 - s)), d1, Nat.succ_mul] at this
      exact this
    omega
  · rw [ediv, e34, ← Nat.div_div_eq_div_mul, key]

end Go.Proofs.YtepacminjfeliaaGreatDoor

/-
  nat.heads: the closure that reads the topmost bits of one number, and heads itself.
-/
namespace Go.Proofs.YtepacminjfeliaaGreatDoor
open Go.RowKit

theorem limb_q {w : World} {v : Value} {l : List Nat} (h : Rd w v l) (hl : l.length ≤ 1000000) (i : Int) (k : Nat) (hi : i = (k : Int)) :
    Calls Tryz.prog 107 #[v, .int .i64 i] w fun e w' => e = .returned (.int .u32 (at0 l k : Int)) ∧ w' = w := by
  subst hi
  exact (limb_any h hl k).mono fun e w' h => ⟨h.1, h.2.symm⟩

theorem head_end {H V x0 s s' : Nat} (f1 : H * 2 ^ s + x0 / 2 ^ (32 - s) < 18446744073709551616) (f2 : (H * 2 ^ s + x0 / 2 ^ (32 - s)) / 4 = V) (f3 : x0 / 2 ^ (32 - s) < 2 ^ s) (hs : s' + s = 32) :
    wrap64 (bits .or .u64 (IntKind.u64.wrap ((H : Int) * 2 ^ s)) ((x0 : Int) / 2 ^ min s' 64) / 4) = (V : Int) := by
  have e1 : (H : Int) * 2 ^ s = ((H * 2 ^ s : Nat) : Int) := by rw [Int.natCast_mul, Int.natCast_pow]; rfl
  have e2 : (x0 : Int) / 2 ^ min s' 64 = ((x0 / 2 ^ (32 - s) : Nat) : Int) := by
    rw [Nat.min_eq_left (show s' ≤ 64 by omega), show 32 - s = s' from by omega, Int.natCast_ediv, Int.natCast_pow]; rfl
  have e3 := Nat.mul_mod_left H (2 ^ s)
  rw [e1, e2]
  clear e1 e2
  generalize H * 2 ^ s = P at f1 f2 e3 ⊢
  generalize x0 / 2 ^ (32 - s) = Q at f1 f2 f3 ⊢
  rw [IntWalk.u64_in _ (by omega), u64_or_nat _ _ (by omega) (by omega), nat_join s _ _ e3 f3, IntWalk.wrap64_in _ (by omega)]
  omega

set_option maxRecDepth 100000 in
set_option maxHeartbeats 1000000 in
theorem head1_any {w : World} {va : Value} {l : List Nat} {m s : Nat} {pn pu : Addr} (ra : Rd w va l) (hlen : l.length ≤ m + 3) (hm : m ≤ 1000) (hs : s ≤ 31) (hfit : at0 l (m + 2) * 2 ^ s < 4294967296)
    (hn : w.cell? pn = some (.int .i64 ((m : Int) + 3))) (hu : w.cell? pu = some (.int .i64 (s : Int))) :
    Calls Tryz.prog 131 #[va, .pointer (some pn), .pointer (some pu)] w fun e w' => e = .returned (.int .i64 ((val l / (2 ^ (34 - s) * pw m) : Nat) : Int)) ∧ Below w.heap.size w w' := by
  obtain ⟨f1, f2, f3⟩ := head_val ra.lim hlen hs hfit
  have l2 := at0_lt ra.lim (m + 2)
  have l1 := at0_lt ra.lim (m + 1)
  have l0 := at0_lt ra.lim m
  have c2 := fun n => limb_q (ra.drewN n) (by omega) ((m : Int) + 2) (m + 2) (by omega)
  have c1 := fun n => limb_q (ra.drewN n) (by omega) ((m : Int) + 1) (m + 1) (by omega)
  have c0 := fun W (h : Rd W va l) n => limb_q (h.drewN n) (by omega) (m : Int) m rfl
  obtain ⟨V, hV⟩ : ∃ V, V = val l / (2 ^ (34 - s) * pw m) := ⟨_, rfl⟩
  rw [← hV] at f2 ⊢
  obtain ⟨x2, e2⟩ : ∃ x, x = at0 l (m + 2) := ⟨_, rfl⟩
  obtain ⟨x1, e1⟩ : ∃ x, x = at0 l (m + 1) := ⟨_, rfl⟩
  obtain ⟨x0, e0⟩ : ∃ x, x = at0 l m := ⟨_, rfl⟩
  rw [← e2] at f1 f2 hfit l2 c2
  rw [← e1] at f1 f2 l1 c1
  rw [← e0] at f1 f2 f3 l0 c0
  obtain ⟨H, hH⟩ : ∃ H : Nat, H = x2 * 4294967296 + x1 := ⟨_, rfl⟩
  have r1 : bits .or .u64 ((x2 : Int) * 4294967296) (x1 : Int) = (H : Int) := by
    rw [show (x2 : Int) * 4294967296 = ((x2 * 4294967296 : Nat) : Int) from by omega, u64_or_nat _ _ (by omega) (by omega), nat_join 32 _ _ (Nat.mul_mod_left _ _) l1, hH]
  rw [← hH] at f1 f2
  have C2 := Lib.hid c2; clear c2
  have C1 := Lib.hid c1; clear c1
  have C0 := Lib.hid c0; clear c0
  have F1 := Lib.hid f1; clear f1
  have F2 := Lib.hid f2; clear f2
  have F3 := Lib.hid f3; clear f3
  have HH := Lib.hid hH; clear hH
  have HF := Lib.hid hfit; clear hfit
  clear e0 e1 e2 hV
  obtain ⟨s', hs'⟩ : ∃ s' : Nat, s' + s = 32 := ⟨32 - s, by omega⟩
  have w2 : IntKind.i64.wrap ((m : Int) + 3 - 1) = (m : Int) + 2 := by rw [IntWalk.i64_in _ (by omega)]; omega
  have w1 : IntKind.i64.wrap ((m : Int) + 3 - 2) = (m : Int) + 1 := by rw [IntWalk.i64_in _ (by omega)]; omega
  have w0 : IntKind.i64.wrap ((m : Int) + 3 - 3) = (m : Int) := by rw [IntWalk.i64_in _ (by omega)]; omega
  have ws : IntKind.i64.wrap (32 - (s : Int)) = (s' : Int) := by rw [IntWalk.i64_in _ (by omega)]; omega
  have HS := Lib.hid hs'; clear hs'
  go_enter Tryz.func131, Tryz.ntmps131
  go_wp2_with fail
  go_quiet ((go_at_call 107; first | with_reducible exact Calls.quiet_of_same (C2.out _) | with_reducible exact Calls.quiet_of_same (C1.out _)))
  have hbW := drewN_below w nq
  have raW := ra.drewN nq
  have hnW : (w.drewN nq).cell? pn = some (.int .i64 ((m : Int) + 3)) := hn
  have huW : (w.drewN nq).cell? pu = some (.int .i64 (s : Int)) := hu
  generalize w.drewN nq = W at hbW raW hnW huW ⊢
  clear hn hu ra C1 C2
  have c0' := C0.out W raW
  have C0' := Lib.hid c0'; clear c0' C0
  go_wp2_with fail
  go_quiet ((go_at_call 107; exact Calls.quiet_of_same (C0'.out _)))
  go_wp2_with fail
  go_ret
  refine ⟨?_, draw_below hbW _⟩
  show Ending.returned (.int .i64 (wrap64 _)) = _
  rw [head_end F1.out F2.out F3.out HS.out]

theorem two_cells (w : World) (u v : Value) (t1 t2 : TypeId) : ((w.alloc (.cells #[u] t1)).alloc (.cells #[v] t2)).cell? ⟨w.heap.size, 0, none⟩ = some u ∧ ((w.alloc (.cells #[u] t1)).alloc (.cells #[v] t2)).cell? ⟨w.heap.size + 1, 0, none⟩ = some v := by
  have h1 := heap_alloc_new w (.cells #[u] t1)
  have h2 := (Below.heap_alloc (w.alloc (.cells #[u] t1)) (.cells #[v] t2) w.heap.size (by simp)).trans h1
  have h3 := heap_alloc_new (w.alloc (.cells #[u] t1)) (.cells #[v] t2)
  rw [show (w.alloc (Obj.cells #[u] t1)).heap.size = w.heap.size + 1 from by simp] at h3
  constructor
  · unfold World.cell?; rw [h2]; rfl
  · unfold World.cell?; rw [h3]; rfl

/-- What heads answers. -/
def Headed (x y : List Nat) (w : World) (e : Ending) (w' : World) : Prop :=
  ∃ T, 0 < T ∧ e = .returned (.tuple #[.int .i64 ((val x / T : Nat) : Int), .int .i64 ((val y / T : Nat) : Int)]) ∧ val x / T < 4611686018427387904 ∧ Below w.heap.size w w'

set_option maxRecDepth 100000 in
set_option maxHeartbeats 1000000 in
theorem heads_any {w : World} {vx vy : Value} {x y : List Nat} {m : Nat} (rx : Rd w vx x) (ry : Rd w vy y) (cx : Can x) (hlx : x.length = m + 3) (hm : m ≤ 1000) (hly : y.length ≤ m + 3) (hle : val y ≤ val x) :
    Calls Tryz.prog 105 #[vx, vy] w (Headed x y w) := by
  obtain ⟨adx, nx, capx, rfl, -⟩ := id rx
  obtain ⟨hnx, hcx, hlimx, hcell⟩ := rx.open
  obtain rfl : nx = m + 3 := by omega
  obtain ⟨b1, o1, rfl, hb1, hc⟩ := hcell (by omega)
  have hx1 := hc (m + 2) (by omega)
  clear hc hcell hnx
  have z0 : 0 < at0 x (m + 2) := by
    have := cx.2 (by omega)
    rw [hlx] at this
    have e : m + 3 - 1 = m + 2 := by omega
    rw [e] at this
    omega
  have z1 := at0_lt hlimx (m + 2)
  have hzy : at0 y (m + 2) ≤ at0 x (m + 2) := by
    rcases Nat.lt_or_ge (at0 x (m + 2)) (at0 y (m + 2)) with c | c
    · have := sm_less (x := at0 x) (y := at0 y) (fun j => at0_lt hlimx j) (i := m + 2) (n := m + 3) (by omega) (fun j h1 h2 => absurd h2 (by omega)) c
      rw [sm_all x (by omega), sm_all y hly] at this
      omega
    · exact c
  obtain ⟨z, hz⟩ : ∃ z, z = at0 x (m + 2) := ⟨_, rfl⟩
  rw [← hz] at hx1 z0 z1
  have HZ := Lib.hid hz; clear hz
  have HZY := Lib.hid hzy; clear hzy
  have HLX := Lib.hid hlx; clear hlx
  go_enter Tryz.func105, Tryz.ntmps105
  go_wp2_with (go_at_call 108; refine (lead_any z _ z1 z0).mono ?_; rintro e w' ⟨⟨s, rfl, hup⟩, rfl⟩)
  have hs : s ≤ 31 := hup.1
  have hfx : at0 x (m + 2) * 2 ^ s < 4294967296 := by rw [← HZ.out, Nat.mul_comm]; exact hup.2.2
  have hfy : at0 y (m + 2) * 2 ^ s < 4294967296 := Nat.lt_of_le_of_lt (Nat.mul_le_mul_right _ HZY.out) hfx
  have HUP := Lib.hid hup; clear hup
  obtain ⟨q1, q2⟩ := two_cells w (.int .i64 ((m : Int) + 3)) (.int .i64 (s : Int)) 3 3
  have hbW : Below w.heap.size w ((w.alloc (.cells #[.int .i64 ((m : Int) + 3)] 3)).alloc (.cells #[.int .i64 (s : Int)] 3)) := onto (alb _ _) (alb _ _)
  have big := head_val hlimx (m := m) (s := s) (by have := HLX.out; omega) hs hfx
  have BIG := Lib.hid big; clear big
  have HFX := Lib.hid hfx; clear hfx
  have HFY := Lib.hid hfy; clear hfy
  have rxW := rx.below hbW
  have ryW := ry.below hbW
  generalize (w.alloc (.cells #[.int .i64 ((m : Int) + 3)] 3)).alloc (.cells #[.int .i64 (s : Int)] 3) = W at q1 q2 hbW rxW ryW ⊢
  obtain ⟨pn, hpn⟩ : ∃ p : Addr, p = ⟨w.heap.size, 0, none⟩ := ⟨_, rfl⟩
  obtain ⟨pu, hpu⟩ : ∃ p : Addr, p = ⟨w.heap.size + 1, 0, none⟩ := ⟨_, rfl⟩
  rw [← hpn] at q1 ⊢
  rw [← hpu] at q2 ⊢
  have HPN := Lib.hid hpn; clear hpn
  have HPU := Lib.hid hpu; clear hpu
  have hsz : w.heap.size + 2 ≤ W.heap.size := by
    have h1 := World.block_lt_of_cell? W pu q2
    rw [HPU.out] at h1
    exact h1
  refine (head1_any (m := m) (s := s) rxW (by have := HLX.out; omega) hm hs HFX.out q1 q2).mono ?_
  rintro e w1 ⟨rfl, hb1'⟩
  have q1' : w1.cell? pn = some (.int .i64 ((m : Int) + 3)) := (hb1'.cell (by rw [HPN.out]; show w.heap.size < W.heap.size; omega)).trans q1
  have q2' : w1.cell? pu = some (.int .i64 (s : Int)) := (hb1'.cell (by rw [HPU.out]; show w.heap.size + 1 < W.heap.size; omega)).trans q2
  have ryW1 := ryW.below hb1'
  have hbW1 := onto hbW hb1'
  clear q1 q2 hb1' hbW ryW
  go_wp2_with fail
  refine (head1_any (m := m) (s := s) ryW1 hly hm hs HFY.out q1' q2').mono ?_
  rintro e w2 ⟨rfl, hb2'⟩
  have hbW2 := onto hbW1 hb2'
  clear hb2' hbW1
  go_wp2
  go_ret2
  refine ⟨2 ^ (34 - s) * pw m, Nat.mul_pos (Nat.two_pow_pos _) (pw_pos m), rfl, ?_, hbW2⟩
  obtain ⟨g1, g2, _⟩ := BIG.out
  rw [← g2]
  omega

end Go.Proofs.YtepacminjfeliaaGreatDoor
