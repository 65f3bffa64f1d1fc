/-
  A part of the proof: QGet, QBoth, QTimes, QText.
-/
import Derived.Test.YtepacminjfeliaaGreatDoorG10
import Derived.Test.YtepacminjfeliaaGreatDoorG9
import Derived.Test.YtepacminjfeliaaGreatDoorG8
/-
  rat's read, both and Right by what the text is worth. The text has 1000000 bytes at most.
-/
namespace Go.Proofs.YtepacminjfeliaaGreatDoor
open Go.RowKit

theorem toList_by0 (s : ByteArray) : s.toList = by0 s := Lib.toList_data s

theorem eq48 {s : ByteArray} (h : Dec (by0 s)) : (s.toList == [48]) = decide (num (by0 s) = 0) := by
  rw [toList_by0]
  by_cases h0 : num (by0 s) = 0
  · rw [decide_eq_true h0, num_zero_dec h h0]; rfl
  · rw [decide_eq_false h0, beq_eq_false_iff_ne]
    intro e
    rw [e] at h0
    exact h0 rfl

theorem eq49 {s : ByteArray} (h : Dec (by0 s)) : (s.toList == [49]) = decide (num (by0 s) = 1) := by
  rw [toList_by0]
  by_cases h0 : num (by0 s) = 1
  · rw [decide_eq_true h0, num_one_dec h h0]; rfl
  · rw [decide_eq_false h0, beq_eq_false_iff_ne]
    intro e
    rw [e] at h0
    exact h0 rfl

/-- What read answers. -/
def ReadR (w : World) (l : List UInt8) (e : Ending) (w' : World) : Prop :=
  (¬ Good l ∧ ReadNo w e w') ∨ (Good l ∧ ∃ n adp np cp adq nq cq, e = .returned (.tuple #[numV n (.slice adp np cp) (.slice adq nq cq), .bool true]) ∧ IsNum w' n (.slice adp np cp) (.slice adq nq cq) (worth l) ∧ (n = true → worth l ≠ 0) ∧ Below w.heap.size w w')

theorem ReadQ.yes {w w' : World} {l : List UInt8} {e : Ending} (hg : Good l) (h : ReadQ w true (negB l) (num (ahead l)) (num (behind l)) e w') : ReadR w l e w' := by
  obtain ⟨adp, np, cp, adq, nq, cq, P, Q, he, rp, rq, kp, kq, vp, vq, hb⟩ := h
  obtain ⟨h1, h2, h3, -⟩ := hg.parts
  exact .inr ⟨hg, negB l, adp, np, cp, adq, nq, cq, he, ⟨P, Q, rp, rq, kp, kq, by rw [vp]; exact h2, by rw [vq]; exact h1⟩, h3, hb⟩

theorem read_any (s : ByteArray) (w : World) (hs : s.size ≤ 1000000) : Calls Tryz.prog 38 #[.string s] w (ReadR w (by0 s)) := by
  have hno : ∀ {e w'}, ¬ Good (by0 s) → ReadNo w e w' → ReadR w (by0 s) e w' := fun h k => .inl ⟨h, k⟩
  by_cases hl : s.size ≤ 1900
  · have hsp : ∀ w, Calls Tryz.prog 25 #[.string s] w fun e w' => e = .returned (.tuple #[partsV s, .bool (decide (Formed (by0 s)))]) ∧ Below w.heap.size w w' := fun w => split_any s w hs
    unfold partsV at hsp
    by_cases hf : Formed (by0 s)
    · rw [decide_eq_true hf] at hsp
      have hnu := fun w => number_any s w hl hf
      unfold partsV at hnu
      have hu := eq48 (s := aheadS s) (by rw [aheadS_by0]; exact hf.1)
      have hd := eq48 (s := behindS s) (by rw [behindS_by0]; exact hf.2)
      have hd1 := eq49 (s := behindS s) (by rw [behindS_by0]; exact hf.2)
      rw [aheadS_by0] at hu
      rw [behindS_by0] at hd hd1
      have lA : ∀ l, Can l → val l = num (ahead (by0 s)) → l.length ≤ 200 := fun l k v => few_limbs hf.1.1 (by have := ahead_le (by0 s); have := by0_len s; omega) k (Nat.le_of_eq v)
      have lB : ∀ l, Can l → val l = num (behind (by0 s)) → l.length ≤ 200 := fun l k v => few_limbs hf.2.1 (by have := behind_le (by0 s); have := by0_len s; omega) k (Nat.le_of_eq v)
      have hlen : (by0 s).length ≤ 1900 := by rw [by0_len]; exact hl
      cases hn : negB (by0 s)
      · rw [hn] at hsp hnu
        cases hsl : slash (by0 s)
        · rw [hsl] at hsp hnu
          have hg : Good (by0 s) := good_of hlen hf (by rw [hn]; simp) (by rw [hsl]; simp)
          exact (read_whole_f_t s _ _ w hl hsp hnu).mono fun e w' h => (show ReadQ w true (negB (by0 s)) _ _ e w' from hn ▸ h).yes hg
        · rw [hsl] at hsp hnu
          by_cases h0 : num (behind (by0 s)) = 0
          · rw [decide_eq_true h0] at hd
            exact (read_zero_f s _ _ w hl hsp hd).mono fun e w' => hno fun g => (g.not_whole hsl).1 h0
          · rw [decide_eq_false h0] at hd
            by_cases h1 : num (behind (by0 s)) = 1
            · rw [decide_eq_true h1] at hd1
              exact (read_one_f s _ _ w hl hsp hd hd1).mono fun e w' => hno fun g => (g.not_whole hsl).2.1 h1
            · rw [decide_eq_false h1] at hd1
              by_cases hg : Nat.gcd (num (ahead (by0 s))) (num (behind (by0 s))) = 1
              · have hG : Good (by0 s) := good_of hlen hf (by rw [hn]; simp) (fun _ => ⟨h0, h1, hg⟩)
                exact (read_frac_f_t s _ _ w hl hsp hnu hd hd1 hg (Nat.pos_of_ne_zero h0) lA lB).mono fun e w' h => (show ReadQ w true (negB (by0 s)) _ _ e w' from hn ▸ h).yes hG
              · exact (read_frac_f_f s _ _ w hl hsp hnu hd hd1 hg (Nat.pos_of_ne_zero h0) lA lB).mono fun e w' h => hno (fun g => hg (g.not_whole hsl).2.2) h.no
      · rw [hn] at hsp hnu
        by_cases hz : num (ahead (by0 s)) = 0
        · rw [decide_eq_true hz] at hu
          cases hsl : slash (by0 s)
          · rw [hsl] at hsp
            exact (read_minus_f s _ _ w hl hsp hu).mono fun e w' => hno fun g => g.not_minus ⟨hn, hz⟩
          · rw [hsl] at hsp
            exact (read_minus_t s _ _ w hl hsp hu).mono fun e w' => hno fun g => g.not_minus ⟨hn, hz⟩
        · rw [decide_eq_false hz] at hu
          cases hsl : slash (by0 s)
          · rw [hsl] at hsp hnu
            have hg : Good (by0 s) := good_of hlen hf (fun k => hz k.2) (by rw [hsl]; simp)
            exact (read_whole_t_t s _ _ w hl hsp hnu hu).mono fun e w' h => (show ReadQ w true (negB (by0 s)) _ _ e w' from hn ▸ h).yes hg
          · rw [hsl] at hsp hnu
            by_cases h0 : num (behind (by0 s)) = 0
            · rw [decide_eq_true h0] at hd
              exact (read_zero_t s _ _ w hl hsp hu hd).mono fun e w' => hno fun g => (g.not_whole hsl).1 h0
            · rw [decide_eq_false h0] at hd
              by_cases h1 : num (behind (by0 s)) = 1
              · rw [decide_eq_true h1] at hd1
                exact (read_one_t s _ _ w hl hsp hu hd hd1).mono fun e w' => hno fun g => (g.not_whole hsl).2.1 h1
              · rw [decide_eq_false h1] at hd1
                by_cases hg : Nat.gcd (num (ahead (by0 s))) (num (behind (by0 s))) = 1
                · have hG : Good (by0 s) := good_of hlen hf (fun k => hz k.2) (fun _ => ⟨h0, h1, hg⟩)
                  exact (read_frac_t_t s _ _ w hl hsp hnu hu hd hd1 hg (Nat.pos_of_ne_zero h0) lA lB).mono fun e w' h => (show ReadQ w true (negB (by0 s)) _ _ e w' from hn ▸ h).yes hG
                · exact (read_frac_t_f s _ _ w hl hsp hnu hu hd hd1 hg (Nat.pos_of_ne_zero h0) lA lB).mono fun e w' h => hno (fun g => hg (g.not_whole hsl).2.2) h.no
    · rw [decide_eq_false hf] at hsp
      cases hn : negB (by0 s) <;> cases hsl : slash (by0 s) <;> rw [hn, hsl] at hsp
      · exact (read_form_ff s _ _ w hl hsp).mono fun e w' => hno fun g => hf g.formed
      · exact (read_form_ft s _ _ w hl hsp).mono fun e w' => hno fun g => hf g.formed
      · exact (read_form_tf s _ _ w hl hsp).mono fun e w' => hno fun g => hf g.formed
      · exact (read_form_tt s _ _ w hl hsp).mono fun e w' => hno fun g => hf g.formed
  · exact (read_long s w (by omega)).mono fun e w' => hno (bad_long (by rw [by0_len]; omega))

set_option maxRecDepth 100000 in
set_option maxHeartbeats 8000000 in
theorem right_text (s : ByteArray) (w : World) (hs : s.size ≤ 1000000) : Calls Tryz.prog 11 #[.string s] w fun e w' => e = .returned (.bool (decide (Good (by0 s)))) ∧ Below w.heap.size w w' := by
  go_enter Tryz.func11, Tryz.ntmps11
  go_wp2_with fail
  refine (read_any s _ hs).mono ?_
  rintro e w1 (⟨hg, n, adp, np, cp, adq, nq, cq, rfl, hb⟩ | ⟨hg, n, adp, np, cp, adq, nq, cq, rfl, -, -, hb⟩)
  · go_wp2
    go_ret
    exact ⟨by rw [decide_eq_false hg]; rfl, onto hb (alb _ _)⟩
  · go_wp2
    go_ret
    exact ⟨by rw [decide_eq_true hg]; rfl, onto hb (alb _ _)⟩

end Go.Proofs.YtepacminjfeliaaGreatDoor

/-
  rat's both: the numbers of two texts. The texts have 1000000 bytes at most.
-/
namespace Go.Proofs.YtepacminjfeliaaGreatDoor
open Go.RowKit

theorem Good.fits {l : List UInt8} (h : Good l) : FitsQ (worth l) := by
  obtain ⟨h1, h2, -, -⟩ := h.parts
  have hlen := h.1
  refine ⟨?_, ?_⟩
  · rw [← parts_abs h2]
    refine Nat.lt_of_lt_of_le (num_lt h.formed.1.1) (Nat.le_trans (ten_le (show (ahead l).length ≤ 19 * 200 from ?_)) (ten_pw 200))
    have := ahead_le l
    omega
  · rw [← h1]
    refine Nat.lt_of_lt_of_le (num_lt h.formed.2.1) (Nat.le_trans (ten_le (show (behind l).length ≤ 19 * 200 from ?_)) (ten_pw 200))
    have := behind_le l
    omega

theorem IsNum.put3 {W : World} {g : Nat} {n : Bool} {vp vq : Value} {q : Rat} (h : IsNum W n vp vq q) (hb : Boxed W g) (a b c : Value) : IsNum (set3 W g a b c) n vp vq q := by
  obtain ⟨P, Q, rp, rq, hh⟩ := h
  exact ⟨P, Q, rp.put3 hb a b c, rq.put3 hb a b c, hh⟩

/-- What both answers. -/
def BothR (w : World) (ok : Prop) (qa qb : Rat) (e : Ending) (w' : World) : Prop :=
  ∃ n adp np cp adq nq cq m adr nr cr ads ns cs t, e = .returned (.tuple #[numV n (.slice adp np cp) (.slice adq nq cq), numV m (.slice adr nr cr) (.slice ads ns cs), .bool t]) ∧ Below w.heap.size w w' ∧
    ((¬ ok ∧ t = false) ∨ (ok ∧ t = true ∧ IsNum w' n (.slice adp np cp) (.slice adq nq cq) qa ∧ (n = true → qa ≠ 0) ∧ IsNum w' m (.slice adr nr cr) (.slice ads ns cs) qb ∧ (m = true → qb ≠ 0)))

set_option maxRecDepth 100000 in
set_option maxHeartbeats 8000000 in
theorem both_any (a b : ByteArray) (w : World) (ha : a.size ≤ 1000000) (hb : b.size ≤ 1000000) :
    Calls Tryz.prog 39 #[.string a, .string b] w (BothR w (Good (by0 a) ∧ Good (by0 b)) (worth (by0 a)) (worth (by0 b))) := by
  have hra := Lib.hid (fun w => read_any a w ha)
  have hrb := Lib.hid (fun w => read_any b w hb)
  clear ha hb
  obtain ⟨W0, hW0⟩ : ∃ W0, W0 = (w.alloc (.cells #[.bool false, .slice none 0 0, .slice none 0 0] 40)).alloc (.cells #[.bool false, .slice none 0 0, .slice none 0 0] 40) := ⟨_, rfl⟩
  have HB : Below w.heap.size w W0 := by rw [hW0]; exact onto (alb w _) (alb _ _)
  have bx : Bx3 W0 w.heap.size false (.slice none 0 0) (.slice none 0 0) := by rw [hW0]; exact Bx3.below (heap_alloc_new w _) (alb _ _)
  have bz : Bx3 W0 (w.heap.size + 1) false (.slice none 0 0) (.slice none 0 0) := by
    have h := heap_alloc_new (w.alloc (.cells #[.bool false, .slice none 0 0, .slice none 0 0] 40)) (.cells #[.bool false, .slice none 0 0, .slice none 0 0] 40)
    rw [alloc_size] at h
    rw [hW0]; exact h
  have bz0 := bz
  go_enter Tryz.func39, Tryz.ntmps39
  go_wp2_with fail
  rw [← hW0]
  clear hW0
  refine (hra.out _).mono ?_
  rintro e w1 (⟨hg, n, adp, np, cp, adq, nq, cq, rfl, hb⟩ | ⟨hg, n, adp, np, cp, adq, nq, cq, rfl, iA, nA, hb⟩)
  · have HG := Lib.hid hg; clear hg
    replace hb := onto hb (alb w1 (.cells #[.bool n, .slice adp np cp, .slice adq nq cq] 40))
    replace bx := bx.below hb
    replace bz := bz.below hb
    replace HB := onto HB hb
    clear hb
    obtain ⟨a0, a1, a2⟩ := bx.cells
    have fa0 := bx.free 0
    have fa1 := bx.free 1
    have fa2 := bx.free 2
    have bz1 := bz.other (show w.heap.size + 1 ≠ w.heap.size by omega) (.bool false) (.slice none 0 0) (.slice none 0 0)
    obtain ⟨b0, b1, b2⟩ := bz1.cells
    have fb0 := bz1.free 0
    have fb1 := bz1.free 1
    have fb2 := bz1.free 2
    have bx2 := (bx.put false (.slice none 0 0) (.slice none 0 0)).other (show w.heap.size ≠ w.heap.size + 1 by omega) (.bool false) (.slice none 0 0) (.slice none 0 0)
    have bz2 := bz1.put false (.slice none 0 0) (.slice none 0 0)
    obtain ⟨d0, d1, d2⟩ := bx2.cells
    obtain ⟨e0, e1, e2⟩ := bz2.cells
    have hB := set3_below (set3_below HB (Nat.le_refl w.heap.size) (.bool false) (.slice none 0 0) (.slice none 0 0)) (show w.heap.size ≤ w.heap.size + 1 by omega) (.bool false) (.slice none 0 0) (.slice none 0 0)
    go_wp2
    try simp only [Exit.inBlock, Exit.then]
    refine bodyPost_ret (v := .tuple #[numV false (.slice none 0 0) (.slice none 0 0), numV false (.slice none 0 0) (.slice none 0 0), .bool false]) (by simp [results, Tryz.results39, go_sem, d0, d1, d2, e0, e1, e2]) rfl ?_
    exact ⟨false, none, 0, 0, none, 0, 0, false, none, 0, 0, none, 0, 0, false, rfl, hB, .inl ⟨fun h => HG.out h.1, rfl⟩⟩
  · have HG := Lib.hid hg; clear hg
    have HN := Lib.hid nA; clear nA
    have hal := alb w1 (.cells #[.bool n, .slice adp np cp, .slice adq nq cq] 40)
    have by1 : Bx3 (w1.alloc (.cells #[.bool n, .slice adp np cp, .slice adq nq cq] 40)) w1.heap.size n (.slice adp np cp) (.slice adq nq cq) := heap_alloc_new w1 _
    have hz1 : w.heap.size + 1 < w1.heap.size := lt_heap (bz.below hb)
    replace bx := (bx.below hb).below hal
    replace bz := (bz.below hb).below hal
    replace HB := onto HB (onto hb hal)
    replace iA := iA.below hal
    clear hb hal
    go_wp2_with fail
    refine (hrb.out _).mono ?_
    rintro e w2 (⟨hk, m, adr, nr, cr, ads, ns, cs, rfl, hb⟩ | ⟨hk, m, adr, nr, cr, ads, ns, cs, rfl, iB, nB, hb⟩)
    · have HK := Lib.hid hk; clear hk
      have hz2 : w.heap.size + 1 < w2.heap.size := lt_heap (bz.below hb)
      replace hb := onto hb (alb w2 (.cells #[.bool m, .slice adr nr cr, .slice ads ns cs] 40))
      have bw : Bx3 (w2.alloc (.cells #[.bool m, .slice adr nr cr, .slice ads ns cs] 40)) w2.heap.size m (.slice adr nr cr) (.slice ads ns cs) := heap_alloc_new w2 _
      replace bx := bx.below hb
      replace bz := bz.below hb
      replace by1 := by1.below hb
      replace HB := onto HB hb
      clear hb iA
      obtain ⟨x0, x1, x2⟩ := by1.cells
      obtain ⟨y0, y1, y2⟩ := bw.cells
      obtain ⟨u0, u1, u2⟩ := (bw.other (show w2.heap.size ≠ w.heap.size by omega) (.bool n) (.slice adp np cp) (.slice adq nq cq)).cells
      obtain ⟨a0, a1, a2⟩ := bx.cells
      have fa0 := bx.free 0
      have fa1 := bx.free 1
      have fa2 := bx.free 2
      have bz1 := bz.other (show w.heap.size + 1 ≠ w.heap.size by omega) (.bool n) (.slice adp np cp) (.slice adq nq cq)
      obtain ⟨b0, b1, b2⟩ := bz1.cells
      have fb0 := bz1.free 0
      have fb1 := bz1.free 1
      have fb2 := bz1.free 2
      have bx2 := (bx.put n (.slice adp np cp) (.slice adq nq cq)).other (show w.heap.size ≠ w.heap.size + 1 by omega) (.bool m) (.slice adr nr cr) (.slice ads ns cs)
      have bz2 := bz1.put m (.slice adr nr cr) (.slice ads ns cs)
      obtain ⟨d0, d1, d2⟩ := bx2.cells
      obtain ⟨e0, e1, e2⟩ := bz2.cells
      have hB := set3_below (set3_below HB (Nat.le_refl w.heap.size) (.bool n) (.slice adp np cp) (.slice adq nq cq)) (show w.heap.size ≤ w.heap.size + 1 by omega) (.bool m) (.slice adr nr cr) (.slice ads ns cs)
      go_wp2_with fail
      go_region
      go_wp2
      try simp only [Exit.inBlock, Exit.then]
      refine bodyPost_ret (v := .tuple #[numV n (.slice adp np cp) (.slice adq nq cq), numV m (.slice adr nr cr) (.slice ads ns cs), .bool false]) (by simp [results, Tryz.results39, go_sem, d0, d1, d2, e0, e1, e2]) rfl ?_
      exact ⟨n, adp, np, cp, adq, nq, cq, m, adr, nr, cr, ads, ns, cs, false, rfl, bel_drew hB, .inl ⟨fun h => HK.out h.2, rfl⟩⟩
    · have HK := Lib.hid hk; clear hk
      have hz2 : w.heap.size + 1 < w2.heap.size := lt_heap (bz.below hb)
      have HM := Lib.hid nB; clear nB
      have hal := alb w2 (.cells #[.bool m, .slice adr nr cr, .slice ads ns cs] 40)
      have bw : Bx3 (w2.alloc (.cells #[.bool m, .slice adr nr cr, .slice ads ns cs] 40)) w2.heap.size m (.slice adr nr cr) (.slice ads ns cs) := heap_alloc_new w2 _
      replace bx := (bx.below hb).below hal
      replace bz := (bz.below hb).below hal
      replace by1 := (by1.below hb).below hal
      replace HB := onto HB (onto hb hal)
      replace iA := (iA.below hb).below hal
      replace iB := iB.below hal
      clear hb hal
      obtain ⟨x0, x1, x2⟩ := by1.cells
      obtain ⟨y0, y1, y2⟩ := bw.cells
      obtain ⟨u0, u1, u2⟩ := (bw.other (show w2.heap.size ≠ w.heap.size by omega) (.bool n) (.slice adp np cp) (.slice adq nq cq)).cells
      obtain ⟨a0, a1, a2⟩ := bx.cells
      have fa0 := bx.free 0
      have fa1 := bx.free 1
      have fa2 := bx.free 2
      have bz1 := bz.other (show w.heap.size + 1 ≠ w.heap.size by omega) (.bool n) (.slice adp np cp) (.slice adq nq cq)
      obtain ⟨b0, b1, b2⟩ := bz1.cells
      have fb0 := bz1.free 0
      have fb1 := bz1.free 1
      have fb2 := bz1.free 2
      have bx2 := (bx.put n (.slice adp np cp) (.slice adq nq cq)).other (show w.heap.size ≠ w.heap.size + 1 by omega) (.bool m) (.slice adr nr cr) (.slice ads ns cs)
      have bz2 := bz1.put m (.slice adr nr cr) (.slice ads ns cs)
      obtain ⟨d0, d1, d2⟩ := bx2.cells
      obtain ⟨e0, e1, e2⟩ := bz2.cells
      have hB := set3_below (set3_below HB (Nat.le_refl w.heap.size) (.bool n) (.slice adp np cp) (.slice adq nq cq)) (show w.heap.size ≤ w.heap.size + 1 by omega) (.bool m) (.slice adr nr cr) (.slice ads ns cs)
      have jA := (iA.put3 bx.boxed (.bool n) (.slice adp np cp) (.slice adq nq cq)).put3 bz1.boxed (.bool m) (.slice adr nr cr) (.slice ads ns cs)
      have jB := (iB.put3 bx.boxed (.bool n) (.slice adp np cp) (.slice adq nq cq)).put3 bz1.boxed (.bool m) (.slice adr nr cr) (.slice ads ns cs)
      clear iA iB
      go_wp2_with fail
      go_region
      go_wp2
      try simp only [Exit.inBlock, Exit.then]
      refine bodyPost_ret (v := .tuple #[numV n (.slice adp np cp) (.slice adq nq cq), numV m (.slice adr nr cr) (.slice ads ns cs), .bool true]) (by simp [results, Tryz.results39, go_sem, d0, d1, d2, e0, e1, e2]) rfl ?_
      exact ⟨n, adp, np, cp, adq, nq, cq, m, adr, nr, cr, ads, ns, cs, true, rfl, bel_drew hB, .inr ⟨⟨HG.out, HK.out⟩, rfl, jA.below (bel_drew (Below.refl _ _)), HN.out, jB.below (bel_drew (Below.refl _ _)), HM.out⟩⟩

end Go.Proofs.YtepacminjfeliaaGreatDoor

/-
  rat's reduced, times, by and minus. Parts have 400 limbs at most (reduced: 900).
-/
namespace Go.Proofs.YtepacminjfeliaaGreatDoor
open Go.RowKit

/-- One number's box and another one for what is answered, at a call. -/
theorem entry2 {w : World} {vp vq : Value} {P Q : List Nat} (n : Bool) (rp : Rd w vp P) (rq : Rd w vq Q) :
    Hold w w.heap.size w.heap.size n n vp vq vp vq [(vp, P), (vq, Q)] ((w.alloc (.cells #[.bool n, vp, vq] 40)).alloc (.cells #[.bool false, .slice none 0 0, .slice none 0 0] 40)) ∧
      Bx3 ((w.alloc (.cells #[.bool n, vp, vq] 40)).alloc (.cells #[.bool false, .slice none 0 0, .slice none 0 0] 40)) (w.heap.size + 1) false (.slice none 0 0) (.slice none 0 0) := by
  have h1 := alb w (.cells #[.bool n, vp, vq] 40)
  have h2 := alb (w.alloc (.cells #[.bool n, vp, vq] 40)) (.cells #[.bool false, .slice none 0 0, .slice none 0 0] 40)
  have b1 : Bx3 (w.alloc (.cells #[.bool n, vp, vq] 40)) w.heap.size n vp vq := heap_alloc_new w _
  have b2 := heap_alloc_new (w.alloc (.cells #[.bool n, vp, vq] 40)) (.cells #[.bool false, .slice none 0 0, .slice none 0 0] 40)
  rw [alloc_size] at b2
  have hb := onto h1 h2
  refine ⟨⟨⟨b1.below h2, b1.below h2⟩, fun r hr => ?_, hb⟩, b2⟩
  simp only [List.mem_cons, List.not_mem_nil, or_false] at hr
  rcases hr with rfl | rfl
  · exact rp.below hb
  · exact rq.below hb

set_option maxRecDepth 100000 in
set_option maxHeartbeats 16000000 in
theorem reduced_false {w : World} {vp vq : Value} {P Q : List Nat} (rp : Rd w vp P) (rq : Rd w vq Q) (kp : Can P) (lp : P.length ≤ 900) (lq : Q.length ≤ 900) (hq : val Q ≠ 0) :
    Calls Tryz.prog 27 #[numV false vp vq] w (NumQ w (qv false (val P) (val Q))) := by
  obtain ⟨adp, np, cp, rfl, -⟩ := id rp
  obtain ⟨adq, nq, cq, rfl, -⟩ := id rq
  obtain ⟨hH, bz⟩ := entry2 false rp rq
  have hnum := Lib.hid (qv_num false (val P) hq)
  have hden := Lib.hid (qv_den false (val P) hq)
  have hzero := Lib.hid (qv_zero false (val P) hq)
  have hnp := Lib.hid (len_zero rp kp)
  have hq0 := Lib.hid (Nat.pos_of_ne_zero hq)
  have mp := rp.lim
  have mq := rq.lim
  clear rp rq hq
  obtain ⟨W0, hW0⟩ : ∃ W0, W0 = ((w.alloc (.cells #[.bool false, .slice adp np cp, .slice adq nq cq] 40)).alloc (.cells #[.bool false, .slice none 0 0, .slice none 0 0] 40)) := ⟨_, rfl⟩
  rw [← hW0] at hH bz
  go_enter Tryz.func27, Tryz.ntmps27
  go_wp2_with fail
  rw [← hW0]
  clear hW0
  refine (gcd_any (hH.rd (v := .slice adp np cp) (l := P) (by simp)) (hH.rd (v := .slice adq nq cq) (l := Q) (by simp)) (by omega) (by omega)).mono ?_
  rintro e w1 ⟨adg, ng, ig, G, rfl, rg, kg, vg, hb⟩
  replace hH := (hH.below hb).more rg
  replace bz := bz.below hb
  clear hb rg
  have lg := can_small kg mq lq (by rw [vg]; exact Nat.le_of_dvd hq0.out (Nat.gcd_dvd_right _ _))
  have hg0 := Lib.hid (show 0 < val G by rw [vg]; exact Nat.gcd_pos_of_pos_right _ hq0.out)
  have VG := Lib.hid vg; clear vg
  obtain ⟨⟨c0, c1, c2, c3, c4, c5⟩, -⟩ := hH.six
  have hS0 := hH.below (bel_drew (Below.refl _ _))
  replace bz := bz.below (bel_drew (Below.refl _ _))
  obtain ⟨q0, q1, q2⟩ := bz.cells
  go_wp2_with fail
  clear c0 c1 c2 c3 c4 c5
  refine wp_region_held_drew (S := (fun W => (W.cell? ⟨w.heap.size, 0, none⟩ = some (.bool false) ∧ W.cell? ⟨w.heap.size, 1, none⟩ = some (.slice adp np cp) ∧ W.cell? ⟨w.heap.size, 2, none⟩ = some (.slice adq nq cq)) ∧ Hold w w.heap.size w.heap.size false false (.slice adp np cp) (.slice adq nq cq) (.slice adp np cp) (.slice adq nq cq) [(.slice adg ng ig, G), (.slice adp np cp, P), (.slice adq nq cq, Q)] W)) (by kernel_rfl) hS0.three (fun hHeld => ?_)
  refine wpAnyH_take (i := 0) (v := .pointer (some ⟨w.heap.size, 0, none⟩)) rfl (by kernel_rfl) (by kernel_rfl) (by kernel_rfl) (fun _ _ _ h => h) (Or.inl ⟨rfl, fun u hu => by obtain ⟨⟨a0, a1, a2⟩, -⟩ := hu; go_simp⟩) hHeld ?_
  try simp only [Act.put]
  refine wpAnyH_take (i := 1) (v := .bool false) rfl (by kernel_rfl) (by kernel_rfl) (by kernel_rfl) (fun _ _ _ h => h) (Or.inl ⟨rfl, fun u hu => by obtain ⟨⟨a0, a1, a2⟩, -⟩ := hu; go_simp⟩) hHeld ?_
  try simp only [Act.put]
  refine wpAnyH_take (i := 2) (v := .bool false) rfl (by kernel_rfl) (by kernel_rfl) (by kernel_rfl) (fun _ _ _ h => h) (Or.inl ⟨rfl, fun u hu => by obtain ⟨⟨a0, a1, a2⟩, -⟩ := hu; go_simp⟩) hHeld ?_
  try simp only [Act.put]
  refine wpAnyH_take (i := 3) (v := undef) rfl (by kernel_rfl) (by kernel_rfl) (by kernel_rfl) (fun _ _ _ h => h) (Or.inr ⟨rfl, rfl⟩) hHeld ?_
  try simp only [Act.put]
  refine wpAnyH_take (i := 4) (v := undef) rfl (by kernel_rfl) (by kernel_rfl) (by kernel_rfl) (fun _ _ _ h => h) (Or.inr ⟨rfl, rfl⟩) hHeld ?_
  try simp only [Act.put]
  refine wpAnyH_take (i := 5) (v := undef) rfl (by kernel_rfl) (by kernel_rfl) (by kernel_rfl) (fun _ _ _ h => h) (Or.inr ⟨rfl, rfl⟩) hHeld ?_
  try simp only [Act.put]
  refine wpAnyH_take (i := 6) (v := undef) rfl (by kernel_rfl) (by kernel_rfl) (by kernel_rfl) (fun _ _ _ h => h) (Or.inr ⟨rfl, rfl⟩) hHeld ?_
  try simp only [Act.put]
  refine wpAnyH_take (i := 7) (v := .bool false) rfl (by kernel_rfl) (by kernel_rfl) (by kernel_rfl) (fun _ _ _ h => h) (Or.inl ⟨rfl, fun u hu => by obtain ⟨⟨a0, a1, a2⟩, -⟩ := hu; go_simp⟩) hHeld ?_
  try simp only [Act.put]
  refine wpAnyH_take (i := 8) (v := .pointer (some ⟨w.heap.size, 1, none⟩)) rfl (by kernel_rfl) (by kernel_rfl) (by kernel_rfl) (fun _ _ _ h => h) (Or.inl ⟨rfl, fun u hu => by obtain ⟨⟨a0, a1, a2⟩, -⟩ := hu; go_simp⟩) hHeld ?_
  try simp only [Act.put]
  refine wpAnyH_take (i := 9) (v := .slice adp np cp) rfl (by kernel_rfl) (by kernel_rfl) (by kernel_rfl) (fun _ _ _ h => h) (Or.inl ⟨rfl, fun u hu => by obtain ⟨⟨a0, a1, a2⟩, -⟩ := hu; go_simp⟩) hHeld ?_
  try simp only [Act.put]
  refine wpAnyH_take (i := 10) (v := .slice adg ng ig) rfl (by kernel_rfl) (by kernel_rfl) (by kernel_rfl) (fun _ _ _ h => h) (Or.inl ⟨rfl, fun u hu => by obtain ⟨⟨a0, a1, a2⟩, -⟩ := hu; go_simp⟩) hHeld ?_
  try simp only [Act.put]
  refine wpAnyH_take (i := 12) (v := .pointer (some ⟨w.heap.size, 2, none⟩)) rfl (by kernel_rfl) (by kernel_rfl) (by kernel_rfl) (fun _ _ _ h => h) (Or.inl ⟨rfl, fun u hu => by obtain ⟨⟨a0, a1, a2⟩, -⟩ := hu; go_simp⟩) hHeld ?_
  try simp only [Act.put]
  refine wpAnyH_take (i := 13) (v := .slice adq nq cq) rfl (by kernel_rfl) (by kernel_rfl) (by kernel_rfl) (fun _ _ _ h => h) (Or.inl ⟨rfl, fun u hu => by obtain ⟨⟨a0, a1, a2⟩, -⟩ := hu; go_simp⟩) hHeld ?_
  try simp only [Act.put]
  refine wpAnyH_take (i := 14) (v := .slice adg ng ig) rfl (by kernel_rfl) (by kernel_rfl) (by kernel_rfl) (fun _ _ _ h => h) (Or.inl ⟨rfl, fun u hu => by obtain ⟨⟨a0, a1, a2⟩, -⟩ := hu; go_simp⟩) hHeld ?_
  try simp only [Act.put]
  refine wpAnyH_ready (rs := [11]) (by kernel_rfl) (by simp) (AllReadyH.cons rfl (fun K1 hK1 => ?_) AllReadyH.nil)
  go_simp
  (go_at_call 55; refine (part_any (va := .slice adp np cp) (vb := .slice adg ng ig) (a := P) (b := G) (Hold.rd (by assumption) (by simp)) (Hold.rd (by assumption) (by simp)) (by omega) (by omega) hg0.out).mono ?_; rintro e u6 ⟨ad6, n6, i6, l6, rfl, r6, k6, v6, b6⟩; (try replace r7 := r7.below b6); (replace bz := bz.below (b6)); have hS7 : Hold w w.heap.size w.heap.size false false (.slice adp np cp) (.slice adq nq cq) (.slice adp np cp) (.slice adq nq cq) [(.slice adg ng ig, G), (.slice adp np cp, P), (.slice adq nq cq, Q)] u6 := Hold.below (by assumption) b6; (try clear q0 q1 q2 f0 f1 f2); obtain ⟨q0, q1, q2⟩ := bz.cells; have f0 := bz.free 0; have f1 := bz.free 1; have f2 := bz.free 2)
  go_wp2_with fail
  refine hK1.out _ _ ?_ (fun hHeld => ?_)
  · exact Hold.three (by assumption)
  clear hK1
  try simp only [Act.put]
  refine wpAnyH_ready (rs := [15]) (by kernel_rfl) (by simp) (AllReadyH.cons rfl (fun K1 hK1 => ?_) AllReadyH.nil)
  go_simp
  (go_at_call 55; refine (part_any (va := .slice adq nq cq) (vb := .slice adg ng ig) (a := Q) (b := G) (Hold.rd (by assumption) (by simp)) (Hold.rd (by assumption) (by simp)) (by omega) (by omega) hg0.out).mono ?_; rintro e u7 ⟨ad7, n7, i7, l7, rfl, r7, k7, v7, b7⟩; (try replace r6 := r6.below b7); (replace bz := bz.below (b7)); have hS8 : Hold w w.heap.size w.heap.size false false (.slice adp np cp) (.slice adq nq cq) (.slice adp np cp) (.slice adq nq cq) [(.slice adg ng ig, G), (.slice adp np cp, P), (.slice adq nq cq, Q)] u7 := Hold.below (by assumption) b7; (try clear q0 q1 q2 f0 f1 f2); obtain ⟨q0, q1, q2⟩ := bz.cells; have f0 := bz.free 0; have f1 := bz.free 1; have f2 := bz.free 2)
  go_wp2_with fail
  refine hK1.out _ _ ?_ (fun hHeld => ?_)
  · exact Hold.three (by assumption)
  clear hK1
  try simp only [Act.put]
  refine wpAnyH_take (i := 16) (v := numV false (.slice ad6 n6 i6) (.slice ad7 n7 i7)) rfl (by kernel_rfl) (by kernel_rfl) (by kernel_rfl) (fun _ _ _ h => h) (Or.inl ⟨rfl, fun u hu => by obtain ⟨⟨a0, a1, a2⟩, -⟩ := hu; go_simp⟩) hHeld ?_
  try simp only [Act.put]
  refine wpAnyH_ready (rs := [17]) (by kernel_rfl) (by simp) (AllReadyH.cons rfl (fun K3 hK3 => ?_) AllReadyH.nil)
  go_simp
  refine hK3.out _ _ ?_ (fun hHeld => ?_)
  · exact Hold.three (Hold.put (by assumption) bz (by omega) (by omega) (by omega) _ _ _)
  clear hK3
  refine wpAnyH_done (by kernel_rfl) ?_ _
  have bz2 := bz.put false (.slice ad6 n6 i6) (.slice ad7 n7 i7)
  obtain ⟨d0, d1, d2⟩ := bz2.cells
  have r6' := r6.put3 bz.boxed (.bool false) (.slice ad6 n6 i6) (.slice ad7 n7 i7)
  have r7' := r7.put3 bz.boxed (.bool false) (.slice ad6 n6 i6) (.slice ad7 n7 i7)
  have hB := set3_below hS8.bel (show w.heap.size ≤ w.heap.size + 1 by omega) (.bool false) (.slice ad6 n6 i6) (.slice ad7 n7 i7)
  go_wp2
  try simp only [Exit.inBlock, Exit.then]
  refine bodyPost_ret (v := numV false (.slice ad6 n6 i6) (.slice ad7 n7 i7)) (by simp [results, Tryz.results27, go_sem, d0, d1, d2]) rfl ?_
  refine ⟨false, ad6, n6, i6, ad7, n7, i7, rfl, ⟨l6, l7, r6', r7', k6, k7, ?_, ?_⟩, nofun, hB⟩
  · rw [v6, VG.out]; exact hnum.out.symm
  · rw [v7, VG.out]; exact hden.out.symm

set_option maxRecDepth 100000 in
set_option maxHeartbeats 16000000 in
theorem reduced_true {w : World} {vp vq : Value} {P Q : List Nat} (rp : Rd w vp P) (rq : Rd w vq Q) (kp : Can P) (lp : P.length ≤ 900) (lq : Q.length ≤ 900) (hq : val Q ≠ 0) :
    Calls Tryz.prog 27 #[numV true vp vq] w (NumQ w (qv true (val P) (val Q))) := by
  obtain ⟨adp, np, cp, rfl, -⟩ := id rp
  obtain ⟨adq, nq, cq, rfl, -⟩ := id rq
  obtain ⟨hH, bz⟩ := entry2 true rp rq
  have hnum := Lib.hid (qv_num true (val P) hq)
  have hden := Lib.hid (qv_den true (val P) hq)
  have hzero := Lib.hid (qv_zero true (val P) hq)
  have hnp := Lib.hid (len_zero rp kp)
  have hq0 := Lib.hid (Nat.pos_of_ne_zero hq)
  have mp := rp.lim
  have mq := rq.lim
  clear rp rq hq
  obtain ⟨W0, hW0⟩ : ∃ W0, W0 = ((w.alloc (.cells #[.bool true, .slice adp np cp, .slice adq nq cq] 40)).alloc (.cells #[.bool false, .slice none 0 0, .slice none 0 0] 40)) := ⟨_, rfl⟩
  rw [← hW0] at hH bz
  go_enter Tryz.func27, Tryz.ntmps27
  go_wp2_with fail
  rw [← hW0]
  clear hW0
  refine (gcd_any (hH.rd (v := .slice adp np cp) (l := P) (by simp)) (hH.rd (v := .slice adq nq cq) (l := Q) (by simp)) (by omega) (by omega)).mono ?_
  rintro e w1 ⟨adg, ng, ig, G, rfl, rg, kg, vg, hb⟩
  replace hH := (hH.below hb).more rg
  replace bz := bz.below hb
  clear hb rg
  have lg := can_small kg mq lq (by rw [vg]; exact Nat.le_of_dvd hq0.out (Nat.gcd_dvd_right _ _))
  have hg0 := Lib.hid (show 0 < val G by rw [vg]; exact Nat.gcd_pos_of_pos_right _ hq0.out)
  have VG := Lib.hid vg; clear vg
  obtain ⟨⟨c0, c1, c2, c3, c4, c5⟩, -⟩ := hH.six
  have hS0 := hH.below (bel_drew (Below.refl _ _))
  replace bz := bz.below (bel_drew (Below.refl _ _))
  obtain ⟨q0, q1, q2⟩ := bz.cells
  go_wp2_with fail
  clear c0 c1 c2 c3 c4 c5
  go_region_held3 (fun W => (W.cell? ⟨w.heap.size, 0, none⟩ = some (.bool true) ∧ W.cell? ⟨w.heap.size, 1, none⟩ = some (.slice adp np cp) ∧ W.cell? ⟨w.heap.size, 2, none⟩ = some (.slice adq nq cq)) ∧ Hold w w.heap.size w.heap.size true true (.slice adp np cp) (.slice adq nq cq) (.slice adp np cp) (.slice adq nq cq) [(.slice adg ng ig, G), (.slice adp np cp, P), (.slice adq nq cq, Q)] W)
    ((first | exact Hold.three (by assumption) | exact Hold.three (Hold.put (by assumption) bz (by omega) (by omega) (by omega) _ _ _)))
    ((first
      | ((go_split_ands; go_at_call 55; (with_reducible (show Calls _ _ #[.slice adp np cp, .slice adg ng ig] _ _)); refine (part_any (va := .slice adp np cp) (vb := .slice adg ng ig) (a := P) (b := G) (Hold.rd (by assumption) (by simp)) (Hold.rd (by assumption) (by simp)) (by omega) (by omega) hg0.out).mono ?_; rintro e u6 ⟨ad6, n6, i6, l6, rfl, r6, k6, v6, b6⟩; (try replace r7 := r7.below b6); (replace bz := bz.below (b6)); have hS7 : Hold w w.heap.size w.heap.size true true (.slice adp np cp) (.slice adq nq cq) (.slice adp np cp) (.slice adq nq cq) [(.slice adg ng ig, G), (.slice adp np cp, P), (.slice adq nq cq, Q)] u6 := Hold.below (by assumption) b6; (try clear q0 q1 q2 f0 f1 f2); obtain ⟨q0, q1, q2⟩ := bz.cells; have f0 := bz.free 0; have f1 := bz.free 1; have f2 := bz.free 2))
      | ((go_split_ands; go_at_call 55; (with_reducible (show Calls _ _ #[.slice adq nq cq, .slice adg ng ig] _ _)); refine (part_any (va := .slice adq nq cq) (vb := .slice adg ng ig) (a := Q) (b := G) (Hold.rd (by assumption) (by simp)) (Hold.rd (by assumption) (by simp)) (by omega) (by omega) hg0.out).mono ?_; rintro e u7 ⟨ad7, n7, i7, l7, rfl, r7, k7, v7, b7⟩; (try replace r6 := r6.below b7); (replace bz := bz.below (b7)); have hS8 : Hold w w.heap.size w.heap.size true true (.slice adp np cp) (.slice adq nq cq) (.slice adp np cp) (.slice adq nq cq) [(.slice adg ng ig, G), (.slice adp np cp, P), (.slice adq nq cq, Q)] u7 := Hold.below (by assumption) b7; (try clear q0 q1 q2 f0 f1 f2); obtain ⟨q0, q1, q2⟩ := bz.cells; have f0 := bz.free 0; have f1 := bz.free 1; have f2 := bz.free 2))))
  all_goals
    have bz2 := bz.put (decide (0 < np)) (.slice ad6 n6 i6) (.slice ad7 n7 i7)
    obtain ⟨d0, d1, d2⟩ := bz2.cells
    have r6' := r6.put3 bz.boxed (.bool (decide (0 < np))) (.slice ad6 n6 i6) (.slice ad7 n7 i7)
    have r7' := r7.put3 bz.boxed (.bool (decide (0 < np))) (.slice ad6 n6 i6) (.slice ad7 n7 i7)
    have hB := set3_below hS8.bel (show w.heap.size ≤ w.heap.size + 1 by omega) (.bool (decide (0 < np))) (.slice ad6 n6 i6) (.slice ad7 n7 i7)
    go_wp2
    try simp only [Exit.inBlock, Exit.then]
    refine bodyPost_ret (v := numV (decide (0 < np)) (.slice ad6 n6 i6) (.slice ad7 n7 i7)) (by simp [results, Tryz.results27, go_sem, d0, d1, d2]) rfl ?_
    refine ⟨decide (0 < np), ad6, n6, i6, ad7, n7, i7, rfl, ⟨l6, l7, r6', r7', k6, k7, ?_, ?_⟩, fun h e => ?_, hB⟩
    · rw [v6, VG.out, hnum.out]
      by_cases h0 : np = 0
      · rw [hnp.out.1 h0, Nat.zero_div]; exact sgn_nought _ _
      · rw [decide_eq_true (show 0 < np by omega)]
    · rw [v7, VG.out]; exact hden.out.symm
    · have h1 := hnp.out.2 (hzero.out.1 e)
      have h2 : 0 < np := of_decide_eq_true h
      omega

theorem reduced_any {w : World} {vp vq : Value} {P Q : List Nat} (n : Bool) (rp : Rd w vp P) (rq : Rd w vq Q) (kp : Can P) (lp : P.length ≤ 900) (lq : Q.length ≤ 900) (hq : val Q ≠ 0) :
    Calls Tryz.prog 27 #[numV n vp vq] w (NumQ w (qv n (val P) (val Q))) := by
  cases n
  · exact reduced_false rp rq kp lp lq hq
  · exact reduced_true rp rq kp lp lq hq

set_option maxRecDepth 100000 in
set_option maxHeartbeats 16000000 in
theorem times_nums {w : World} {vp vq vr vs : Value} {P Q R S : List Nat} (n m : Bool) (rp : Rd w vp P) (rq : Rd w vq Q) (rr : Rd w vr R) (rs : Rd w vs S) (lp : P.length ≤ 400) (lq : Q.length ≤ 400) (lr : R.length ≤ 400) (ls : S.length ≤ 400) (hq : val Q ≠ 0) (hs : val S ≠ 0) :
    Calls Tryz.prog 44 #[numV n vp vq, numV m vr vs] w (NumQ w (qv (n != m) (val P * val R) (val Q * val S))) := by
  obtain ⟨adp, np, cp, rfl, -⟩ := id rp
  obtain ⟨adq, nq, cq, rfl, -⟩ := id rq
  obtain ⟨adr, nr, cr, rfl, -⟩ := id rr
  obtain ⟨ads, ns, cs, rfl, -⟩ := id rs
  obtain ⟨hH, bz⟩ := entry3 n m rp rq rr rs
  have hqs := Lib.hid (Nat.mul_ne_zero hq hs)
  have mp := rp.lim
  have mq := rq.lim
  have mr := rr.lim
  have ms := rs.lim
  clear rp rq rr rs hq hs
  have hS0 := hH.below (bel_drew (Below.refl _ _))
  replace bz := bz.below (bel_drew (Below.refl _ _))
  obtain ⟨q0, q1, q2⟩ := bz.cells
  clear hH
  go_enter Tryz.func44, Tryz.ntmps44
  go_wp2_with fail
  go_region_held3 (fun W => (W.cell? ⟨w.heap.size, 0, none⟩ = some (.bool n) ∧ W.cell? ⟨w.heap.size, 1, none⟩ = some (.slice adp np cp) ∧ W.cell? ⟨w.heap.size, 2, none⟩ = some (.slice adq nq cq) ∧ W.cell? ⟨w.heap.size + 1, 0, none⟩ = some (.bool m) ∧ W.cell? ⟨w.heap.size + 1, 1, none⟩ = some (.slice adr nr cr) ∧ W.cell? ⟨w.heap.size + 1, 2, none⟩ = some (.slice ads ns cs)) ∧ Hold w w.heap.size (w.heap.size + 1) n m (.slice adp np cp) (.slice adq nq cq) (.slice adr nr cr) (.slice ads ns cs) [(.slice adp np cp, P), (.slice adq nq cq, Q), (.slice adr nr cr, R), (.slice ads ns cs, S)] W)
    ((first | exact Hold.six (by assumption) | exact Hold.six (Hold.put (by assumption) bz (by omega) (by omega) (by omega) _ _ _)))
    ((first
      | ((go_split_ands; go_at_call 63; (with_reducible (show Calls _ _ #[.slice adp np cp, .slice adr nr cr] _ _)); refine (mul_any (va := .slice adp np cp) (vb := .slice adr nr cr) (a := P) (b := R) (Hold.rd (by assumption) (by simp)) (Hold.rd (by assumption) (by simp)) (by omega) (by omega)).mono ?_; rintro e u6 ⟨ad6, n6, i6, l6, rfl, r6, k6, v6, b6⟩; (try replace r7 := r7.below b6); (replace bz := bz.below (b6)); have hS7 : Hold w w.heap.size (w.heap.size + 1) n m (.slice adp np cp) (.slice adq nq cq) (.slice adr nr cr) (.slice ads ns cs) [(.slice adp np cp, P), (.slice adq nq cq, Q), (.slice adr nr cr, R), (.slice ads ns cs, S)] u6 := Hold.below (by assumption) b6; have j6 : l6.length ≤ 400 + 400 := mul_small k6 mp mr lp lr v6; (try clear q0 q1 q2 f0 f1 f2); obtain ⟨q0, q1, q2⟩ := bz.cells; have f0 := bz.free 0; have f1 := bz.free 1; have f2 := bz.free 2))
      | ((go_split_ands; go_at_call 63; (with_reducible (show Calls _ _ #[.slice adq nq cq, .slice ads ns cs] _ _)); refine (mul_any (va := .slice adq nq cq) (vb := .slice ads ns cs) (a := Q) (b := S) (Hold.rd (by assumption) (by simp)) (Hold.rd (by assumption) (by simp)) (by omega) (by omega)).mono ?_; rintro e u7 ⟨ad7, n7, i7, l7, rfl, r7, k7, v7, b7⟩; (try replace r6 := r6.below b7); (replace bz := bz.below (b7)); have hS8 : Hold w w.heap.size (w.heap.size + 1) n m (.slice adp np cp) (.slice adq nq cq) (.slice adr nr cr) (.slice ads ns cs) [(.slice adp np cp, P), (.slice adq nq cq, Q), (.slice adr nr cr, R), (.slice ads ns cs, S)] u7 := Hold.below (by assumption) b7; have j7 : l7.length ≤ 400 + 400 := mul_small k7 mq ms lq ls v7; (try clear q0 q1 q2 f0 f1 f2); obtain ⟨q0, q1, q2⟩ := bz.cells; have f0 := bz.free 0; have f1 := bz.free 1; have f2 := bz.free 2))
      | ((go_split_ands; go_at_call 27; refine (reduced_any (n != m) r6 r7 k6 (by omega) (by omega) (by rw [v7]; exact hqs.out)).mono ?_; rintro e u8 ⟨neg, ad8, n8, i8, ad9, n9, i9, rfl, h8, z8, b8⟩; (replace bz := bz.below (b8)); have hS9 : Hold w w.heap.size (w.heap.size + 1) n m (.slice adp np cp) (.slice adq nq cq) (.slice adr nr cr) (.slice ads ns cs) [(.slice adp np cp, P), (.slice adq nq cq, Q), (.slice adr nr cr, R), (.slice ads ns cs, S)] u8 := Hold.below (by assumption) b8; (try clear q0 q1 q2 f0 f1 f2); obtain ⟨q0, q1, q2⟩ := bz.cells; have f0 := bz.free 0; have f1 := bz.free 1; have f2 := bz.free 2))))
  all_goals
    obtain ⟨l8, l9, r8, r9, k8, k9, v8, v9⟩ := h8
    have bz2 := bz.put neg (.slice ad8 n8 i8) (.slice ad9 n9 i9)
    obtain ⟨d0, d1, d2⟩ := bz2.cells
    have r8' := r8.put3 bz.boxed (.bool neg) (.slice ad8 n8 i8) (.slice ad9 n9 i9)
    have r9' := r9.put3 bz.boxed (.bool neg) (.slice ad8 n8 i8) (.slice ad9 n9 i9)
    have hB := set3_below hS9.bel (show w.heap.size ≤ w.heap.size + 1 + 1 by omega) (.bool neg) (.slice ad8 n8 i8) (.slice ad9 n9 i9)
    rw [v6, v7] at v8 v9 z8
    go_wp2
    try simp only [Exit.inBlock, Exit.then]
    refine bodyPost_ret (v := numV neg (.slice ad8 n8 i8) (.slice ad9 n9 i9)) (by simp [results, Tryz.results44, go_sem, d0, d1, d2]) rfl ?_
    exact ⟨neg, ad8, n8, i8, ad9, n9, i9, rfl, ⟨l8, l9, r8', r9', k8, k9, v8, v9⟩, z8, hB⟩

theorem times_any {w : World} {vp vq vr vs : Value} {a b : Rat} (n m : Bool) (ha : IsNum w n vp vq a) (hb : IsNum w m vr vs b) (fa : FitsQ a) (fb : FitsQ b) :
    Calls Tryz.prog 44 #[numV n vp vq, numV m vr vs] w (NumQ w (a * b)) := by
  obtain ⟨P, Q, rp, rq, kp, kq, hP, hQ⟩ := ha
  obtain ⟨R, S, rr, rs, kr, ks, hR, hS⟩ := hb
  have h := times_nums n m rp rq rr rs (fa.up kp hP) (fa.down kq hQ) (fb.up kr hR) (fb.down ks hS) (by rw [hQ]; exact a.den_nz) (by rw [hS]; exact b.den_nz)
  rwa [← qv_mul, parts_qv hP hQ, parts_qv hR hS] at h

set_option maxRecDepth 100000 in
set_option maxHeartbeats 16000000 in
theorem by_nums {w : World} {vp vq vr vs : Value} {P Q R S : List Nat} (n m : Bool) (rp : Rd w vp P) (rq : Rd w vq Q) (rr : Rd w vr R) (rs : Rd w vs S) (lp : P.length ≤ 400) (lq : Q.length ≤ 400) (lr : R.length ≤ 400) (ls : S.length ≤ 400) (hq : val Q ≠ 0) (hr : val R ≠ 0) :
    Calls Tryz.prog 46 #[numV n vp vq, numV m vr vs] w (NumQ w (qv (n != m) (val P * val S) (val Q * val R))) := by
  obtain ⟨adp, np, cp, rfl, -⟩ := id rp
  obtain ⟨adq, nq, cq, rfl, -⟩ := id rq
  obtain ⟨adr, nr, cr, rfl, -⟩ := id rr
  obtain ⟨ads, ns, cs, rfl, -⟩ := id rs
  obtain ⟨hH, bz⟩ := entry3 n m rp rq rr rs
  clear rp rq rr rs
  obtain ⟨W0, hW0⟩ : ∃ W0, W0 = (((w.alloc (.cells #[.bool n, .slice adp np cp, .slice adq nq cq] 40)).alloc (.cells #[.bool m, .slice adr nr cr, .slice ads ns cs] 40)).alloc (.cells #[.bool false, .slice none 0 0, .slice none 0 0] 40)) := ⟨_, rfl⟩
  rw [← hW0] at hH bz
  have rp := hH.rd (v := .slice adp np cp) (l := P) (by simp)
  have rq := hH.rd (v := .slice adq nq cq) (l := Q) (by simp)
  have rr := hH.rd (v := .slice adr nr cr) (l := R) (by simp)
  have rs := hH.rd (v := .slice ads ns cs) (l := S) (by simp)
  go_enter Tryz.func46, Tryz.ntmps46
  go_wp2_with fail
  rw [← hW0]
  clear hW0
  refine (times_nums n m rp rq rs rr lp lq ls lr hq hr).mono ?_
  rintro e w1 ⟨neg, ad8, n8, i8, ad9, n9, i9, rfl, h8, z8, b8⟩
  replace bz := bz.below b8
  have HB := onto hH.bel b8
  obtain ⟨q0, q1, q2⟩ := bz.cells
  have f0 := bz.free 0
  have f1 := bz.free 1
  have f2 := bz.free 2
  obtain ⟨l8, l9, r8, r9, k8, k9, v8, v9⟩ := h8
  have bz2 := bz.put neg (.slice ad8 n8 i8) (.slice ad9 n9 i9)
  obtain ⟨d0, d1, d2⟩ := bz2.cells
  have r8' := r8.put3 bz.boxed (.bool neg) (.slice ad8 n8 i8) (.slice ad9 n9 i9)
  have r9' := r9.put3 bz.boxed (.bool neg) (.slice ad8 n8 i8) (.slice ad9 n9 i9)
  have hB := set3_below HB (show w.heap.size ≤ w.heap.size + 1 + 1 by omega) (.bool neg) (.slice ad8 n8 i8) (.slice ad9 n9 i9)
  clear hH rp rq rr rs
  go_wp2
  try simp only [Exit.inBlock, Exit.then]
  refine bodyPost_ret (v := numV neg (.slice ad8 n8 i8) (.slice ad9 n9 i9)) (by simp [results, Tryz.results46, go_sem, d0, d1, d2]) rfl ?_
  exact ⟨neg, ad8, n8, i8, ad9, n9, i9, rfl, ⟨l8, l9, r8', r9', k8, k9, v8, v9⟩, z8, hB⟩

theorem by_any {w : World} {vp vq vr vs : Value} {a b : Rat} (n m : Bool) (ha : IsNum w n vp vq a) (hb : IsNum w m vr vs b) (fa : FitsQ a) (fb : FitsQ b) (h0 : b ≠ 0) :
    Calls Tryz.prog 46 #[numV n vp vq, numV m vr vs] w (NumQ w (a / b)) := by
  obtain ⟨P, Q, rp, rq, kp, kq, hP, hQ⟩ := ha
  obtain ⟨R, S, rr, rs, kr, ks, hR, hS⟩ := hb
  have hq : val Q ≠ 0 := by rw [hQ]; exact a.den_nz
  have hs : val S ≠ 0 := by rw [hS]; exact b.den_nz
  have hr : val R ≠ 0 := fun e => h0 ((parts_zero hR).1 e)
  have h := by_nums n m rp rq rr rs (fa.up kp hP) (fa.down kq hQ) (fb.up kr hR) (fb.down ks hS) hq hr
  rwa [← qv_div n m (val P) hq hr hs, parts_qv hP hQ, parts_qv hR hS] at h

set_option maxRecDepth 100000 in
set_option maxHeartbeats 16000000 in
theorem minus_nums {w : World} {vp vq vr vs : Value} {P Q R S : List Nat} {c : Rat} (n m : Bool) (rp : Rd w vp P) (rq : Rd w vq Q) (rr : Rd w vr R) (rs : Rd w vs S)
    (hp : ∀ W, Rd W vp P → Rd W vq Q → Rd W vr R → Rd W vs S → Calls Tryz.prog 34 #[numV n vp vq, numV (!m) vr vs] W (NumQ W c)) :
    Calls Tryz.prog 43 #[numV n vp vq, numV m vr vs] w (NumQ w c) := by
  obtain ⟨adp, np, cp, rfl, -⟩ := id rp
  obtain ⟨adq, nq, cq, rfl, -⟩ := id rq
  obtain ⟨adr, nr, cr, rfl, -⟩ := id rr
  obtain ⟨ads, ns, cs, rfl, -⟩ := id rs
  obtain ⟨hH, bz⟩ := entry3 n m rp rq rr rs
  clear rp rq rr rs
  obtain ⟨W0, hW0⟩ : ∃ W0, W0 = (((w.alloc (.cells #[.bool n, .slice adp np cp, .slice adq nq cq] 40)).alloc (.cells #[.bool m, .slice adr nr cr, .slice ads ns cs] 40)).alloc (.cells #[.bool false, .slice none 0 0, .slice none 0 0] 40)) := ⟨_, rfl⟩
  rw [← hW0] at hH bz
  have rp := hH.rd (v := .slice adp np cp) (l := P) (by simp)
  have rq := hH.rd (v := .slice adq nq cq) (l := Q) (by simp)
  have rr := hH.rd (v := .slice adr nr cr) (l := R) (by simp)
  have rs := hH.rd (v := .slice ads ns cs) (l := S) (by simp)
  go_enter Tryz.func43, Tryz.ntmps43
  go_wp2_with fail
  rw [← hW0]
  clear hW0
  refine (hp _ rp rq rr rs).mono ?_
  rintro e w1 ⟨neg, ad8, n8, i8, ad9, n9, i9, rfl, h8, z8, b8⟩
  replace bz := bz.below b8
  have HB := onto hH.bel b8
  obtain ⟨q0, q1, q2⟩ := bz.cells
  have f0 := bz.free 0
  have f1 := bz.free 1
  have f2 := bz.free 2
  obtain ⟨l8, l9, r8, r9, k8, k9, v8, v9⟩ := h8
  have bz2 := bz.put neg (.slice ad8 n8 i8) (.slice ad9 n9 i9)
  obtain ⟨d0, d1, d2⟩ := bz2.cells
  have r8' := r8.put3 bz.boxed (.bool neg) (.slice ad8 n8 i8) (.slice ad9 n9 i9)
  have r9' := r9.put3 bz.boxed (.bool neg) (.slice ad8 n8 i8) (.slice ad9 n9 i9)
  have hB := set3_below HB (show w.heap.size ≤ w.heap.size + 1 + 1 by omega) (.bool neg) (.slice ad8 n8 i8) (.slice ad9 n9 i9)
  clear hH rp rq rr rs
  go_wp2
  try simp only [Exit.inBlock, Exit.then]
  refine bodyPost_ret (v := numV neg (.slice ad8 n8 i8) (.slice ad9 n9 i9)) (by simp [results, Tryz.results43, go_sem, d0, d1, d2]) rfl ?_
  exact ⟨neg, ad8, n8, i8, ad9, n9, i9, rfl, ⟨l8, l9, r8', r9', k8, k9, v8, v9⟩, z8, hB⟩

theorem nminus_any {w : World} {vp vq vr vs : Value} {a b : Rat} (n m : Bool) (ha : IsNum w n vp vq a) (hb : IsNum w m vr vs b) (hn : n = true → a ≠ 0) (fa : FitsQ a) (fb : FitsQ b) :
    Calls Tryz.prog 43 #[numV n vp vq, numV m vr vs] w (NumQ w (a - b)) := by
  obtain ⟨P, Q, rp, rq, kp, kq, hP, hQ⟩ := ha
  obtain ⟨R, S, rr, rs, kr, ks, hR, hS⟩ := hb
  refine minus_nums n m rp rq rr rs fun W ap aq ar at4 => ?_
  have fb' : FitsQ (-b) := by unfold FitsQ; rw [Rat.neg_num, Int.natAbs_neg, Rat.neg_den]; exact fb
  have h := nplus_any n (!m) ⟨P, Q, ap, aq, kp, kq, hP, hQ⟩ ⟨R, S, ar, at4, kr, ks, by rw [← sgn_neg, hR, Rat.neg_num], by rw [hS, Rat.neg_den]⟩ hn fa fb'
  rwa [← Rat.sub_eq_add_neg] at h

end Go.Proofs.YtepacminjfeliaaGreatDoor

/-
  rat's text of a number. No condition.
-/
namespace Go.Proofs.YtepacminjfeliaaGreatDoor
open Go.RowKit

theorem over_limbs : (10 : Nat) ^ 1900 ≤ pw 198 := by decide +kernel

theorem dec_long {n : Nat} (h : pw 198 ≤ n) : 1900 < (dec n).length := by
  rcases Nat.lt_or_ge 1900 (dec n).length with h1 | h1
  · exact h1
  · have h2 := num_lt (dec_dec n).1
    rw [dec_num] at h2
    have h3 := ten_le h1
    have h4 := over_limbs
    generalize (10 : Nat) ^ 1900 = X at h3 h4
    generalize pw 198 = Y at h h4
    omega

theorem rtxt_of {neg : Bool} {P Q : Nat} {q : Rat} (hP : sgn neg P = q.num) (hQ : Q = q.den) (hn : neg = true → q ≠ 0) :
    rtxt q = (if neg = true then [45] else []) ++ (dec P ++ (if Q = 1 then [] else 47 :: dec Q)) := by
  unfold rtxt
  rw [← hP, ← hQ, sgn_natAbs]
  congr 1
  simp only [sgn_lt]
  cases neg
  · rfl
  · rw [if_pos ⟨rfl, fun e => hn rfl ((parts_zero hP).1 e)⟩, if_pos rfl]

theorem rtxt_up (q : Rat) : (dec q.num.natAbs).length ≤ (rtxt q).length := by
  unfold rtxt
  simp only [List.length_append]
  omega

theorem rtxt_down {q : Rat} (h : q.den ≠ 1) : (dec q.den).length ≤ (rtxt q).length := by
  unfold rtxt
  rw [if_neg h]
  simp only [List.length_append, List.length_cons]
  omega

theorem can_great {l : List Nat} (h : Can l) {k : Nat} (hk : k < l.length) : pw k ≤ val l := Nat.le_trans (pw_le (show k ≤ l.length - 1 by omega)) (h.le (by omega))

theorem limbs_long {P Q : List Nat} {neg : Bool} {q : Rat} (kp : Can P) (kq : Can Q) (hP : sgn neg (val P) = q.num) (hQ : val Q = q.den) (h : 198 < max P.length Q.length) : 1900 < (rtxt q).length := by
  rcases Nat.lt_or_ge 198 P.length with h1 | h1
  · exact Nat.lt_of_lt_of_le (dec_long (by rw [← parts_abs hP]; exact can_great kp h1)) (rtxt_up q)
  · have h2 := can_great kq (show 198 < Q.length by omega)
    rw [hQ] at h2
    refine Nat.lt_of_lt_of_le (dec_long h2) (rtxt_down fun e => ?_)
    rw [e] at h2
    have h3 := pw_le (show 1 ≤ 198 by decide)
    have h4 : pw 1 = 4294967296 := rfl
    omega

set_option maxRecDepth 100000 in
set_option maxHeartbeats 8000000 in
theorem ntext_any {w : World} {vp vq : Value} {q : Rat} (neg : Bool) (h : IsNum w neg vp vq q) (hn : neg = true → q ≠ 0) :
    Calls Tryz.prog 28 #[numV neg vp vq] w (RTold w q) := by
  obtain ⟨P, Q, rp, rq, kp, kq, hP, hQ⟩ := h
  obtain ⟨adp, np, cp, rfl, -⟩ := id rp
  obtain ⟨adq, nq, cq, rfl, -⟩ := id rq
  have hnp := rp.open.1
  have hnq := rq.open.1
  have htx := Lib.hid (rtxt_of hP hQ hn)
  by_cases hl : 198 < max P.length Q.length
  · have hlong := Lib.hid (limbs_long kp kq hP hQ hl)
    have z : decide ((198 : Int) < max (np : Int) (nq : Int)) = true := decide_eq_true (by omega)
    have HB := alb w (.cells #[.bool neg, .slice adp np cp, .slice adq nq cq] 40)
    clear rp rq kp kq hP hQ hn hnp hnq hl htx
    go_enter Tryz.func28, Tryz.ntmps28
    go_wp2
    go_ret2
    exact ⟨HB, .inr ⟨hlong.out, rfl⟩⟩
  · have z : decide ((198 : Int) < max (np : Int) (nq : Int)) = false := decide_eq_false (by omega)
    have lp := Lib.hid (show P.length ≤ 200 by omega)
    have lq := Lib.hid (show Q.length ≤ 200 by omega)
    obtain ⟨W0, hW0⟩ : ∃ W0, W0 = w.alloc (.cells #[.bool neg, .slice adp np cp, .slice adq nq cq] 40) := ⟨_, rfl⟩
    have HB : Below w.heap.size w W0 := by rw [hW0]; exact alb w _
    have bx : Bx3 W0 w.heap.size neg (.slice adp np cp) (.slice adq nq cq) := by rw [hW0]; exact heap_alloc_new w _
    replace rp := rp.below HB
    replace rq := rq.below HB
    clear hn hnp hnq hl
    have HP := Lib.hid hP; clear hP
    have HQ := Lib.hid hQ; clear hQ
    go_enter Tryz.func28, Tryz.ntmps28
    go_wp2_with fail
    rw [← hW0]
    clear hW0
    refine (text_any rp lp.out).mono ?_
    rintro e w1 ⟨s, rfl, ds, ns, hb⟩
    replace rq := rq.below hb
    replace bx := bx.below hb
    replace HB := onto HB hb
    clear hb rp
    have HSD := Lib.hid (texted_dec ds ns)
    have hss : s.size ≤ 2000 := text_size ds kp.1 ns lp.out (by decide)
    clear ds ns
    obtain ⟨c0, c1, c2⟩ := bx.cells
    cases neg
    · have htx2 := htx.out
      rw [if_neg (by decide), List.nil_append, ← HSD.out] at htx2
      have HTX := Lib.hid htx2; clear htx2
      go_wp2_with fail
      refine (text_any rq lq.out).mono ?_
      rintro e w2 ⟨t, rfl, dt, nt, hb⟩
      replace HB := onto HB hb
      clear hb rq c0 c1 c2 bx
      have HTD := Lib.hid (texted_dec dt nt)
      have hts : t.size ≤ 2000 := text_size dt kq.1 nt lq.out (by decide)
      have ht := Lib.toList_data t
      clear dt nt htx
      by_cases h1 : val Q = 1
      · have hy : (t.toList == [49]) = true := by rw [show t.toList = [49] from by rw [ht]; exact HTD.out.trans (by rw [h1]; exact dec_one)]; rfl
        have hx := HTX.out
        rw [if_pos h1, List.append_nil] at hx
        have hU : by0 (s : ByteArray) = rtxt q := by refine Eq.trans ?_ hx.symm; first | rfl | (simp only [by0_append]; rfl) | (simp only [by0_append]; done)
        have hlen : (s : ByteArray).size = (rtxt q).length := by rw [← hU, by0_len]
        have HU := Lib.hid hU; clear hU hx h1 ht
        rcases Nat.lt_or_ge 1900 (s : ByteArray).size with hl | hl
        · have z : decide ((1900 : Int) < (s.size : Int)) = true := decide_eq_true (by have e5 : (⟨#[45]⟩ : ByteArray).size = 1 := rfl; have e7 : (⟨#[47]⟩ : ByteArray).size = 1 := rfl; first | omega | (simp at hl; omega))
          have HL := Lib.hid hl; clear hl
          have HN := Lib.hid hlen; clear hlen
          go_wp2
          go_ret2
          exact ⟨HB, .inr ⟨by rw [← HN.out]; exact HL.out, rfl⟩⟩
        · have z : decide ((1900 : Int) < (s.size : Int)) = false := decide_eq_false (by have e5 : (⟨#[45]⟩ : ByteArray).size = 1 := rfl; have e7 : (⟨#[47]⟩ : ByteArray).size = 1 := rfl; first | omega | (simp at hl; omega))
          have HL := Lib.hid hl; clear hl
          have HN := Lib.hid hlen; clear hlen
          go_wp2
          go_ret2
          exact ⟨HB, .inl ⟨by rw [← HN.out]; exact HL.out, _, rfl, HU.out⟩⟩
      · have hy : (t.toList == [49]) = false := by rw [beq_eq_false_iff_ne]; exact fun e => h1 (dec_inj (by rw [← HTD.out, dec_one, ← e, ht]))
        have hx := HTX.out
        rw [if_neg h1, ← HTD.out] at hx
        have hU : by0 (s ++ (⟨#[47]⟩ ++ t) : ByteArray) = rtxt q := by refine Eq.trans ?_ hx.symm; first | rfl | (simp only [by0_append]; rfl) | (simp only [by0_append]; done)
        have hlen : (s ++ (⟨#[47]⟩ ++ t) : ByteArray).size = (rtxt q).length := by rw [← hU, by0_len]
        have HU := Lib.hid hU; clear hU hx h1 ht
        rcases Nat.lt_or_ge 1900 (s ++ (⟨#[47]⟩ ++ t) : ByteArray).size with hl | hl
        · have z : decide ((1900 : Int) < (s.size : Int) + (1 + (t.size : Int))) = true := decide_eq_true (by have e5 : (⟨#[45]⟩ : ByteArray).size = 1 := rfl; have e7 : (⟨#[47]⟩ : ByteArray).size = 1 := rfl; first | omega | (simp at hl; omega))
          have HL := Lib.hid hl; clear hl
          have HN := Lib.hid hlen; clear hlen
          go_wp2
          go_ret2
          exact ⟨HB, .inr ⟨by rw [← HN.out]; exact HL.out, rfl⟩⟩
        · have z : decide ((1900 : Int) < (s.size : Int) + (1 + (t.size : Int))) = false := decide_eq_false (by have e5 : (⟨#[45]⟩ : ByteArray).size = 1 := rfl; have e7 : (⟨#[47]⟩ : ByteArray).size = 1 := rfl; first | omega | (simp at hl; omega))
          have HL := Lib.hid hl; clear hl
          have HN := Lib.hid hlen; clear hlen
          go_wp2
          go_ret2
          exact ⟨HB, .inl ⟨by rw [← HN.out]; exact HL.out, _, rfl, HU.out⟩⟩
    · have htx2 := htx.out
      rw [if_pos rfl, ← HSD.out] at htx2
      have HTX := Lib.hid htx2; clear htx2
      go_wp2_with fail
      refine (text_any rq lq.out).mono ?_
      rintro e w2 ⟨t, rfl, dt, nt, hb⟩
      replace HB := onto HB hb
      clear hb rq c0 c1 c2 bx
      have HTD := Lib.hid (texted_dec dt nt)
      have hts : t.size ≤ 2000 := text_size dt kq.1 nt lq.out (by decide)
      have ht := Lib.toList_data t
      clear dt nt htx
      by_cases h1 : val Q = 1
      · have hy : (t.toList == [49]) = true := by rw [show t.toList = [49] from by rw [ht]; exact HTD.out.trans (by rw [h1]; exact dec_one)]; rfl
        have hx := HTX.out
        rw [if_pos h1, List.append_nil] at hx
        have hU : by0 (⟨#[45]⟩ ++ s : ByteArray) = rtxt q := by refine Eq.trans ?_ hx.symm; first | rfl | (simp only [by0_append]; rfl) | (simp only [by0_append]; done)
        have hlen : (⟨#[45]⟩ ++ s : ByteArray).size = (rtxt q).length := by rw [← hU, by0_len]
        have HU := Lib.hid hU; clear hU hx h1 ht
        rcases Nat.lt_or_ge 1900 (⟨#[45]⟩ ++ s : ByteArray).size with hl | hl
        · have z : decide ((1900 : Int) < 1 + (s.size : Int)) = true := decide_eq_true (by have e5 : (⟨#[45]⟩ : ByteArray).size = 1 := rfl; have e7 : (⟨#[47]⟩ : ByteArray).size = 1 := rfl; first | omega | (simp at hl; omega))
          have HL := Lib.hid hl; clear hl
          have HN := Lib.hid hlen; clear hlen
          go_wp2
          go_ret2
          exact ⟨HB, .inr ⟨by rw [← HN.out]; exact HL.out, rfl⟩⟩
        · have z : decide ((1900 : Int) < 1 + (s.size : Int)) = false := decide_eq_false (by have e5 : (⟨#[45]⟩ : ByteArray).size = 1 := rfl; have e7 : (⟨#[47]⟩ : ByteArray).size = 1 := rfl; first | omega | (simp at hl; omega))
          have HL := Lib.hid hl; clear hl
          have HN := Lib.hid hlen; clear hlen
          go_wp2
          go_ret2
          exact ⟨HB, .inl ⟨by rw [← HN.out]; exact HL.out, _, rfl, HU.out⟩⟩
      · have hy : (t.toList == [49]) = false := by rw [beq_eq_false_iff_ne]; exact fun e => h1 (dec_inj (by rw [← HTD.out, dec_one, ← e, ht]))
        have hx := HTX.out
        rw [if_neg h1, ← HTD.out] at hx
        have hU : by0 (⟨#[45]⟩ ++ s ++ (⟨#[47]⟩ ++ t) : ByteArray) = rtxt q := by refine Eq.trans ?_ hx.symm; first | rfl | (simp only [by0_append]; rfl) | (simp only [by0_append]; done)
        have hlen : (⟨#[45]⟩ ++ s ++ (⟨#[47]⟩ ++ t) : ByteArray).size = (rtxt q).length := by rw [← hU, by0_len]
        have HU := Lib.hid hU; clear hU hx h1 ht
        rcases Nat.lt_or_ge 1900 (⟨#[45]⟩ ++ s ++ (⟨#[47]⟩ ++ t) : ByteArray).size with hl | hl
        · have z : decide ((1900 : Int) < 1 + (s.size : Int) + (1 + (t.size : Int))) = true := decide_eq_true (by have e5 : (⟨#[45]⟩ : ByteArray).size = 1 := rfl; have e7 : (⟨#[47]⟩ : ByteArray).size = 1 := rfl; first | omega | (simp at hl; omega))
          have HL := Lib.hid hl; clear hl
          have HN := Lib.hid hlen; clear hlen
          go_wp2
          go_ret2
          exact ⟨HB, .inr ⟨by rw [← HN.out]; exact HL.out, rfl⟩⟩
        · have z : decide ((1900 : Int) < 1 + (s.size : Int) + (1 + (t.size : Int))) = false := decide_eq_false (by have e5 : (⟨#[45]⟩ : ByteArray).size = 1 := rfl; have e7 : (⟨#[47]⟩ : ByteArray).size = 1 := rfl; first | omega | (simp at hl; omega))
          have HL := Lib.hid hl; clear hl
          have HN := Lib.hid hlen; clear hlen
          go_wp2
          go_ret2
          exact ⟨HB, .inl ⟨by rw [← HN.out]; exact HL.out, _, rfl, HU.out⟩⟩

end Go.Proofs.YtepacminjfeliaaGreatDoor
