/-
  A part of the proof: RefGet, RefOver, RefSum.
-/
import Derived.Test.YtepacminjfeliaaGreatDoorG12
import Derived.Deep.RegionHeld3
/-
  The document's get: the number of a text; is it right? The text has 1000000 bytes at most.
-/
namespace Go.Proofs.YtepacminjfeliaaGreatDoor
open Go.RowKit

theorem Box3.free {W : World} {g : Nat} {neg : Bool} {vp vq : Value} (h : Box3 W g neg vp vq) (k : Nat) : W.frozen? ⟨g, k, none⟩ = false := by
  unfold Box3 at h
  simp [World.frozen?, h]

theorem Box3.put {W : World} {g : Nat} {neg : Bool} {vp vq : Value} (h : Box3 W g neg vp vq) (n2 : Bool) (p2 q2 : Value) : Box3 (((W.setCell ⟨g, 0, none⟩ (.bool n2)).setCell ⟨g, 1, none⟩ p2).setCell ⟨g, 2, none⟩ q2) g n2 p2 q2 := by
  unfold Box3 at h ⊢
  simp [World.setCell, Array.getElem?_modify, h]

theorem Box3.put1 {W : World} {g : Nat} {neg : Bool} {vp vq : Value} (h : Box3 W g neg vp vq) (n2 : Bool) : Box3 (W.setCell ⟨g, 0, none⟩ (.bool n2)) g n2 vp vq := by
  unfold Box3 at h ⊢
  simp [World.setCell, Array.getElem?_modify, h]

theorem Box3.put2 {W : World} {g : Nat} {neg : Bool} {vp vq : Value} (h : Box3 W g neg vp vq) (p2 : Value) : Box3 (W.setCell ⟨g, 1, none⟩ p2) g neg p2 vq := by
  unfold Box3 at h ⊢
  simp [World.setCell, Array.getElem?_modify, h]

/-- A number's limbs lie in no box: a store into one leaves them. -/
theorem Rd.box {W : World} {g : Nat} {neg : Bool} {a1 a2 : Option Addr} {n1 n2 c1 c2 : Nat} {v : Value} {l : List Nat} (h : Rd W v l) (hb : Box3 W g neg (.slice a1 n1 c1) (.slice a2 n2 c2)) (k : Nat) (u : Value) : Rd (W.setCell ⟨g, k, none⟩ u) v l := by
  obtain ⟨ad, n, cap, rfl, hn, hcap, hlim, hc⟩ := h
  refine ⟨ad, n, cap, rfl, hn, hcap, hlim, fun h0 => ?_⟩
  obtain ⟨b, o, e, hlt, hcell⟩ := hc h0
  have hne : b ≠ g := by
    intro hbg
    subst hbg
    obtain ⟨x, hx⟩ : ∃ x, l[0]? = some x := ⟨_, List.getElem?_eq_getElem (by omega)⟩
    have h1 := hcell 0 x hx
    unfold Box3 at hb
    simp only [World.cell?, hb] at h1
    match o, h1 with
    | 0, h1 => simp at h1
    | 1, h1 => simp at h1
    | 2, h1 => simp at h1
    | o + 3, h1 => simp at h1
  have g1 := grown_set W g k u
  refine ⟨b, o, e, Nat.lt_of_lt_of_le hlt g1.size, fun i x hi => ?_⟩
  rw [World.cell?_of_block (a := ⟨b, o + i, none⟩) (g1.block b hlt (by simpa using hne))]
  exact hcell i x hi

/-- What get answers. -/
def Got (w : World) (s : ByteArray) (e : Ending) (w' : World) : Prop :=
  Below w.heap.size w w' ∧ ((¬ Good (by0 s) ∧ e = .returned (.tuple #[noNum, .bool false])) ∨
    (Good (by0 s) ∧ ∃ adp np cp adq nq cq P Q, e = .returned (.tuple #[numV (negB (by0 s)) (.slice adp np cp) (.slice adq nq cq), .bool true]) ∧ Rd w' (.slice adp np cp) P ∧ Rd w' (.slice adq nq cq) Q ∧ Can P ∧ Can Q ∧ val P = num (ahead (by0 s)) ∧ val Q = num (behind (by0 s))))

set_option maxRecDepth 100000 in
set_option maxHeartbeats 8000000 in
theorem get_long (s : ByteArray) (w : World) (hs : s.size ≤ 1000000) (hl : Hid (1900 < s.size)) : Calls Tryz.prog 35 #[.string s] w (Got w s) := by
  have HB := Below.refl w.heap.size w
  have HS := Lib.hid hs; clear hs
  have hsa := Lib.hid (aheadS_size s)
  have hsb := Lib.hid (behindS_size s)
  replace HB := alb w (.cells #[.bool false, .slice none 0 0, .slice none 0 0] 49)
  have bx : Box3 (w.alloc (.cells #[.bool false, .slice none 0 0, .slice none 0 0] 49)) w.heap.size false (.slice none 0 0) (.slice none 0 0) := heap_alloc_new w _
  go_enter Tryz.func35, Tryz.ntmps35
  go_wp2_with fail
  refine (cut_any s _ HS.out).mono ?_
  rintro e w1 ⟨rfl, hb⟩
  replace bx := bx.below hb
  replace HB := onto HB hb
  clear hb
  unfold Cutted
  have z : decide ((1900 : Int) < (s.size : Int)) = true := decide_eq_true (by have := hl.out; omega)
  have c0 := bx.cell0
  have f0 := bx.free 0
  have c1 := bx.cell1
  have f1 := bx.free 1
  have c2 := bx.cell2
  have f2 := bx.free 2
  have bx2 := bx.put false (.slice none 0 0) (.slice none 0 0)
  go_wp2
  have d0 := bx2.cell0
  have d1 := bx2.cell1
  have d2 := bx2.cell2
  obtain ⟨W4, hW4⟩ : ∃ W4, W4 = ((w1.setCell ⟨w.heap.size, 0, none⟩ (.bool false)).setCell ⟨w.heap.size, 1, none⟩ (.slice none 0 0)).setCell ⟨w.heap.size, 2, none⟩ (.slice none 0 0) := ⟨_, rfl⟩
  have hB4 : Below w.heap.size w W4 := by rw [hW4]; exact ((HB.setCell (p := ⟨w.heap.size, 0, none⟩) (Nat.le_refl _) _).setCell (p := ⟨w.heap.size, 1, none⟩) (Nat.le_refl _) _).setCell (p := ⟨w.heap.size, 2, none⟩) (Nat.le_refl _) _
  rw [← hW4] at d0 d1 d2 ⊢
  try simp only [Exit.inBlock, Exit.then]
  refine bodyPost_ret (v := .tuple #[noNum, .bool false]) (by simp [results, Tryz.results35, go_sem, d0, d1, d2]) rfl ?_
  exact ⟨hB4, .inl ⟨bad_long (by rw [by0_len]; exact hl.out), rfl⟩⟩

set_option maxRecDepth 100000 in
set_option maxHeartbeats 8000000 in
theorem get_bad1 (s : ByteArray) (w : World) (hs : s.size ≤ 1000000) (hl : Hid (s.size ≤ 1900)) (hd : Hid (¬ Dec (ahead (by0 s)))) : Calls Tryz.prog 35 #[.string s] w (Got w s) := by
  have HB := Below.refl w.heap.size w
  have HS := Lib.hid hs; clear hs
  have hsa := Lib.hid (aheadS_size s)
  have hsb := Lib.hid (behindS_size s)
  replace HB := alb w (.cells #[.bool false, .slice none 0 0, .slice none 0 0] 49)
  have bx : Box3 (w.alloc (.cells #[.bool false, .slice none 0 0, .slice none 0 0] 49)) w.heap.size false (.slice none 0 0) (.slice none 0 0) := heap_alloc_new w _
  go_enter Tryz.func35, Tryz.ntmps35
  go_wp2_with fail
  refine (cut_any s _ HS.out).mono ?_
  rintro e w1 ⟨rfl, hb⟩
  replace bx := bx.below hb
  replace HB := onto HB hb
  clear hb
  unfold Cutted
  have z : decide ((1900 : Int) < (s.size : Int)) = false := decide_eq_false (by have := hl.out; omega)
  go_wp2_with fail
  refine (rright_is (aheadS s) _ (by have := hsa.out; have := HS.out; omega) (b := false) (by rw [aheadS_by0]; exact decide_eq_false hd.out)).mono ?_
  rintro e w2 ⟨rfl, hb⟩
  replace bx := bx.below hb
  replace HB := onto HB hb
  clear hb
  have c0 := bx.cell0
  have f0 := bx.free 0
  have c1 := bx.cell1
  have f1 := bx.free 1
  have c2 := bx.cell2
  have f2 := bx.free 2
  have bx2 := bx.put false (.slice none 0 0) (.slice none 0 0)
  go_wp2
  have d0 := bx2.cell0
  have d1 := bx2.cell1
  have d2 := bx2.cell2
  obtain ⟨W4, hW4⟩ : ∃ W4, W4 = ((w2.setCell ⟨w.heap.size, 0, none⟩ (.bool false)).setCell ⟨w.heap.size, 1, none⟩ (.slice none 0 0)).setCell ⟨w.heap.size, 2, none⟩ (.slice none 0 0) := ⟨_, rfl⟩
  have hB4 : Below w.heap.size w W4 := by rw [hW4]; exact ((HB.setCell (p := ⟨w.heap.size, 0, none⟩) (Nat.le_refl _) _).setCell (p := ⟨w.heap.size, 1, none⟩) (Nat.le_refl _) _).setCell (p := ⟨w.heap.size, 2, none⟩) (Nat.le_refl _) _
  rw [← hW4] at d0 d1 d2 ⊢
  try simp only [Exit.inBlock, Exit.then]
  refine bodyPost_ret (v := .tuple #[noNum, .bool false]) (by simp [results, Tryz.results35, go_sem, d0, d1, d2]) rfl ?_
  exact ⟨hB4, .inl ⟨bad_ahead hd.out, rfl⟩⟩

set_option maxRecDepth 100000 in
set_option maxHeartbeats 8000000 in
theorem get_bad2 (s : ByteArray) (w : World) (hs : s.size ≤ 1000000) (hl : Hid (s.size ≤ 1900)) (ha : Hid (Dec (ahead (by0 s)))) (hd : Hid (¬ Dec (behind (by0 s)))) : Calls Tryz.prog 35 #[.string s] w (Got w s) := by
  have HB := Below.refl w.heap.size w
  have HS := Lib.hid hs; clear hs
  have hsa := Lib.hid (aheadS_size s)
  have hsb := Lib.hid (behindS_size s)
  replace HB := alb w (.cells #[.bool false, .slice none 0 0, .slice none 0 0] 49)
  have bx : Box3 (w.alloc (.cells #[.bool false, .slice none 0 0, .slice none 0 0] 49)) w.heap.size false (.slice none 0 0) (.slice none 0 0) := heap_alloc_new w _
  go_enter Tryz.func35, Tryz.ntmps35
  go_wp2_with fail
  refine (cut_any s _ HS.out).mono ?_
  rintro e w1 ⟨rfl, hb⟩
  replace bx := bx.below hb
  replace HB := onto HB hb
  clear hb
  unfold Cutted
  have z : decide ((1900 : Int) < (s.size : Int)) = false := decide_eq_false (by have := hl.out; omega)
  go_wp2_with fail
  refine (rright_is (aheadS s) _ (by have := hsa.out; have := HS.out; omega) (b := true) (by rw [aheadS_by0]; exact decide_eq_true ha.out)).mono ?_
  rintro e w2 ⟨rfl, hb⟩
  replace bx := bx.below hb
  replace HB := onto HB hb
  clear hb
  go_wp2_with fail
  refine (rright_is (behindS s) _ (by have := hsb.out; have := HS.out; omega) (b := false) (by rw [behindS_by0]; exact decide_eq_false hd.out)).mono ?_
  rintro e w3 ⟨rfl, hb⟩
  replace bx := bx.below hb
  replace HB := onto HB hb
  clear hb
  have c0 := bx.cell0
  have f0 := bx.free 0
  have c1 := bx.cell1
  have f1 := bx.free 1
  have c2 := bx.cell2
  have f2 := bx.free 2
  have bx2 := bx.put false (.slice none 0 0) (.slice none 0 0)
  go_wp2
  have d0 := bx2.cell0
  have d1 := bx2.cell1
  have d2 := bx2.cell2
  obtain ⟨W4, hW4⟩ : ∃ W4, W4 = ((w3.setCell ⟨w.heap.size, 0, none⟩ (.bool false)).setCell ⟨w.heap.size, 1, none⟩ (.slice none 0 0)).setCell ⟨w.heap.size, 2, none⟩ (.slice none 0 0) := ⟨_, rfl⟩
  have hB4 : Below w.heap.size w W4 := by rw [hW4]; exact ((HB.setCell (p := ⟨w.heap.size, 0, none⟩) (Nat.le_refl _) _).setCell (p := ⟨w.heap.size, 1, none⟩) (Nat.le_refl _) _).setCell (p := ⟨w.heap.size, 2, none⟩) (Nat.le_refl _) _
  rw [← hW4] at d0 d1 d2 ⊢
  try simp only [Exit.inBlock, Exit.then]
  refine bodyPost_ret (v := .tuple #[noNum, .bool false]) (by simp [results, Tryz.results35, go_sem, d0, d1, d2]) rfl ?_
  exact ⟨hB4, .inl ⟨bad_behind hd.out, rfl⟩⟩

set_option maxRecDepth 100000 in
set_option maxHeartbeats 8000000 in
theorem get_zero (s : ByteArray) (w : World) (hs : s.size ≤ 1000000) (hl : Hid (s.size ≤ 1900)) (ha : Hid (Dec (ahead (by0 s)))) (hd : Hid (Dec (behind (by0 s)))) (h0 : Hid (num (behind (by0 s)) = 0)) : Calls Tryz.prog 35 #[.string s] w (Got w s) := by
  have HB := Below.refl w.heap.size w
  have HS := Lib.hid hs; clear hs
  have hsa := Lib.hid (aheadS_size s)
  have hsb := Lib.hid (behindS_size s)
  replace HB := alb w (.cells #[.bool false, .slice none 0 0, .slice none 0 0] 49)
  have bx : Box3 (w.alloc (.cells #[.bool false, .slice none 0 0, .slice none 0 0] 49)) w.heap.size false (.slice none 0 0) (.slice none 0 0) := heap_alloc_new w _
  go_enter Tryz.func35, Tryz.ntmps35
  go_wp2_with fail
  refine (cut_any s _ HS.out).mono ?_
  rintro e w1 ⟨rfl, hb⟩
  replace bx := bx.below hb
  replace HB := onto HB hb
  clear hb
  unfold Cutted
  have z : decide ((1900 : Int) < (s.size : Int)) = false := decide_eq_false (by have := hl.out; omega)
  go_wp2_with fail
  refine (rright_is (aheadS s) _ (by have := hsa.out; have := HS.out; omega) (b := true) (by rw [aheadS_by0]; exact decide_eq_true ha.out)).mono ?_
  rintro e w2 ⟨rfl, hb⟩
  replace bx := bx.below hb
  replace HB := onto HB hb
  clear hb
  go_wp2_with fail
  refine (rright_is (behindS s) _ (by have := hsb.out; have := HS.out; omega) (b := true) (by rw [behindS_by0]; exact decide_eq_true hd.out)).mono ?_
  rintro e w3 ⟨rfl, hb⟩
  replace bx := bx.below hb
  replace HB := onto HB hb
  clear hb
  go_wp2_with fail
  refine (rparse_ok (aheadS s) _ (by rw [aheadS_by0]; exact ha.out) (by have := hsa.out; have := hl.out; omega)).mono ?_
  rintro e w4 ⟨adp, np, cp, P, rfl, rp, kp, vp, hb⟩
  replace bx := bx.below hb
  replace HB := onto HB hb
  clear hb
  have Hvp := Lib.hid vp; clear vp
  go_wp2_with fail
  refine (rparse_ok (behindS s) _ (by rw [behindS_by0]; exact hd.out) (by have := hsb.out; have := hl.out; omega)).mono ?_
  rintro e w5 ⟨adq, nq, cq, Q, rfl, rq, kq, vq, hb⟩
  replace bx := bx.below hb
  replace rp := rp.below hb
  replace HB := onto HB hb
  clear hb
  have Hvq := Lib.hid vq; clear vq
  have hpv : val P = num (ahead (by0 s)) := by rw [Hvp.out, aheadS_by0]
  have hqv : val Q = num (behind (by0 s)) := by rw [Hvq.out, behindS_by0]
  have HPV := Lib.hid hpv; clear hpv
  have HQV := Lib.hid hqv; clear hqv
  have lp : P.length ≤ 450 := by have := few_limbs (by rw [aheadS_by0]; exact ha.out.1 : Digs (by0 (aheadS s))) (by rw [by0_len]; have := hsa.out; have := hl.out; omega) kp (by rw [Hvp.out]; exact Nat.le_refl _); omega
  have lq : Q.length ≤ 450 := by have := few_limbs (by rw [behindS_by0]; exact hd.out.1 : Digs (by0 (behindS s))) (by rw [by0_len]; have := hsb.out; have := hl.out; omega) kq (by rw [Hvq.out]; exact Nat.le_refl _); omega
  have hnq := len_zero rq kq
  obtain rfl : nq = 0 := hnq.2 (by rw [HQV.out]; exact h0.out)
  clear hnq
  have hal := alb w5 (.cells #[.bool (negB (by0 s)), .slice adp np cp, .slice adq 0 cq] 49)
  replace bx := bx.below hal
  replace HB := onto HB hal
  clear hal
  have c0 := bx.cell0
  have f0 := bx.free 0
  have c1 := bx.cell1
  have f1 := bx.free 1
  have c2 := bx.cell2
  have f2 := bx.free 2
  have bx2 := bx.put false (.slice none 0 0) (.slice none 0 0)
  go_wp2
  have d0 := bx2.cell0
  have d1 := bx2.cell1
  have d2 := bx2.cell2
  obtain ⟨W4, hW4⟩ : ∃ W4, W4 = (((w5.alloc (.cells #[.bool (negB (by0 s)), .slice adp np cp, .slice adq 0 cq] 49)).setCell ⟨w.heap.size, 0, none⟩ (.bool false)).setCell ⟨w.heap.size, 1, none⟩ (.slice none 0 0)).setCell ⟨w.heap.size, 2, none⟩ (.slice none 0 0) := ⟨_, rfl⟩
  have hB4 : Below w.heap.size w W4 := by rw [hW4]; exact ((HB.setCell (p := ⟨w.heap.size, 0, none⟩) (Nat.le_refl _) _).setCell (p := ⟨w.heap.size, 1, none⟩) (Nat.le_refl _) _).setCell (p := ⟨w.heap.size, 2, none⟩) (Nat.le_refl _) _
  rw [← hW4] at d0 d1 d2 ⊢
  try simp only [Exit.inBlock, Exit.then]
  refine bodyPost_ret (v := .tuple #[noNum, .bool false]) (by simp [results, Tryz.results35, go_sem, d0, d1, d2]) rfl ?_
  exact ⟨hB4, .inl ⟨fun g => g.den h0.out, rfl⟩⟩

set_option maxRecDepth 100000 in
set_option maxHeartbeats 8000000 in
theorem get_diff (s : ByteArray) (w : World) (hs : s.size ≤ 1000000) (hl : Hid (s.size ≤ 1900)) (ha : Hid (Dec (ahead (by0 s)))) (hd : Hid (Dec (behind (by0 s)))) (h0 : Hid (num (behind (by0 s)) ≠ 0)) (hg : Hid (¬ Good (by0 s))) : Calls Tryz.prog 35 #[.string s] w (Got w s) := by
  have HB := Below.refl w.heap.size w
  have HS := Lib.hid hs; clear hs
  have hsa := Lib.hid (aheadS_size s)
  have hsb := Lib.hid (behindS_size s)
  replace HB := alb w (.cells #[.bool false, .slice none 0 0, .slice none 0 0] 49)
  have bx : Box3 (w.alloc (.cells #[.bool false, .slice none 0 0, .slice none 0 0] 49)) w.heap.size false (.slice none 0 0) (.slice none 0 0) := heap_alloc_new w _
  go_enter Tryz.func35, Tryz.ntmps35
  go_wp2_with fail
  refine (cut_any s _ HS.out).mono ?_
  rintro e w1 ⟨rfl, hb⟩
  replace bx := bx.below hb
  replace HB := onto HB hb
  clear hb
  unfold Cutted
  have z : decide ((1900 : Int) < (s.size : Int)) = false := decide_eq_false (by have := hl.out; omega)
  go_wp2_with fail
  refine (rright_is (aheadS s) _ (by have := hsa.out; have := HS.out; omega) (b := true) (by rw [aheadS_by0]; exact decide_eq_true ha.out)).mono ?_
  rintro e w2 ⟨rfl, hb⟩
  replace bx := bx.below hb
  replace HB := onto HB hb
  clear hb
  go_wp2_with fail
  refine (rright_is (behindS s) _ (by have := hsb.out; have := HS.out; omega) (b := true) (by rw [behindS_by0]; exact decide_eq_true hd.out)).mono ?_
  rintro e w3 ⟨rfl, hb⟩
  replace bx := bx.below hb
  replace HB := onto HB hb
  clear hb
  go_wp2_with fail
  refine (rparse_ok (aheadS s) _ (by rw [aheadS_by0]; exact ha.out) (by have := hsa.out; have := hl.out; omega)).mono ?_
  rintro e w4 ⟨adp, np, cp, P, rfl, rp, kp, vp, hb⟩
  replace bx := bx.below hb
  replace HB := onto HB hb
  clear hb
  have Hvp := Lib.hid vp; clear vp
  go_wp2_with fail
  refine (rparse_ok (behindS s) _ (by rw [behindS_by0]; exact hd.out) (by have := hsb.out; have := hl.out; omega)).mono ?_
  rintro e w5 ⟨adq, nq, cq, Q, rfl, rq, kq, vq, hb⟩
  replace bx := bx.below hb
  replace rp := rp.below hb
  replace HB := onto HB hb
  clear hb
  have Hvq := Lib.hid vq; clear vq
  have hpv : val P = num (ahead (by0 s)) := by rw [Hvp.out, aheadS_by0]
  have hqv : val Q = num (behind (by0 s)) := by rw [Hvq.out, behindS_by0]
  have HPV := Lib.hid hpv; clear hpv
  have HQV := Lib.hid hqv; clear hqv
  have lp : P.length ≤ 450 := by have := few_limbs (by rw [aheadS_by0]; exact ha.out.1 : Digs (by0 (aheadS s))) (by rw [by0_len]; have := hsa.out; have := hl.out; omega) kp (by rw [Hvp.out]; exact Nat.le_refl _); omega
  have lq : Q.length ≤ 450 := by have := few_limbs (by rw [behindS_by0]; exact hd.out.1 : Digs (by0 (behindS s))) (by rw [by0_len]; have := hsb.out; have := hl.out; omega) kq (by rw [Hvq.out]; exact Nat.le_refl _); omega
  have hnq := len_zero rq kq
  have hn0 : nq ≠ 0 := fun e => h0.out (by rw [← HQV.out]; exact hnq.1 e)
  have z0 : ((nq : Int) == 0) = false := by simp; omega
  clear hnq
  have hal := alb w5 (.cells #[.bool (negB (by0 s)), .slice adp np cp, .slice adq nq cq] 49)
  have bY : Box3 (w5.alloc (.cells #[.bool (negB (by0 s)), .slice adp np cp, .slice adq nq cq] 49)) w5.heap.size (negB (by0 s)) (.slice adp np cp) (.slice adq nq cq) := heap_alloc_new w5 _
  obtain ⟨gY, hgY⟩ : ∃ gY, gY = w5.heap.size := ⟨_, rfl⟩
  have hgy : w.heap.size < gY := by rw [hgY]; exact lt_heap bx
  replace bx := bx.below hal
  replace rp := rp.below hal
  replace rq := rq.below hal
  replace HB := onto HB hal
  clear hal
  rw [← hgY] at bY
  clear hn0
  have e0 := bY.cell0
  have e1 := bY.cell1
  have e2 := bY.cell2
  rw [hgY] at e0 e1 e2
  go_wp2_with fail
  clear e0 e1 e2
  rw [← hgY]
  clear hgY
  refine (rtxt_any (negB (by0 s)) rp rq lp lq (by rw [HQV.out]; exact h0.out)).mono ?_
  rintro e w6 ⟨t, rfl, ht, hb⟩
  replace bx := bx.below hb
  replace bY := bY.below hb
  replace rp := rp.below hb
  replace rq := rq.below hb
  replace HB := onto HB hb
  clear hb
  rw [HPV.out, HQV.out, ← worth_qv] at ht
  have HT := Lib.hid ht; clear ht
  have hne : (t.toList == s.toList) = false := beq_eq_false_iff_ne.2 (fun e => hg.out (by
    rw [show t.toList = by0 t from Lib.toList_data t, show s.toList = by0 s from Lib.toList_data s, HT.out] at e
    exact ⟨by rw [by0_len]; exact hl.out, e⟩))
  have c0 := bx.cell0
  have f0 := bx.free 0
  have c1 := bx.cell1
  have f1 := bx.free 1
  have c2 := bx.cell2
  have f2 := bx.free 2
  have bx2 := bx.put false (.slice none 0 0) (.slice none 0 0)
  go_wp2
  have d0 := bx2.cell0
  have d1 := bx2.cell1
  have d2 := bx2.cell2
  obtain ⟨W4, hW4⟩ : ∃ W4, W4 = ((w6.setCell ⟨w.heap.size, 0, none⟩ (.bool false)).setCell ⟨w.heap.size, 1, none⟩ (.slice none 0 0)).setCell ⟨w.heap.size, 2, none⟩ (.slice none 0 0) := ⟨_, rfl⟩
  have hB4 : Below w.heap.size w W4 := by rw [hW4]; exact ((HB.setCell (p := ⟨w.heap.size, 0, none⟩) (Nat.le_refl _) _).setCell (p := ⟨w.heap.size, 1, none⟩) (Nat.le_refl _) _).setCell (p := ⟨w.heap.size, 2, none⟩) (Nat.le_refl _) _
  rw [← hW4] at d0 d1 d2 ⊢
  try simp only [Exit.inBlock, Exit.then]
  refine bodyPost_ret (v := .tuple #[noNum, .bool false]) (by simp [results, Tryz.results35, go_sem, d0, d1, d2]) rfl ?_
  exact ⟨hB4, .inl ⟨hg.out, rfl⟩⟩

set_option maxRecDepth 100000 in
set_option maxHeartbeats 8000000 in
theorem get_good (s : ByteArray) (w : World) (hs : s.size ≤ 1000000) (hl : Hid (s.size ≤ 1900)) (ha : Hid (Dec (ahead (by0 s)))) (hd : Hid (Dec (behind (by0 s)))) (h0 : Hid (num (behind (by0 s)) ≠ 0)) (hg : Hid (Good (by0 s))) : Calls Tryz.prog 35 #[.string s] w (Got w s) := by
  have HB := Below.refl w.heap.size w
  have HS := Lib.hid hs; clear hs
  have hsa := Lib.hid (aheadS_size s)
  have hsb := Lib.hid (behindS_size s)
  replace HB := alb w (.cells #[.bool false, .slice none 0 0, .slice none 0 0] 49)
  have bx : Box3 (w.alloc (.cells #[.bool false, .slice none 0 0, .slice none 0 0] 49)) w.heap.size false (.slice none 0 0) (.slice none 0 0) := heap_alloc_new w _
  go_enter Tryz.func35, Tryz.ntmps35
  go_wp2_with fail
  refine (cut_any s _ HS.out).mono ?_
  rintro e w1 ⟨rfl, hb⟩
  replace bx := bx.below hb
  replace HB := onto HB hb
  clear hb
  unfold Cutted
  have z : decide ((1900 : Int) < (s.size : Int)) = false := decide_eq_false (by have := hl.out; omega)
  go_wp2_with fail
  refine (rright_is (aheadS s) _ (by have := hsa.out; have := HS.out; omega) (b := true) (by rw [aheadS_by0]; exact decide_eq_true ha.out)).mono ?_
  rintro e w2 ⟨rfl, hb⟩
  replace bx := bx.below hb
  replace HB := onto HB hb
  clear hb
  go_wp2_with fail
  refine (rright_is (behindS s) _ (by have := hsb.out; have := HS.out; omega) (b := true) (by rw [behindS_by0]; exact decide_eq_true hd.out)).mono ?_
  rintro e w3 ⟨rfl, hb⟩
  replace bx := bx.below hb
  replace HB := onto HB hb
  clear hb
  go_wp2_with fail
  refine (rparse_ok (aheadS s) _ (by rw [aheadS_by0]; exact ha.out) (by have := hsa.out; have := hl.out; omega)).mono ?_
  rintro e w4 ⟨adp, np, cp, P, rfl, rp, kp, vp, hb⟩
  replace bx := bx.below hb
  replace HB := onto HB hb
  clear hb
  have Hvp := Lib.hid vp; clear vp
  go_wp2_with fail
  refine (rparse_ok (behindS s) _ (by rw [behindS_by0]; exact hd.out) (by have := hsb.out; have := hl.out; omega)).mono ?_
  rintro e w5 ⟨adq, nq, cq, Q, rfl, rq, kq, vq, hb⟩
  replace bx := bx.below hb
  replace rp := rp.below hb
  replace HB := onto HB hb
  clear hb
  have Hvq := Lib.hid vq; clear vq
  have hpv : val P = num (ahead (by0 s)) := by rw [Hvp.out, aheadS_by0]
  have hqv : val Q = num (behind (by0 s)) := by rw [Hvq.out, behindS_by0]
  have HPV := Lib.hid hpv; clear hpv
  have HQV := Lib.hid hqv; clear hqv
  have lp : P.length ≤ 450 := by have := few_limbs (by rw [aheadS_by0]; exact ha.out.1 : Digs (by0 (aheadS s))) (by rw [by0_len]; have := hsa.out; have := hl.out; omega) kp (by rw [Hvp.out]; exact Nat.le_refl _); omega
  have lq : Q.length ≤ 450 := by have := few_limbs (by rw [behindS_by0]; exact hd.out.1 : Digs (by0 (behindS s))) (by rw [by0_len]; have := hsb.out; have := hl.out; omega) kq (by rw [Hvq.out]; exact Nat.le_refl _); omega
  have hnq := len_zero rq kq
  have hn0 : nq ≠ 0 := fun e => h0.out (by rw [← HQV.out]; exact hnq.1 e)
  have z0 : ((nq : Int) == 0) = false := by simp; omega
  clear hnq
  have hal := alb w5 (.cells #[.bool (negB (by0 s)), .slice adp np cp, .slice adq nq cq] 49)
  have bY : Box3 (w5.alloc (.cells #[.bool (negB (by0 s)), .slice adp np cp, .slice adq nq cq] 49)) w5.heap.size (negB (by0 s)) (.slice adp np cp) (.slice adq nq cq) := heap_alloc_new w5 _
  obtain ⟨gY, hgY⟩ : ∃ gY, gY = w5.heap.size := ⟨_, rfl⟩
  have hgy : w.heap.size < gY := by rw [hgY]; exact lt_heap bx
  replace bx := bx.below hal
  replace rp := rp.below hal
  replace rq := rq.below hal
  replace HB := onto HB hal
  clear hal
  rw [← hgY] at bY
  clear hn0
  have e0 := bY.cell0
  have e1 := bY.cell1
  have e2 := bY.cell2
  rw [hgY] at e0 e1 e2
  go_wp2_with fail
  clear e0 e1 e2
  rw [← hgY]
  clear hgY
  refine (rtxt_any (negB (by0 s)) rp rq lp lq (by rw [HQV.out]; exact h0.out)).mono ?_
  rintro e w6 ⟨t, rfl, ht, hb⟩
  replace bx := bx.below hb
  replace bY := bY.below hb
  replace rp := rp.below hb
  replace rq := rq.below hb
  replace HB := onto HB hb
  clear hb
  rw [HPV.out, HQV.out, ← worth_qv] at ht
  have HT := Lib.hid ht; clear ht
  have hst : t = s := bytes_eq (by rw [HT.out]; exact hg.out.2)
  subst hst
  have c0 := bx.cell0
  have f0 := bx.free 0
  have e0 := bY.cell0
  have c1 := bx.cell1
  have f1 := bx.free 1
  have e1 := bY.cell1
  have c2 := bx.cell2
  have f2 := bx.free 2
  have e2 := bY.cell2
  have bx2 := bx.put (negB (by0 t)) (.slice adp np cp) (.slice adq nq cq)
  go_wp2
  have d0 := bx2.cell0
  have d1 := bx2.cell1
  have d2 := bx2.cell2
  obtain ⟨W4, hW4⟩ : ∃ W4, W4 = ((w6.setCell ⟨w.heap.size, 0, none⟩ (.bool (negB (by0 t)))).setCell ⟨w.heap.size, 1, none⟩ (.slice adp np cp)).setCell ⟨w.heap.size, 2, none⟩ (.slice adq nq cq) := ⟨_, rfl⟩
  have hB4 : Below w.heap.size w W4 := by rw [hW4]; exact ((HB.setCell (p := ⟨w.heap.size, 0, none⟩) (Nat.le_refl _) _).setCell (p := ⟨w.heap.size, 1, none⟩) (Nat.le_refl _) _).setCell (p := ⟨w.heap.size, 2, none⟩) (Nat.le_refl _) _
  have rp4 : Rd W4 (.slice adp np cp) P := by rw [hW4]; exact ((rp.box bx 0 _).box (bx.put1 _) 1 _).box ((bx.put1 _).put2 _) 2 _
  have rq4 : Rd W4 (.slice adq nq cq) Q := by rw [hW4]; exact ((rq.box bx 0 _).box (bx.put1 _) 1 _).box ((bx.put1 _).put2 _) 2 _
  rw [← hW4] at d0 d1 d2 ⊢
  try simp only [Exit.inBlock, Exit.then]
  refine bodyPost_ret (v := .tuple #[numV (negB (by0 t)) (.slice adp np cp) (.slice adq nq cq), .bool true]) (by simp [results, Tryz.results35, go_sem, d0, d1, d2]) rfl ?_
  exact ⟨hB4, .inr ⟨hg.out, adp, np, cp, adq, nq, cq, P, Q, rfl, rp4, rq4, kp, kq, HPV.out, HQV.out⟩⟩

theorem get_any (s : ByteArray) (w : World) (hs : s.size ≤ 1000000) : Calls Tryz.prog 35 #[.string s] w (Got w s) := by
  by_cases hl : s.size ≤ 1900
  · by_cases ha : Dec (ahead (by0 s))
    · by_cases hd : Dec (behind (by0 s))
      · by_cases h0 : num (behind (by0 s)) = 0
        · exact get_zero s w hs hl ha hd h0
        · by_cases hg : Good (by0 s)
          · exact get_good s w hs hl ha hd h0 hg
          · exact get_diff s w hs hl ha hd h0 hg
      · exact get_bad2 s w hs hl ha hd
    · exact get_bad1 s w hs hl ha
  · exact get_long s w hs (Lib.hid (by omega))

end Go.Proofs.YtepacminjfeliaaGreatDoor

/-
  The document's over: two numbers' first parts over one second part. Each part has 1000 limbs at most.
-/
namespace Go.Proofs.YtepacminjfeliaaGreatDoor
open Go.RowKit

/-- What stays as it was while the three products are made. -/
def OverS (w0 : World) (g k : Nat) (na nb : Bool) (vp vq vr vs : Value) (P Q R S : List Nat) (W : World) : Prop :=
  Box3 W g na vp vq ∧ Box3 W k nb vr vs ∧ Rd W vp P ∧ Rd W vq Q ∧ Rd W vr R ∧ Rd W vs S ∧ Below w0.heap.size w0 W

section
variable {w0 : World} {g k : Nat} {na nb : Bool} {vp vq vr vs : Value} {P Q R S : List Nat} {W : World} (h : OverS w0 g k na nb vp vq vr vs P Q R S W)
include h

theorem OverS.rp : Rd W vp P := h.2.2.1
theorem OverS.rq : Rd W vq Q := h.2.2.2.1
theorem OverS.rr : Rd W vr R := h.2.2.2.2.1
theorem OverS.rs : Rd W vs S := h.2.2.2.2.2.1
theorem OverS.bel : Below w0.heap.size w0 W := h.2.2.2.2.2.2
theorem OverS.below {W' : World} (hb : Below W.heap.size W W') : OverS w0 g k na nb vp vq vr vs P Q R S W' :=
  ⟨h.1.below hb, h.2.1.below hb, h.rp.below hb, h.rq.below hb, h.rr.below hb, h.rs.below hb, onto h.bel hb⟩
theorem OverS.held : (W.cell? ⟨g, 1, none⟩ = some vp ∧ W.cell? ⟨g, 2, none⟩ = some vq ∧ W.cell? ⟨k, 1, none⟩ = some vr ∧ W.cell? ⟨k, 2, none⟩ = some vs) ∧ OverS w0 g k na nb vp vq vr vs P Q R S W :=
  ⟨⟨h.1.cell1, h.1.cell2, h.2.1.cell1, h.2.1.cell2⟩, h⟩
end

set_option maxRecDepth 100000 in
set_option maxHeartbeats 8000000 in
theorem rover_any {w : World} {vp vq vr vs : Value} {P Q R S : List Nat} (na nb : Bool) (rp : Rd w vp P) (rq : Rd w vq Q) (rr : Rd w vr R) (rs : Rd w vs S) (lp : P.length ≤ 1000) (lq : Q.length ≤ 1000) (lr : R.length ≤ 1000) (ls : S.length ≤ 1000) :
    Calls Tryz.prog 41 #[numV na vp vq, numV nb vr vs] w fun e w' => ∃ ad1 n1 c1 l1 ad2 n2 c2 l2 ad3 n3 c3 l3, e = .returned (.tuple #[.slice ad1 n1 c1, .slice ad2 n2 c2, .slice ad3 n3 c3]) ∧
      Rd w' (.slice ad1 n1 c1) l1 ∧ Can l1 ∧ val l1 = val P * val S ∧ Rd w' (.slice ad2 n2 c2) l2 ∧ Can l2 ∧ val l2 = val R * val Q ∧ Rd w' (.slice ad3 n3 c3) l3 ∧ Can l3 ∧ val l3 = val Q * val S ∧ Below w.heap.size w w' := by
  obtain ⟨adp, np, cp, rfl, -⟩ := id rp
  obtain ⟨adq, nq, cq, rfl, -⟩ := id rq
  obtain ⟨adr, nr, cr, rfl, -⟩ := id rr
  obtain ⟨ads, ns, cs, rfl, -⟩ := id rs
  have h1 := alb w (.cells #[.bool na, .slice adp np cp, .slice adq nq cq] 49)
  have h2 := alb (w.alloc (.cells #[.bool na, .slice adp np cp, .slice adq nq cq] 49)) (.cells #[.bool nb, .slice adr nr cr, .slice ads ns cs] 49)
  have ba : Box3 (w.alloc (.cells #[.bool na, .slice adp np cp, .slice adq nq cq] 49)) w.heap.size na (.slice adp np cp) (.slice adq nq cq) := heap_alloc_new w _
  have bb : Box3 ((w.alloc (.cells #[.bool na, .slice adp np cp, .slice adq nq cq] 49)).alloc (.cells #[.bool nb, .slice adr nr cr, .slice ads ns cs] 49)) (w.heap.size + 1) nb (.slice adr nr cr) (.slice ads ns cs) := by
    have := heap_alloc_new (w.alloc (.cells #[.bool na, .slice adp np cp, .slice adq nq cq] 49)) (.cells #[.bool nb, .slice adr nr cr, .slice ads ns cs] 49)
    simpa [Box3] using this
  have hS0 : OverS w w.heap.size (w.heap.size + 1) na nb (.slice adp np cp) (.slice adq nq cq) (.slice adr nr cr) (.slice ads ns cs) P Q R S ((w.alloc (.cells #[.bool na, .slice adp np cp, .slice adq nq cq] 49)).alloc (.cells #[.bool nb, .slice adr nr cr, .slice ads ns cs] 49)) :=
    ⟨ba.below h2, bb, (rp.below h1).below h2, (rq.below h1).below h2, (rr.below h1).below h2, (rs.below h1).below h2, onto h1 h2⟩
  replace hS0 := hS0.below (bel_drew (Below.refl _ _))
  clear h1 h2 ba bb rp rq rr rs
  go_enter Tryz.func41, Tryz.ntmps41
  go_wp2_with fail
  go_region_held3 (fun W => (W.cell? ⟨w.heap.size, 1, none⟩ = some (.slice adp np cp) ∧ W.cell? ⟨w.heap.size, 2, none⟩ = some (.slice adq nq cq) ∧ W.cell? ⟨w.heap.size + 1, 1, none⟩ = some (.slice adr nr cr) ∧ W.cell? ⟨w.heap.size + 1, 2, none⟩ = some (.slice ads ns cs)) ∧ OverS w w.heap.size (w.heap.size + 1) na nb (.slice adp np cp) (.slice adq nq cq) (.slice adr nr cr) (.slice ads ns cs) P Q R S W)
    ((exact OverS.held (by assumption)))
    ((first
      | ((go_split_ands; go_at_call 45; (with_reducible (show Calls _ _ #[.slice adp np cp, .slice ads ns cs] _ _)); refine (rmul_any (va := .slice adp np cp) (vb := .slice ads ns cs) (OverS.rp (by assumption)) (OverS.rs (by assumption)) lp ls).mono ?_; rintro e w1 ⟨ad1, n1, c1, l1, rfl, -, r1, k1, v1, b1⟩; (try replace r2 := r2.below b1); (try replace r3 := r3.below b1); have hS1 : OverS w w.heap.size (w.heap.size + 1) na nb (.slice adp np cp) (.slice adq nq cq) (.slice adr nr cr) (.slice ads ns cs) P Q R S w1 := OverS.below (by assumption) b1))
      | ((go_split_ands; go_at_call 45; (with_reducible (show Calls _ _ #[.slice adr nr cr, .slice adq nq cq] _ _)); refine (rmul_any (va := .slice adr nr cr) (vb := .slice adq nq cq) (OverS.rr (by assumption)) (OverS.rq (by assumption)) lr lq).mono ?_; rintro e w2 ⟨ad2, n2, c2, l2, rfl, -, r2, k2, v2, b2⟩; (try replace r1 := r1.below b2); (try replace r3 := r3.below b2); have hS2 : OverS w w.heap.size (w.heap.size + 1) na nb (.slice adp np cp) (.slice adq nq cq) (.slice adr nr cr) (.slice ads ns cs) P Q R S w2 := OverS.below (by assumption) b2))
      | ((go_split_ands; go_at_call 45; (with_reducible (show Calls _ _ #[.slice adq nq cq, .slice ads ns cs] _ _)); refine (rmul_any (va := .slice adq nq cq) (vb := .slice ads ns cs) (OverS.rq (by assumption)) (OverS.rs (by assumption)) lq ls).mono ?_; rintro e w3 ⟨ad3, n3, c3, l3, rfl, -, r3, k3, v3, b3⟩; (try replace r1 := r1.below b3); (try replace r2 := r2.below b3); have hS3 : OverS w w.heap.size (w.heap.size + 1) na nb (.slice adp np cp) (.slice adq nq cq) (.slice adr nr cr) (.slice ads ns cs) P Q R S w3 := OverS.below (by assumption) b3))))
  all_goals
    go_wp2
    refine bodyPost_ret (results_tmp3 rfl _ _ _) rfl ?_
    exact ⟨_, _, _, _, _, _, _, _, _, _, _, _, rfl, by assumption, k1, v1, by assumption, k2, v2, by assumption, k3, v3, OverS.bel (by assumption)⟩

end Go.Proofs.YtepacminjfeliaaGreatDoor

/-
  The document's sum of two numbers. Each part has 450 limbs at most.
-/
namespace Go.Proofs.YtepacminjfeliaaGreatDoor
open Go.RowKit

/-- What stays as it was while a sum's first part is made. -/
def SumS (w0 : World) (g k : Nat) (na : Bool) (vp vq vr vs vt : Value) (n2 : Bool) (p2 q2 : Value) (P Q R : List Nat) (W : World) : Prop :=
  Box3 W g na vp vq ∧ Box3 W k n2 p2 q2 ∧ Rd W vr P ∧ Rd W vs Q ∧ Rd W vt R ∧ Below w0.heap.size w0 W ∧ w0.heap.size ≤ k ∧ g ≠ k

section
variable {w0 : World} {g k : Nat} {na n2 : Bool} {vp vq vr vs vt p2 q2 : Value} {P Q R : List Nat} {W : World} (h : SumS w0 g k na vp vq vr vs vt n2 p2 q2 P Q R W)
include h

theorem SumS.r1 : Rd W vr P := h.2.2.1
theorem SumS.r2 : Rd W vs Q := h.2.2.2.1
theorem SumS.r3 : Rd W vt R := h.2.2.2.2.1
theorem SumS.box : Box3 W k n2 p2 q2 := h.2.1
theorem SumS.bel : Below w0.heap.size w0 W := h.2.2.2.2.2.1
theorem SumS.held : W.cell? ⟨g, 0, none⟩ = some (.bool na) ∧ Hid (SumS w0 g k na vp vq vr vs vt n2 p2 q2 P Q R W) := ⟨h.1.cell0, Lib.hid h⟩
theorem SumS.below {W' : World} (hb : Below W.heap.size W W') : SumS w0 g k na vp vq vr vs vt n2 p2 q2 P Q R W' :=
  ⟨h.1.below hb, h.2.1.below hb, h.r1.below hb, h.r2.below hb, h.r3.below hb, onto h.bel hb, h.2.2.2.2.2.2⟩
end

theorem Box3.other {W : World} {g k : Nat} {neg : Bool} {vp vq : Value} (h : Box3 W g neg vp vq) (hne : g ≠ k) (i : Nat) (v : Value) : Box3 (W.setCell ⟨k, i, none⟩ v) g neg vp vq := by
  unfold Box3 at h ⊢
  simp [World.setCell, Array.getElem?_modify, h, Ne.symm hne]

theorem SumS.put {w0 : World} {g k : Nat} {na n2 : Bool} {vp vq vr vs vt : Value} {a1 a2 : Option Addr} {m1 m2 c1 c2 : Nat} {P Q R : List Nat} {W : World}
    (h : SumS w0 g k na vp vq vr vs vt n2 (.slice a1 m1 c1) (.slice a2 m2 c2) P Q R W) (n3 : Bool) (b1 b2 : Option Addr) (i1 i2 d1 d2 : Nat) :
    SumS w0 g k na vp vq vr vs vt n3 (.slice b1 i1 d1) (.slice b2 i2 d2) P Q R (((W.setCell ⟨k, 0, none⟩ (.bool n3)).setCell ⟨k, 1, none⟩ (.slice b1 i1 d1)).setCell ⟨k, 2, none⟩ (.slice b2 i2 d2)) := by
  have e1 := h.box.put1 n3
  have e2 := e1.put2 (.slice b1 i1 d1)
  have hk := h.2.2.2.2.2.2
  exact ⟨((h.1.other hk.2 _ _).other hk.2 _ _).other hk.2 _ _, h.box.put _ _ _, ((h.r1.box h.box 0 _).box e1 1 _).box e2 2 _, ((h.r2.box h.box 0 _).box e1 1 _).box e2 2 _, ((h.r3.box h.box 0 _).box e1 1 _).box e2 2 _,
    ((h.bel.setCell (p := ⟨k, 0, none⟩) hk.1 _).setCell (p := ⟨k, 1, none⟩) hk.1 _).setCell (p := ⟨k, 2, none⟩) hk.1 _, hk⟩

/-- What sum answers. -/
def Sumd (w : World) (na nb : Bool) (A B C D : Nat) (e : Ending) (w' : World) : Prop :=
  ∃ neg ad n c l ad2 n2 c2 l2, e = .returned (numV neg (.slice ad n c) (.slice ad2 n2 c2)) ∧ Rd w' (.slice ad n c) l ∧ Can l ∧ Rd w' (.slice ad2 n2 c2) l2 ∧ Can l2 ∧
    val l2 = B * D ∧ val l ≤ A * D + C * B ∧ qv neg (val l) (B * D) = qv na A B + qv nb C D ∧ Below w.heap.size w w'

set_option maxRecDepth 100000 in
set_option maxHeartbeats 8000000 in
theorem rsum_same {w : World} {vp vq vr vs : Value} {P Q R S : List Nat} (na : Bool) (rp : Rd w vp P) (rq : Rd w vq Q) (rr : Rd w vr R) (rs : Rd w vs S) (lp : P.length ≤ 450) (lq : Q.length ≤ 450) (lr : R.length ≤ 450) (ls : S.length ≤ 450) (hq : val Q ≠ 0) (hs : val S ≠ 0) :
    Calls Tryz.prog 37 #[numV na vp vq, numV na vr vs] w (Sumd w na na (val P) (val Q) (val R) (val S)) := by
  obtain ⟨adp, np, cp, rfl, -⟩ := id rp
  obtain ⟨adq, nq, cq, rfl, -⟩ := id rq
  obtain ⟨adr, nr, cr, rfl, -⟩ := id rr
  obtain ⟨ads, ns, cs, rfl, -⟩ := id rs
  have h1 := alb w (.cells #[.bool na, .slice adp np cp, .slice adq nq cq] 49)
  have h2 := alb (w.alloc (.cells #[.bool na, .slice adp np cp, .slice adq nq cq] 49)) (.cells #[.bool na, .slice adr nr cr, .slice ads ns cs] 49)
  have ba : Box3 (w.alloc (.cells #[.bool na, .slice adp np cp, .slice adq nq cq] 49)) w.heap.size na (.slice adp np cp) (.slice adq nq cq) := heap_alloc_new w _
  have bb : Box3 ((w.alloc (.cells #[.bool na, .slice adp np cp, .slice adq nq cq] 49)).alloc (.cells #[.bool na, .slice adr nr cr, .slice ads ns cs] 49)) (w.heap.size + 1) na (.slice adr nr cr) (.slice ads ns cs) := by
    have := heap_alloc_new (w.alloc (.cells #[.bool na, .slice adp np cp, .slice adq nq cq] 49)) (.cells #[.bool na, .slice adr nr cr, .slice ads ns cs] 49)
    simpa [Box3] using this
  have hS0 : OverS w w.heap.size (w.heap.size + 1) na na (.slice adp np cp) (.slice adq nq cq) (.slice adr nr cr) (.slice ads ns cs) P Q R S ((w.alloc (.cells #[.bool na, .slice adp np cp, .slice adq nq cq] 49)).alloc (.cells #[.bool na, .slice adr nr cr, .slice ads ns cs] 49)) :=
    ⟨ba.below h2, bb, (rp.below h1).below h2, (rq.below h1).below h2, (rr.below h1).below h2, (rs.below h1).below h2, onto h1 h2⟩
  clear h1 h2 ba bb rp rq rr rs
  have bx : Box3 (((w.alloc (.cells #[.bool na, .slice adp np cp, .slice adq nq cq] 49)).alloc (.cells #[.bool na, .slice adr nr cr, .slice ads ns cs] 49)).alloc (.cells #[.bool false, .slice none 0 0, .slice none 0 0] 49)) (w.heap.size + 1 + 1) false (.slice none 0 0) (.slice none 0 0) := by
    have := heap_alloc_new ((w.alloc (.cells #[.bool na, .slice adp np cp, .slice adq nq cq] 49)).alloc (.cells #[.bool na, .slice adr nr cr, .slice ads ns cs] 49)) (.cells #[.bool false, .slice none 0 0, .slice none 0 0] 49)
    simpa [Box3] using this
  replace hS0 := hS0.below (alb _ (.cells #[.bool false, .slice none 0 0, .slice none 0 0] 49))
  go_enter Tryz.func37, Tryz.ntmps37
  go_wp2_with fail
  refine (rover_any na na hS0.rp hS0.rq hS0.rr hS0.rs (by omega) (by omega) (by omega) (by omega)).mono ?_
  rintro e w1 ⟨ad1, n1, c1, l1, ad2, n2, c2, l2, ad3, n3, c3, l3, rfl, r1, k1, v1, r2, k2, v2, r3, k3, v3, hb⟩
  replace hS0 := hS0.below hb
  replace bx := bx.below hb
  clear hb
  have j1 := mul_small k1 hS0.rp.lim hS0.rs.lim lp ls v1
  have j2 := mul_small k2 hS0.rr.lim hS0.rq.lim lr lq v2
  have hT0 : SumS w w.heap.size (w.heap.size + 1 + 1) na (.slice adp np cp) (.slice adq nq cq) (.slice ad1 n1 c1) (.slice ad2 n2 c2) (.slice ad3 n3 c3) false (.slice none 0 0) (.slice none 0 0) l1 l2 l3 w1 := ⟨hS0.1, bx, r1, r2, r3, hS0.bel, by omega, by omega⟩
  have HV1 := Lib.hid v1; clear v1
  have HV2 := Lib.hid v2; clear v2
  have HV3 := Lib.hid v3; clear v3
  have ba := hS0.1.cell0
  have bb := hS0.2.1.cell0
  clear hS0 bx r1 r2 r3
  have hT1 := hT0.below (bel_drew (Below.refl _ _))
  go_wp2_with fail
  go_region_held3 (fun W => W.cell? ⟨w.heap.size, 0, none⟩ = some (.bool na))
    ((first | exact hT1.1.cell0 | exact hT2.1.cell0 | exact (hT2.put na ad4 ad3 n4 n3 c4 c3).1.cell0))
    ((go_at_call 57; refine (radd_any (va := .slice ad1 n1 c1) (vb := .slice ad2 n2 c2) hT1.r1 hT1.r2 (by omega) (by omega)).mono ?_; rintro e w2 ⟨ad4, n4, c4, l4, rfl, -, r4, k4, v4, b4⟩; have hT2 := hT1.below b4; have q0 := hT2.box.cell0; have q1 := hT2.box.cell1; have q2 := hT2.box.cell2; have f0 := hT2.box.free 0; have f1 := hT2.box.free 1; have f2 := hT2.box.free 2))
  have hT3 := hT2.put na ad4 ad3 n4 n3 c4 c3
  have r5 := ((r4.box hT2.box 0 (.bool na)).box (hT2.box.put1 na) 1 (.slice ad4 n4 c4)).box ((hT2.box.put1 na).put2 (.slice ad4 n4 c4)) 2 (.slice ad3 n3 c3)
  have d0 := hT3.box.cell0
  have d1 := hT3.box.cell1
  have d2 := hT3.box.cell2
  obtain ⟨W4, hW4⟩ : ∃ W4, W4 = ((w2.setCell ⟨w.heap.size + 1 + 1, 0, none⟩ (.bool na)).setCell ⟨w.heap.size + 1 + 1, 1, none⟩ (.slice ad4 n4 c4)).setCell ⟨w.heap.size + 1 + 1, 2, none⟩ (.slice ad3 n3 c3) := ⟨_, rfl⟩
  rw [← hW4] at hT3 r5 d0 d1 d2 ⊢
  clear hW4
  go_wp2
  try simp only [Exit.inBlock, Exit.then]
  refine bodyPost_ret (v := numV na (.slice ad4 n4 c4) (.slice ad3 n3 c3)) (by simp [results, Tryz.results37, go_sem, d0, d1, d2]) rfl ?_
  exact ⟨na, _, _, _, l4, _, _, _, l3, rfl, r5, k4, hT3.r3, k3, HV3.out, by rw [v4, HV1.out, HV2.out]; exact Nat.le_refl _, by rw [v4, HV1.out, HV2.out, qv_add_same na _ _ hq hs], hT3.bel⟩

theorem unlike (b : Bool) : (b == !b) = false := by cases b <;> rfl

theorem rsubs_yes {w : World} {va vb : Value} {a b : List Nat} (ra : Rd w va a) (rb : Rd w vb b) (la : a.length ≤ 10000) (lb : b.length ≤ 10000) (h : val b ≤ val a) :
    Calls Tryz.prog 64 #[va, vb] w fun e w' => ∃ ad n cap l, e = .returned (.tuple #[.slice ad n cap, .bool true]) ∧ Rd w' (.slice ad n cap) l ∧ Can l ∧ val l = val a - val b ∧ Below w.heap.size w w' :=
  (rsub_any ra rb la lb).mono fun e w' h' => by
    rcases h' with ⟨_, ad, n, cap, l, h1, _, h2⟩ | ⟨h', _⟩
    · exact ⟨ad, n, cap, l, h1, h2⟩
    · omega

theorem rsubs_no {w : World} {va vb : Value} {a b : List Nat} (ra : Rd w va a) (rb : Rd w vb b) (la : a.length ≤ 10000) (lb : b.length ≤ 10000) (h : val a < val b) :
    Calls Tryz.prog 64 #[va, vb] w fun e w' => e = .returned (.tuple #[.slice none 0 0, .bool false]) ∧ Below w.heap.size w w' :=
  (rsub_any ra rb la lb).mono fun e w' h' => by
    rcases h' with ⟨h', _⟩ | ⟨_, h'⟩
    · omega
    · exact h'

set_option maxRecDepth 100000 in
set_option maxHeartbeats 8000000 in
theorem rsum_more {w : World} {vp vq vr vs : Value} {P Q R S : List Nat} (na : Bool) (rp : Rd w vp P) (rq : Rd w vq Q) (rr : Rd w vr R) (rs : Rd w vs S) (lp : P.length ≤ 450) (lq : Q.length ≤ 450) (lr : R.length ≤ 450) (ls : S.length ≤ 450) (hq : val Q ≠ 0) (hs : val S ≠ 0) (hc : Hid (val R * val Q ≤ val P * val S)) :
    Calls Tryz.prog 37 #[numV na vp vq, numV (!na) vr vs] w (Sumd w na (!na) (val P) (val Q) (val R) (val S)) := by
  obtain ⟨adp, np, cp, rfl, -⟩ := id rp
  obtain ⟨adq, nq, cq, rfl, -⟩ := id rq
  obtain ⟨adr, nr, cr, rfl, -⟩ := id rr
  obtain ⟨ads, ns, cs, rfl, -⟩ := id rs
  have h1 := alb w (.cells #[.bool na, .slice adp np cp, .slice adq nq cq] 49)
  have h2 := alb (w.alloc (.cells #[.bool na, .slice adp np cp, .slice adq nq cq] 49)) (.cells #[.bool (!na), .slice adr nr cr, .slice ads ns cs] 49)
  have ba : Box3 (w.alloc (.cells #[.bool na, .slice adp np cp, .slice adq nq cq] 49)) w.heap.size na (.slice adp np cp) (.slice adq nq cq) := heap_alloc_new w _
  have bb : Box3 ((w.alloc (.cells #[.bool na, .slice adp np cp, .slice adq nq cq] 49)).alloc (.cells #[.bool (!na), .slice adr nr cr, .slice ads ns cs] 49)) (w.heap.size + 1) (!na) (.slice adr nr cr) (.slice ads ns cs) := by
    have := heap_alloc_new (w.alloc (.cells #[.bool na, .slice adp np cp, .slice adq nq cq] 49)) (.cells #[.bool (!na), .slice adr nr cr, .slice ads ns cs] 49)
    simpa [Box3] using this
  have hS0 : OverS w w.heap.size (w.heap.size + 1) na (!na) (.slice adp np cp) (.slice adq nq cq) (.slice adr nr cr) (.slice ads ns cs) P Q R S ((w.alloc (.cells #[.bool na, .slice adp np cp, .slice adq nq cq] 49)).alloc (.cells #[.bool (!na), .slice adr nr cr, .slice ads ns cs] 49)) :=
    ⟨ba.below h2, bb, (rp.below h1).below h2, (rq.below h1).below h2, (rr.below h1).below h2, (rs.below h1).below h2, onto h1 h2⟩
  clear h1 h2 ba bb rp rq rr rs
  have bx : Box3 (((w.alloc (.cells #[.bool na, .slice adp np cp, .slice adq nq cq] 49)).alloc (.cells #[.bool (!na), .slice adr nr cr, .slice ads ns cs] 49)).alloc (.cells #[.bool false, .slice none 0 0, .slice none 0 0] 49)) (w.heap.size + 1 + 1) false (.slice none 0 0) (.slice none 0 0) := by
    have := heap_alloc_new ((w.alloc (.cells #[.bool na, .slice adp np cp, .slice adq nq cq] 49)).alloc (.cells #[.bool (!na), .slice adr nr cr, .slice ads ns cs] 49)) (.cells #[.bool false, .slice none 0 0, .slice none 0 0] 49)
    simpa [Box3] using this
  replace hS0 := hS0.below (alb _ (.cells #[.bool false, .slice none 0 0, .slice none 0 0] 49))
  go_enter Tryz.func37, Tryz.ntmps37
  go_wp2_with fail
  refine (rover_any na (!na) hS0.rp hS0.rq hS0.rr hS0.rs (by omega) (by omega) (by omega) (by omega)).mono ?_
  rintro e w1 ⟨ad1, n1, c1, l1, ad2, n2, c2, l2, ad3, n3, c3, l3, rfl, r1, k1, v1, r2, k2, v2, r3, k3, v3, hb⟩
  replace hS0 := hS0.below hb
  replace bx := bx.below hb
  clear hb
  have j1 := mul_small k1 hS0.rp.lim hS0.rs.lim lp ls v1
  have j2 := mul_small k2 hS0.rr.lim hS0.rq.lim lr lq v2
  have hT0 : SumS w w.heap.size (w.heap.size + 1 + 1) na (.slice adp np cp) (.slice adq nq cq) (.slice ad1 n1 c1) (.slice ad2 n2 c2) (.slice ad3 n3 c3) false (.slice none 0 0) (.slice none 0 0) l1 l2 l3 w1 := ⟨hS0.1, bx, r1, r2, r3, hS0.bel, by omega, by omega⟩
  have HV1 := Lib.hid v1; clear v1
  have HV2 := Lib.hid v2; clear v2
  have HV3 := Lib.hid v3; clear v3
  have ba := hS0.1.cell0
  have bb := hS0.2.1.cell0
  clear hS0 bx r1 r2 r3
  have zu := unlike na
  go_wp2_with fail
  refine (rsubs_yes hT0.r1 hT0.r2 (by omega) (by omega) (by rw [HV1.out, HV2.out]; exact hc.out)).mono ?_
  rintro e w2 ⟨ad4, n4, c4, l4, rfl, r4, k4, v4, b4⟩
  have hT2 := hT0.below b4
  have hT3 := hT2.put na ad4 ad3 n4 n3 c4 c3
  have r5 := ((r4.box hT2.box 0 (.bool na)).box (hT2.box.put1 na) 1 (.slice ad4 n4 c4)).box ((hT2.box.put1 na).put2 (.slice ad4 n4 c4)) 2 (.slice ad3 n3 c3)
  have q0 := hT2.box.cell0
  have q1 := hT2.box.cell1
  have q2 := hT2.box.cell2
  have f0 := hT2.box.free 0
  have f1 := hT2.box.free 1
  have f2 := hT2.box.free 2
  have d0 := hT3.box.cell0
  have d1 := hT3.box.cell1
  have d2 := hT3.box.cell2
  have ba := hT2.1.cell0
  go_wp2
  obtain ⟨W4, hW4⟩ : ∃ W4, W4 = ((w2.setCell ⟨w.heap.size + 1 + 1, 0, none⟩ (.bool na)).setCell ⟨w.heap.size + 1 + 1, 1, none⟩ (.slice ad4 n4 c4)).setCell ⟨w.heap.size + 1 + 1, 2, none⟩ (.slice ad3 n3 c3) := ⟨_, rfl⟩
  rw [← hW4] at hT3 r5 d0 d1 d2 ⊢
  clear hW4
  try simp only [Exit.inBlock, Exit.then]
  refine bodyPost_ret (v := numV na (.slice ad4 n4 c4) (.slice ad3 n3 c3)) (by simp [results, Tryz.results37, go_sem, d0, d1, d2]) rfl ?_
  exact ⟨na, _, _, _, l4, _, _, _, l3, rfl, r5, k4, hT3.r3, k3, HV3.out, by rw [v4, HV1.out, HV2.out]; omega, by rw [v4, HV1.out, HV2.out, qv_add_more na hq hs hc.out], hT3.bel⟩

set_option maxRecDepth 100000 in
set_option maxHeartbeats 8000000 in
theorem rsum_less {w : World} {vp vq vr vs : Value} {P Q R S : List Nat} (na : Bool) (rp : Rd w vp P) (rq : Rd w vq Q) (rr : Rd w vr R) (rs : Rd w vs S) (lp : P.length ≤ 450) (lq : Q.length ≤ 450) (lr : R.length ≤ 450) (ls : S.length ≤ 450) (hq : val Q ≠ 0) (hs : val S ≠ 0) (hc : Hid (val P * val S < val R * val Q)) :
    Calls Tryz.prog 37 #[numV na vp vq, numV (!na) vr vs] w (Sumd w na (!na) (val P) (val Q) (val R) (val S)) := by
  obtain ⟨adp, np, cp, rfl, -⟩ := id rp
  obtain ⟨adq, nq, cq, rfl, -⟩ := id rq
  obtain ⟨adr, nr, cr, rfl, -⟩ := id rr
  obtain ⟨ads, ns, cs, rfl, -⟩ := id rs
  have h1 := alb w (.cells #[.bool na, .slice adp np cp, .slice adq nq cq] 49)
  have h2 := alb (w.alloc (.cells #[.bool na, .slice adp np cp, .slice adq nq cq] 49)) (.cells #[.bool (!na), .slice adr nr cr, .slice ads ns cs] 49)
  have ba : Box3 (w.alloc (.cells #[.bool na, .slice adp np cp, .slice adq nq cq] 49)) w.heap.size na (.slice adp np cp) (.slice adq nq cq) := heap_alloc_new w _
  have bb : Box3 ((w.alloc (.cells #[.bool na, .slice adp np cp, .slice adq nq cq] 49)).alloc (.cells #[.bool (!na), .slice adr nr cr, .slice ads ns cs] 49)) (w.heap.size + 1) (!na) (.slice adr nr cr) (.slice ads ns cs) := by
    have := heap_alloc_new (w.alloc (.cells #[.bool na, .slice adp np cp, .slice adq nq cq] 49)) (.cells #[.bool (!na), .slice adr nr cr, .slice ads ns cs] 49)
    simpa [Box3] using this
  have hS0 : OverS w w.heap.size (w.heap.size + 1) na (!na) (.slice adp np cp) (.slice adq nq cq) (.slice adr nr cr) (.slice ads ns cs) P Q R S ((w.alloc (.cells #[.bool na, .slice adp np cp, .slice adq nq cq] 49)).alloc (.cells #[.bool (!na), .slice adr nr cr, .slice ads ns cs] 49)) :=
    ⟨ba.below h2, bb, (rp.below h1).below h2, (rq.below h1).below h2, (rr.below h1).below h2, (rs.below h1).below h2, onto h1 h2⟩
  clear h1 h2 ba bb rp rq rr rs
  have bx : Box3 (((w.alloc (.cells #[.bool na, .slice adp np cp, .slice adq nq cq] 49)).alloc (.cells #[.bool (!na), .slice adr nr cr, .slice ads ns cs] 49)).alloc (.cells #[.bool false, .slice none 0 0, .slice none 0 0] 49)) (w.heap.size + 1 + 1) false (.slice none 0 0) (.slice none 0 0) := by
    have := heap_alloc_new ((w.alloc (.cells #[.bool na, .slice adp np cp, .slice adq nq cq] 49)).alloc (.cells #[.bool (!na), .slice adr nr cr, .slice ads ns cs] 49)) (.cells #[.bool false, .slice none 0 0, .slice none 0 0] 49)
    simpa [Box3] using this
  replace hS0 := hS0.below (alb _ (.cells #[.bool false, .slice none 0 0, .slice none 0 0] 49))
  go_enter Tryz.func37, Tryz.ntmps37
  go_wp2_with fail
  refine (rover_any na (!na) hS0.rp hS0.rq hS0.rr hS0.rs (by omega) (by omega) (by omega) (by omega)).mono ?_
  rintro e w1 ⟨ad1, n1, c1, l1, ad2, n2, c2, l2, ad3, n3, c3, l3, rfl, r1, k1, v1, r2, k2, v2, r3, k3, v3, hb⟩
  replace hS0 := hS0.below hb
  replace bx := bx.below hb
  clear hb
  have j1 := mul_small k1 hS0.rp.lim hS0.rs.lim lp ls v1
  have j2 := mul_small k2 hS0.rr.lim hS0.rq.lim lr lq v2
  have hT0 : SumS w w.heap.size (w.heap.size + 1 + 1) na (.slice adp np cp) (.slice adq nq cq) (.slice ad1 n1 c1) (.slice ad2 n2 c2) (.slice ad3 n3 c3) false (.slice none 0 0) (.slice none 0 0) l1 l2 l3 w1 := ⟨hS0.1, bx, r1, r2, r3, hS0.bel, by omega, by omega⟩
  have HV1 := Lib.hid v1; clear v1
  have HV2 := Lib.hid v2; clear v2
  have HV3 := Lib.hid v3; clear v3
  have ba := hS0.1.cell0
  have bb := hS0.2.1.cell0
  have hY := hS0.2.1
  clear hS0 bx r1 r2 r3
  have zu := unlike na
  go_wp2_with fail
  refine (rsubs_no hT0.r1 hT0.r2 (by omega) (by omega) (by rw [HV1.out, HV2.out]; exact hc.out)).mono ?_
  rintro e w5 ⟨rfl, b4⟩
  replace hT0 := hT0.below b4
  replace hY := hY.below b4
  clear b4
  go_wp2_with fail
  refine (rsubs_yes hT0.r2 hT0.r1 (by omega) (by omega) (by rw [HV1.out, HV2.out]; exact Nat.le_of_lt hc.out)).mono ?_
  rintro e w2 ⟨ad4, n4, c4, l4, rfl, r4, k4, v4, b4⟩
  have hT2 := hT0.below b4
  replace hY := hY.below b4
  have bb := hY.cell0
  have hT3 := hT2.put (!na) ad4 ad3 n4 n3 c4 c3
  have r5 := ((r4.box hT2.box 0 (.bool (!na))).box (hT2.box.put1 (!na)) 1 (.slice ad4 n4 c4)).box ((hT2.box.put1 (!na)).put2 (.slice ad4 n4 c4)) 2 (.slice ad3 n3 c3)
  have q0 := hT2.box.cell0
  have q1 := hT2.box.cell1
  have q2 := hT2.box.cell2
  have f0 := hT2.box.free 0
  have f1 := hT2.box.free 1
  have f2 := hT2.box.free 2
  have d0 := hT3.box.cell0
  have d1 := hT3.box.cell1
  have d2 := hT3.box.cell2
  go_wp2
  obtain ⟨W4, hW4⟩ : ∃ W4, W4 = ((w2.setCell ⟨w.heap.size + 1 + 1, 0, none⟩ (.bool (!na))).setCell ⟨w.heap.size + 1 + 1, 1, none⟩ (.slice ad4 n4 c4)).setCell ⟨w.heap.size + 1 + 1, 2, none⟩ (.slice ad3 n3 c3) := ⟨_, rfl⟩
  rw [← hW4] at hT3 r5 d0 d1 d2 ⊢
  clear hW4
  try simp only [Exit.inBlock, Exit.then]
  refine bodyPost_ret (v := numV (!na) (.slice ad4 n4 c4) (.slice ad3 n3 c3)) (by simp [results, Tryz.results37, go_sem, d0, d1, d2]) rfl ?_
  exact ⟨!na, _, _, _, l4, _, _, _, l3, rfl, r5, k4, hT3.r3, k3, HV3.out, by rw [v4, HV1.out, HV2.out]; omega, by rw [v4, HV1.out, HV2.out, qv_add_less na hq hs (Nat.le_of_lt hc.out)], hT3.bel⟩

theorem rsum_any {w : World} {vp vq vr vs : Value} {P Q R S : List Nat} (na nb : Bool) (rp : Rd w vp P) (rq : Rd w vq Q) (rr : Rd w vr R) (rs : Rd w vs S) (lp : P.length ≤ 450) (lq : Q.length ≤ 450) (lr : R.length ≤ 450) (ls : S.length ≤ 450) (hq : val Q ≠ 0) (hs : val S ≠ 0) :
    Calls Tryz.prog 37 #[numV na vp vq, numV nb vr vs] w (Sumd w na nb (val P) (val Q) (val R) (val S)) := by
  rcases (by cases na <;> cases nb <;> simp : nb = na ∨ nb = !na) with rfl | rfl
  · exact rsum_same _ rp rq rr rs lp lq lr ls hq hs
  · by_cases h : val R * val Q ≤ val P * val S
    · exact rsum_more _ rp rq rr rs lp lq lr ls hq hs (Lib.hid h)
    · exact rsum_less _ rp rq rr rs lp lq lr ls hq hs (Lib.hid (by omega))

end Go.Proofs.YtepacminjfeliaaGreatDoor
