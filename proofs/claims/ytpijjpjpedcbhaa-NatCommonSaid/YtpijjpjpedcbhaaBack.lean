/-
  NatBack: what is added may be taken away again, what is multiplied divided: the law's body answers true of any two lists.
-/
import Derived.Test.YtpijjpjpedcbhaaLow
namespace Go.Proofs.Ytpijjpjpedcbhaa
open Go.RowKit

set_option maxRecDepth 100000 in
set_option maxHeartbeats 2000000 in
theorem back_great {w : World} (ada adb : Option Addr) (na ca nb cb : Nat) (h : 20 < na ∨ 20 < nb) :
    Calls Try.prog 6 #[.slice ada na ca, .slice adb nb cb] w (Samed w true) := by
  have hg := fun w => great_yes ada adb na ca nb cb w h
  have HG := Lib.hid hg; clear hg
  go_enter Try.func6, Try.ntmps6
  go_wp2_with fail
  refine (head_any w).mono ?_
  rintro e w1 ⟨rfl, hb⟩
  go_wp2_with fail
  refine (HG.out w1).mono ?_
  rintro e w0 ⟨rfl, rfl⟩
  go_wp2
  go_ret
  exact ⟨rfl, hb⟩

theorem len_pos {w : World} {ad : Option Addr} {n cap : Nat} {l : List Nat} (h : Rd w (.slice ad n cap) l) (h0 : 0 < val l) : 0 < n := by
  rcases Nat.eq_zero_or_pos n with e | e
  · have e2 := h.open.1
    rw [e] at e2
    rw [List.eq_nil_of_length_eq_zero e2.symm] at h0
    exact absurd h0 (by decide)
  · exact e

set_option maxRecDepth 100000 in
set_option maxHeartbeats 4000000 in
theorem back_zero {w : World} {ada adb : Option Addr} {na ca nb cb : Nat} {a b : List Nat} (ra : Rd w (.slice ada na ca) a) (rb : Rd w (.slice adb nb cb) b) (ha : na ≤ 20) (hb20 : nb ≤ 20) (h0 : val b = 0) :
    Calls Try.prog 6 #[.slice ada na ca, .slice adb nb cb] w (Samed w true) := by
  have HB := Below.refl w.heap.size w
  have H0 := Lib.hid h0; clear h0
  have sa := rd_small ra ha
  have sb := rd_small rb hb20
  have la : a.length ≤ 20 := by rw [← ra.open.1]; exact ha
  have lb : b.length ≤ 20 := by rw [← rb.open.1]; exact hb20
  go_enter Try.func6, Try.ntmps6
  go_wp2_with fail
  refine (head_any w).mono ?_
  rintro e w1 ⟨rfl, hb⟩
  replace ra := ra.below hb
  replace rb := rb.below hb
  replace HB := onto HB hb
  clear hb
  go_wp2_with fail
  refine (great_no ada adb na ca nb cb w1 ha hb20).mono ?_
  rintro e w0 ⟨rfl, rfl⟩
  go_wp2_with fail
  refine (add_any ra rb (by omega) (by omega)).mono ?_
  rintro e w2 ⟨adt, nt, ct, lt, rfl, rt, kt, vt, hb⟩
  replace ra := ra.below hb
  replace rb := rb.below hb
  replace HB := onto HB hb
  clear hb
  have Hvt := Lib.hid vt; clear vt
  have st : val lt < pw 21 := by rw [Hvt.out]; exact lt_add sa sb
  have bt : lt.length ≤ 21 := kt.len st
  go_wp2_with fail
  refine (sub_yes rt rb (by omega) (by omega) (by rw [Hvt.out]; omega)).mono ?_
  rintro e w3 ⟨ads, ns, cs, ls, rfl, rs, ks, vs, hb⟩
  replace ra := ra.below hb
  replace rb := rb.below hb
  replace rt := rt.below hb
  replace HB := onto HB hb
  clear hb
  have Hvs := Lib.hid vs; clear vs
  have ES : Hid (val ls = val a) := by show val ls = val a; rw [Hvs.out, Hvt.out]; omega
  have bs : ls.length ≤ 20 := ks.len (by rw [ES.out]; exact sa)
  go_wp2_with fail
  refine (of_any 1 w3 (by decide) (by decide)).mono ?_
  rintro e w4 ⟨ado, no, co, lo, rfl, ro, ko, vo, hb⟩
  replace ra := ra.below hb
  replace rb := rb.below hb
  replace rt := rt.below hb
  replace rs := rs.below hb
  replace HB := onto HB hb
  clear hb
  have Hvo := Lib.hid vo; clear vo
  have so : val lo < pw 1 := by rw [Hvo.out]; exact (by decide)
  have bo : lo.length ≤ 1 := ko.len so
  go_wp2_with fail
  refine (add_any ra ro (by omega) (by omega)).mono ?_
  rintro e w5 ⟨adp, np, cp, lp, rfl, rp, kp, vp, hb⟩
  replace ra := ra.below hb
  replace rb := rb.below hb
  replace rt := rt.below hb
  replace rs := rs.below hb
  replace ro := ro.below hb
  replace HB := onto HB hb
  clear hb
  have Hvp := Lib.hid vp; clear vp
  have sp : val lp < pw 21 := by rw [Hvp.out]; exact lt_add sa (lt_up so (by decide))
  have bp : lp.length ≤ 21 := kp.len sp
  go_wp2_with fail
  refine (sub_no ra rp (by omega) (by omega) (by rw [Hvp.out, Hvo.out]; show val a < val a + 1; omega)).mono ?_
  rintro e w6 ⟨rfl, hb⟩
  replace ra := ra.below hb
  replace rb := rb.below hb
  replace rt := rt.below hb
  replace rs := rs.below hb
  replace ro := ro.below hb
  replace rp := rp.below hb
  replace HB := onto HB hb
  clear hb
  go_wp2_with fail
  refine (mul_any ra rb (by omega) (by omega)).mono ?_
  rintro e w7 ⟨adm, nm, cm, lm, rfl, rm, km, vm, hb⟩
  replace ra := ra.below hb
  replace rb := rb.below hb
  replace rt := rt.below hb
  replace rs := rs.below hb
  replace ro := ro.below hb
  replace rp := rp.below hb
  replace HB := onto HB hb
  clear hb
  have Hvm := Lib.hid vm; clear vm
  have sm : val lm < pw 40 := by rw [Hvm.out]; exact lt_mul sa sb
  have bm : lm.length ≤ 40 := km.len sm
  go_wp2_with fail
  refine (div_no rm rb (by omega) (by omega) H0.out).mono ?_
  rintro e w8 ⟨rfl, hb⟩
  replace ra := ra.below hb
  replace rb := rb.below hb
  replace rt := rt.below hb
  replace rs := rs.below hb
  replace ro := ro.below hb
  replace rp := rp.below hb
  replace rm := rm.below hb
  replace HB := onto HB hb
  clear hb
  go_wp2_with fail
  refine (norm_any rb (by omega)).mono ?_
  rintro e w9 ⟨adz, nz, cz, lz, rfl, rz, kz, vz, hb⟩
  replace ra := ra.below hb
  replace rb := rb.below hb
  replace rt := rt.below hb
  replace rs := rs.below hb
  replace ro := ro.below hb
  replace rp := rp.below hb
  replace rm := rm.below hb
  replace HB := onto HB hb
  clear hb
  have Hvz := Lib.hid vz; clear vz
  obtain rfl : lz = [] := kz.zero (Hvz.out.trans H0.out)
  obtain rfl : nz = 0 := rz.open.1
  go_wp2_with fail
  refine (norm_any ra (by omega)).mono ?_
  rintro e w10 ⟨ady1, ny1, cy1, ly1, rfl, ry1, ky1, vy1, hb⟩
  replace ra := ra.below hb
  replace rb := rb.below hb
  replace rt := rt.below hb
  replace rs := rs.below hb
  replace ro := ro.below hb
  replace rp := rp.below hb
  replace rm := rm.below hb
  replace rz := rz.below hb
  replace HB := onto HB hb
  clear hb
  have Hvy1 := Lib.hid vy1; clear vy1
  have sy1 : val ly1 < pw 20 := by rw [Hvy1.out]; exact sa
  have by1 : ly1.length ≤ 20 := ky1.len sy1
  go_wp2_with fail
  refine (same_vals rs ry1 (by omega) ks ky1 (by rw [ES.out, Hvy1.out])).mono ?_
  rintro e w11 ⟨rfl, hb⟩
  replace ra := ra.below hb
  replace rb := rb.below hb
  replace rt := rt.below hb
  replace rs := rs.below hb
  replace ro := ro.below hb
  replace rp := rp.below hb
  replace rm := rm.below hb
  replace rz := rz.below hb
  replace ry1 := ry1.below hb
  replace HB := onto HB hb
  clear hb
  go_wp2
  go_ret
  exact ⟨rfl, HB⟩

set_option maxRecDepth 100000 in
set_option maxHeartbeats 4000000 in
theorem back_more {w : World} {ada adb : Option Addr} {na ca nb cb : Nat} {a b : List Nat} (ra : Rd w (.slice ada na ca) a) (rb : Rd w (.slice adb nb cb) b) (ha : na ≤ 20) (hb20 : nb ≤ 20) (h0 : 0 < val b) :
    Calls Try.prog 6 #[.slice ada na ca, .slice adb nb cb] w (Samed w true) := by
  have HB := Below.refl w.heap.size w
  have H0 := Lib.hid h0; clear h0
  have sa := rd_small ra ha
  have sb := rd_small rb hb20
  have la : a.length ≤ 20 := by rw [← ra.open.1]; exact ha
  have lb : b.length ≤ 20 := by rw [← rb.open.1]; exact hb20
  go_enter Try.func6, Try.ntmps6
  go_wp2_with fail
  refine (head_any w).mono ?_
  rintro e w1 ⟨rfl, hb⟩
  replace ra := ra.below hb
  replace rb := rb.below hb
  replace HB := onto HB hb
  clear hb
  go_wp2_with fail
  refine (great_no ada adb na ca nb cb w1 ha hb20).mono ?_
  rintro e w0 ⟨rfl, rfl⟩
  go_wp2_with fail
  refine (add_any ra rb (by omega) (by omega)).mono ?_
  rintro e w2 ⟨adt, nt, ct, lt, rfl, rt, kt, vt, hb⟩
  replace ra := ra.below hb
  replace rb := rb.below hb
  replace HB := onto HB hb
  clear hb
  have Hvt := Lib.hid vt; clear vt
  have st : val lt < pw 21 := by rw [Hvt.out]; exact lt_add sa sb
  have bt : lt.length ≤ 21 := kt.len st
  go_wp2_with fail
  refine (sub_yes rt rb (by omega) (by omega) (by rw [Hvt.out]; omega)).mono ?_
  rintro e w3 ⟨ads, ns, cs, ls, rfl, rs, ks, vs, hb⟩
  replace ra := ra.below hb
  replace rb := rb.below hb
  replace rt := rt.below hb
  replace HB := onto HB hb
  clear hb
  have Hvs := Lib.hid vs; clear vs
  have ES : Hid (val ls = val a) := by show val ls = val a; rw [Hvs.out, Hvt.out]; omega
  have bs : ls.length ≤ 20 := ks.len (by rw [ES.out]; exact sa)
  go_wp2_with fail
  refine (of_any 1 w3 (by decide) (by decide)).mono ?_
  rintro e w4 ⟨ado, no, co, lo, rfl, ro, ko, vo, hb⟩
  replace ra := ra.below hb
  replace rb := rb.below hb
  replace rt := rt.below hb
  replace rs := rs.below hb
  replace HB := onto HB hb
  clear hb
  have Hvo := Lib.hid vo; clear vo
  have so : val lo < pw 1 := by rw [Hvo.out]; exact (by decide)
  have bo : lo.length ≤ 1 := ko.len so
  go_wp2_with fail
  refine (add_any ra ro (by omega) (by omega)).mono ?_
  rintro e w5 ⟨adp, np, cp, lp, rfl, rp, kp, vp, hb⟩
  replace ra := ra.below hb
  replace rb := rb.below hb
  replace rt := rt.below hb
  replace rs := rs.below hb
  replace ro := ro.below hb
  replace HB := onto HB hb
  clear hb
  have Hvp := Lib.hid vp; clear vp
  have sp : val lp < pw 21 := by rw [Hvp.out]; exact lt_add sa (lt_up so (by decide))
  have bp : lp.length ≤ 21 := kp.len sp
  go_wp2_with fail
  refine (sub_no ra rp (by omega) (by omega) (by rw [Hvp.out, Hvo.out]; show val a < val a + 1; omega)).mono ?_
  rintro e w6 ⟨rfl, hb⟩
  replace ra := ra.below hb
  replace rb := rb.below hb
  replace rt := rt.below hb
  replace rs := rs.below hb
  replace ro := ro.below hb
  replace rp := rp.below hb
  replace HB := onto HB hb
  clear hb
  go_wp2_with fail
  refine (mul_any ra rb (by omega) (by omega)).mono ?_
  rintro e w7 ⟨adm, nm, cm, lm, rfl, rm, km, vm, hb⟩
  replace ra := ra.below hb
  replace rb := rb.below hb
  replace rt := rt.below hb
  replace rs := rs.below hb
  replace ro := ro.below hb
  replace rp := rp.below hb
  replace HB := onto HB hb
  clear hb
  have Hvm := Lib.hid vm; clear vm
  have sm : val lm < pw 40 := by rw [Hvm.out]; exact lt_mul sa sb
  have bm : lm.length ≤ 40 := km.len sm
  go_wp2_with fail
  refine (div_yes rm rb (by omega) (by omega) H0.out).mono ?_
  rintro e w8 ⟨adq, nq, cq, lq, adr, nr, cr, lr, rfl, rq, kq, vq, rr, kr, vr, hb⟩
  replace ra := ra.below hb
  replace rb := rb.below hb
  replace rt := rt.below hb
  replace rs := rs.below hb
  replace ro := ro.below hb
  replace rp := rp.below hb
  replace rm := rm.below hb
  replace HB := onto HB hb
  clear hb
  have Hvq := Lib.hid vq; clear vq
  have Hvr := Lib.hid vr; clear vr
  have EQ : Hid (val lq = val a) := by show val lq = val a; rw [Hvq.out, Hvm.out]; exact Nat.mul_div_cancel _ H0.out
  have ER : Hid (val lr = 0) := by show val lr = 0; rw [Hvr.out, Hvm.out]; exact Nat.mul_mod_left _ _
  obtain rfl : lr = [] := kr.zero ER.out
  obtain rfl : nr = 0 := rr.open.1
  have bq : lq.length ≤ 20 := kq.len (by rw [EQ.out]; exact sa)
  go_wp2_with fail
  refine (norm_any rb (by omega)).mono ?_
  rintro e w9 ⟨adz, nz, cz, lz, rfl, rz, kz, vz, hb⟩
  replace ra := ra.below hb
  replace rb := rb.below hb
  replace rt := rt.below hb
  replace rs := rs.below hb
  replace ro := ro.below hb
  replace rp := rp.below hb
  replace rm := rm.below hb
  replace rq := rq.below hb
  replace rr := rr.below hb
  replace HB := onto HB hb
  clear hb
  have Hvz := Lib.hid vz; clear vz
  have hz0 : 0 < nz := len_pos rz (by rw [Hvz.out]; exact H0.out)
  go_wp2_with fail
  refine (norm_any ra (by omega)).mono ?_
  rintro e w10 ⟨ady1, ny1, cy1, ly1, rfl, ry1, ky1, vy1, hb⟩
  replace ra := ra.below hb
  replace rb := rb.below hb
  replace rt := rt.below hb
  replace rs := rs.below hb
  replace ro := ro.below hb
  replace rp := rp.below hb
  replace rm := rm.below hb
  replace rq := rq.below hb
  replace rr := rr.below hb
  replace rz := rz.below hb
  replace HB := onto HB hb
  clear hb
  have Hvy1 := Lib.hid vy1; clear vy1
  have sy1 : val ly1 < pw 20 := by rw [Hvy1.out]; exact sa
  have by1 : ly1.length ≤ 20 := ky1.len sy1
  go_wp2_with fail
  refine (same_vals rs ry1 (by omega) ks ky1 (by rw [ES.out, Hvy1.out])).mono ?_
  rintro e w11 ⟨rfl, hb⟩
  replace ra := ra.below hb
  replace rb := rb.below hb
  replace rt := rt.below hb
  replace rs := rs.below hb
  replace ro := ro.below hb
  replace rp := rp.below hb
  replace rm := rm.below hb
  replace rq := rq.below hb
  replace rr := rr.below hb
  replace rz := rz.below hb
  replace ry1 := ry1.below hb
  replace HB := onto HB hb
  clear hb
  go_wp2_with fail
  refine (norm_any ra (by omega)).mono ?_
  rintro e w12 ⟨ady2, ny2, cy2, ly2, rfl, ry2, ky2, vy2, hb⟩
  replace ra := ra.below hb
  replace rb := rb.below hb
  replace rt := rt.below hb
  replace rs := rs.below hb
  replace ro := ro.below hb
  replace rp := rp.below hb
  replace rm := rm.below hb
  replace rq := rq.below hb
  replace rr := rr.below hb
  replace rz := rz.below hb
  replace ry1 := ry1.below hb
  replace HB := onto HB hb
  clear hb
  have Hvy2 := Lib.hid vy2; clear vy2
  have sy2 : val ly2 < pw 20 := by rw [Hvy2.out]; exact sa
  have by2 : ly2.length ≤ 20 := ky2.len sy2
  go_wp2_with fail
  refine (same_vals rq ry2 (by omega) kq ky2 (by rw [EQ.out, Hvy2.out])).mono ?_
  rintro e w13 ⟨rfl, hb⟩
  replace ra := ra.below hb
  replace rb := rb.below hb
  replace rt := rt.below hb
  replace rs := rs.below hb
  replace ro := ro.below hb
  replace rp := rp.below hb
  replace rm := rm.below hb
  replace rq := rq.below hb
  replace rr := rr.below hb
  replace rz := rz.below hb
  replace ry1 := ry1.below hb
  replace ry2 := ry2.below hb
  replace HB := onto HB hb
  clear hb
  go_wp2
  go_ret
  exact ⟨rfl, HB⟩

theorem back_law {w : World} {va vb : Value} {a b : List Nat} (ra : Rd w va a) (rb : Rd w vb b) : Calls Try.prog 6 #[va, vb] w (Samed w true) := by
  obtain ⟨ada, na, ca, rfl, -⟩ := id ra
  obtain ⟨adb, nb, cb, rfl, -⟩ := id rb
  by_cases h : 20 < na ∨ 20 < nb
  · exact back_great ada adb na ca nb cb h
  · rcases Nat.eq_zero_or_pos (val b) with h0 | h0
    · exact back_zero ra rb (by omega) (by omega) h0
    · exact back_more ra rb (by omega) (by omega) h0

end Go.Proofs.Ytpijjpjpedcbhaa
