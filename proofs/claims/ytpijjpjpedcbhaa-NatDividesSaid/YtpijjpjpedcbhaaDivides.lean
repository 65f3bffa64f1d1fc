/-
  NatDivides: what is left is less than what was divided by, and both make up the number: the law's body answers true of any two lists.
-/
import Derived.Test.YtpijjpjpedcbhaaRow
namespace Go.Proofs.Ytpijjpjpedcbhaa
open Go.RowKit

set_option maxRecDepth 100000 in
set_option maxHeartbeats 2000000 in
theorem divides_great {w : World} (ada adb : Option Addr) (na ca nb cb : Nat) (h : 20 < na ∨ 20 < nb) :
    Calls Try.prog 5 #[.slice ada na ca, .slice adb nb cb] w (Samed w true) := by
  have hg := fun w => great_yes ada adb na ca nb cb w h
  have HG := Lib.hid hg; clear hg
  go_enter Try.func5, Try.ntmps5
  go_wp2_with fail
  refine (head_any w).mono ?_
  rintro e w1 ⟨rfl, hb⟩
  go_wp2_with fail
  refine (HG.out w1).mono ?_
  rintro e w0 ⟨rfl, rfl⟩
  go_wp2
  go_ret
  exact ⟨rfl, hb⟩

set_option maxRecDepth 100000 in
set_option maxHeartbeats 2000000 in
theorem divides_zero {w : World} {ada adb : Option Addr} {na ca nb cb : Nat} {a b : List Nat} (ra : Rd w (.slice ada na ca) a) (rb : Rd w (.slice adb nb cb) b) (ha : na ≤ 20) (hb20 : nb ≤ 20) (h0 : val b = 0) :
    Calls Try.prog 5 #[.slice ada na ca, .slice adb nb cb] w (Samed w true) := by
  have HB := Below.refl w.heap.size w
  have LA := Lib.hid ra.open.1
  have LB := Lib.hid rb.open.1
  have HLA := ra.lim
  have HLB := rb.lim
  go_enter Try.func5, Try.ntmps5
  go_wp2_with fail
  refine (head_any w).mono ?_
  rintro e w1 ⟨rfl, hb⟩
  replace ra := ra.below hb
  replace rb := rb.below hb
  replace HB := onto HB hb
  clear hb
  go_wp2_with fail
  refine (great_no ada adb na ca nb cb w1 ha hb20).mono ?_
  rintro e w0 ⟨rfl, rfl⟩
  go_wp2_with fail
  refine (div_no ra rb (by have := LA.out; omega) (by have := LB.out; omega) h0).mono ?_
  rintro e w2 ⟨rfl, hb⟩
  replace ra := ra.below hb
  replace rb := rb.below hb
  replace HB := onto HB hb
  clear hb
  go_wp2_with fail
  refine (norm_any rb (by have := LB.out; omega)).mono ?_
  rintro e w3 ⟨adz, nz, cz, lz, rfl, rz, kz, vz, hb⟩
  replace ra := ra.below hb
  replace rb := rb.below hb
  replace HB := onto HB hb
  clear hb
  have Hvz := Lib.hid vz; clear vz
  obtain rfl : lz = [] := kz.zero (Hvz.out.trans h0)
  obtain rfl : nz = 0 := rz.open.1
  clear h0
  go_wp2
  go_ret
  exact ⟨rfl, HB⟩

set_option maxRecDepth 100000 in
set_option maxHeartbeats 2000000 in
theorem divides_more {w : World} {ada adb : Option Addr} {na ca nb cb : Nat} {a b : List Nat} (ra : Rd w (.slice ada na ca) a) (rb : Rd w (.slice adb nb cb) b) (ha : na ≤ 20) (hb20 : nb ≤ 20) (h0 : 0 < val b) :
    Calls Try.prog 5 #[.slice ada na ca, .slice adb nb cb] w (Samed w true) := by
  have H0 := Lib.hid h0; clear h0
  have HB := Below.refl w.heap.size w
  have LA := Lib.hid ra.open.1
  have LB := Lib.hid rb.open.1
  have HLA := ra.lim
  have HLB := rb.lim
  go_enter Try.func5, Try.ntmps5
  go_wp2_with fail
  refine (head_any w).mono ?_
  rintro e w1 ⟨rfl, hb⟩
  replace ra := ra.below hb
  replace rb := rb.below hb
  replace HB := onto HB hb
  clear hb
  go_wp2_with fail
  refine (great_no ada adb na ca nb cb w1 ha hb20).mono ?_
  rintro e w0 ⟨rfl, rfl⟩
  go_wp2_with fail
  refine (div_yes ra rb (by have := LA.out; omega) (by have := LB.out; omega) H0.out).mono ?_
  rintro e w2 ⟨adq, nq, cq, lq, adr, nr, cr, lr, rfl, rq, kq, vq, rr, kr, vr, hb⟩
  replace ra := ra.below hb
  replace rb := rb.below hb
  replace HB := onto HB hb
  clear hb
  have Hvq := Lib.hid vq; clear vq
  have Hvr := Lib.hid vr; clear vr
  have bq : lq.length ≤ 20 := kq.len (k := 20) (by rw [Hvq.out]; exact Nat.lt_of_le_of_lt (Nat.div_le_self _ _) (val_small HLA (by have := LA.out; omega)))
  have br : lr.length ≤ 20 := kr.len (k := 20) (by rw [Hvr.out]; exact Nat.lt_of_le_of_lt (Nat.mod_le _ _) (val_small HLA (by have := LA.out; omega)))
  go_wp2_with fail
  refine (norm_any rb (by have := LB.out; omega)).mono ?_
  rintro e w3 ⟨adz, nz, cz, lz, rfl, rz, kz, vz, hb⟩
  replace ra := ra.below hb
  replace rb := rb.below hb
  replace rq := rq.below hb
  replace rr := rr.below hb
  replace HB := onto HB hb
  clear hb
  have Hvz := Lib.hid vz; clear vz
  have hz0 : 0 < nz := by
    rcases Nat.eq_zero_or_pos nz with h | h
    · have e := rz.open.1
      rw [h] at e
      have := Hvz.out
      rw [List.eq_nil_of_length_eq_zero e.symm] at this
      have := H0.out
      simp only [val] at *
      omega
    · exact h
  go_wp2_with fail
  refine (cmp_at rr rb (by omega) (by have := LB.out; omega) (t := -1) (tell_lt (by rw [Hvr.out]; exact Nat.mod_lt _ H0.out))).mono ?_
  rintro e w4 ⟨rfl, hb⟩
  replace ra := ra.below hb
  replace rb := rb.below hb
  replace rq := rq.below hb
  replace rr := rr.below hb
  replace rz := rz.below hb
  replace HB := onto HB hb
  clear hb
  go_wp2_with fail
  refine (mul_any rq rb (by omega) (by have := LB.out; omega)).mono ?_
  rintro e w5 ⟨adm, nm, cm, lm, rfl, rm, km, vm, hb⟩
  replace ra := ra.below hb
  replace rb := rb.below hb
  replace rq := rq.below hb
  replace rr := rr.below hb
  replace rz := rz.below hb
  replace HB := onto HB hb
  clear hb
  have Hvm := Lib.hid vm; clear vm
  have bm : lm.length ≤ 40 := km.len (k := 40) (by rw [Hvm.out, Hvq.out, show 40 = 20 + 20 from rfl]; exact Nat.lt_of_le_of_lt (Nat.div_mul_le_self _ _) (Nat.lt_of_lt_of_le (val_small HLA (k := 20) (by have := LA.out; omega)) (pw_le (by omega))))
  go_wp2_with fail
  refine (add_any rm rr (by omega) (by omega)).mono ?_
  rintro e w6 ⟨adt, nt, ct, lt, rfl, rt, kt, vt, hb⟩
  replace ra := ra.below hb
  replace rb := rb.below hb
  replace rq := rq.below hb
  replace rr := rr.below hb
  replace rz := rz.below hb
  replace rm := rm.below hb
  replace HB := onto HB hb
  clear hb
  have Hvt := Lib.hid vt; clear vt
  have et : val lt = val a := by rw [Hvt.out, Hvm.out, Hvq.out, Hvr.out]; exact Nat.div_add_mod' _ _
  have bt : lt.length ≤ 20 := kt.len (k := 20) (by rw [et]; exact val_small HLA (by have := LA.out; omega))
  have ET := Lib.hid et; clear et
  go_wp2_with fail
  refine (norm_any ra (by have := LA.out; omega)).mono ?_
  rintro e w7 ⟨ady, ny, cy, ly, rfl, ry, ky, vy, hb⟩
  replace ra := ra.below hb
  replace rb := rb.below hb
  replace rq := rq.below hb
  replace rr := rr.below hb
  replace rz := rz.below hb
  replace rm := rm.below hb
  replace rt := rt.below hb
  replace HB := onto HB hb
  clear hb
  have Hvy := Lib.hid vy; clear vy
  go_wp2_with fail
  refine (same_vals rt ry (by omega) kt ky (by rw [ET.out, Hvy.out])).mono ?_
  rintro e w8 ⟨rfl, hb⟩
  replace ra := ra.below hb
  replace rb := rb.below hb
  replace rq := rq.below hb
  replace rr := rr.below hb
  replace rz := rz.below hb
  replace rm := rm.below hb
  replace rt := rt.below hb
  replace ry := ry.below hb
  replace HB := onto HB hb
  clear hb
  go_wp2
  go_ret
  exact ⟨rfl, HB⟩

theorem divides_law {w : World} {va vb : Value} {a b : List Nat} (ra : Rd w va a) (rb : Rd w vb b) : Calls Try.prog 5 #[va, vb] w (Samed w true) := by
  obtain ⟨ada, na, ca, rfl, -⟩ := id ra
  obtain ⟨adb, nb, cb, rfl, -⟩ := id rb
  by_cases h : 20 < na ∨ 20 < nb
  · exact divides_great ada adb na ca nb cb h
  · rcases Nat.eq_zero_or_pos (val b) with h0 | h0
    · exact divides_zero ra rb (by omega) (by omega) h0
    · exact divides_more ra rb (by omega) (by omega) h0

end Go.Proofs.Ytpijjpjpedcbhaa
