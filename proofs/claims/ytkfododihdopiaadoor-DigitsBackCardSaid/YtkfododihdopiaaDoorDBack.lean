/-
  DigitsBack: the law's body answers true of any list and any text.
-/
import Derived.Test.YtkfododihdopiaaDoorHeadD
namespace Go.Proofs.YtkfododihdopiaaDoor
open Go.RowKit

theorem few_ok {s : ByteArray} (hD : Dec (by0 s)) (hs : s.size ≤ 1900) {l : List Nat} (hc : Can l) (hv : val l = num (by0 s)) : l.length ≤ 200 := by
  have h1 := num_lt hD.1
  rw [by0_len] at h1
  have h2 := ten_le hs
  exact hc.len (ten_limbs (k := 100) (by rw [hv]; omega))

set_option maxRecDepth 100000 in
set_option maxHeartbeats 4000000 in
theorem dback_great {w : World} (ada : Option Addr) (na ca : Nat) (s : ByteArray) (h : 190 < na ∨ 2500 < s.size) :
    Calls Tryd.prog 4 #[.slice ada na ca, .string s] w (Samed w true) := by
  by_cases h6 : 190 < na
  · clear h
    go_enter Tryd.func4, Tryd.ntmps4
    go_wp2_with fail
    refine (dhead_any w).mono ?_
    rintro e w1 ⟨rfl, hb⟩
    have z : (190 : Int) < na := by omega
    go_wp2
    go_ret
    exact ⟨rfl, hb⟩
  · have h2 : 2500 < s.size := by omega
    clear h
    go_enter Tryd.func4, Tryd.ntmps4
    go_wp2_with fail
    refine (dhead_any w).mono ?_
    rintro e w1 ⟨rfl, hb⟩
    have z : ¬ ((190 : Int) < na) := by omega
    have z2 : (2500 : Int) < s.size := by omega
    go_wp2
    go_ret
    exact ⟨rfl, hb⟩

set_option maxRecDepth 100000 in
set_option maxHeartbeats 4000000 in
theorem dback_ok {w : World} {ada : Option Addr} {na ca : Nat} {a : List Nat} (ra : Rd w (.slice ada na ca) a) (ha : na ≤ 190) (s : ByteArray) (h25 : s.size ≤ 2500) (hD : Hid (Dec (by0 s))) (hs : s.size ≤ 1900) :
    Calls Tryd.prog 4 #[.slice ada na ca, .string s] w (Samed w true) := by
  have HB := Below.refl w.heap.size w
  have la : a.length ≤ 190 := by rw [← ra.open.1]; exact ha
  have hlim := Lib.hid ra.lim
  have z : decide ((190 : Int) < (na : Int)) = false := decide_eq_false (by omega)
  have z2 : decide ((2500 : Int) < (s.size : Int)) = false := decide_eq_false (by omega)
  have hmil := Lib.hid (show s.size ≤ 1000000 by omega); clear h25
  go_enter Tryd.func4, Tryd.ntmps4
  go_wp2_with fail
  refine (dhead_any w).mono ?_
  rintro e w1 ⟨rfl, hb⟩
  replace ra := ra.below hb
  replace HB := onto HB hb
  clear hb
  go_wp2_with fail
  refine (text_any ra (by omega)).mono ?_
  rintro e w2 ⟨t, rfl, dt, nt, hb⟩
  replace ra := ra.below hb
  replace HB := onto HB hb
  clear hb
  have Hdt := Lib.hid dt; clear dt
  have Hnt := Lib.hid nt; clear nt
  have ts := Lib.hid (text_size Hdt.out hlim.out Hnt.out la (by decide))
  go_wp2_with fail
  refine (parse_ok t _ Hdt.out ts.out).mono ?_
  rintro e w3 ⟨adx, nx, cx, lx, rfl, rx, kx, vx, hb⟩
  replace ra := ra.below hb
  replace HB := onto HB hb
  clear hb
  have Hvx := Lib.hid vx; clear vx
  have bx : lx.length ≤ 200 := few_ok Hdt.out ts.out kx Hvx.out
  go_wp2_with fail
  refine (right_is t _ (b := true) (decide_eq_true Hdt.out)).mono ?_
  rintro e w4 ⟨rfl, hb⟩
  replace ra := ra.below hb
  replace rx := rx.below hb
  replace HB := onto HB hb
  clear hb
  go_wp2_with fail
  refine (rnorm_any ra (by omega)).mono ?_
  rintro e w5 ⟨adz, nz, cz, lz, rfl, -, rz, kz, vz, hb⟩
  replace ra := ra.below hb
  replace rx := rx.below hb
  replace HB := onto HB hb
  clear hb
  have Hvz := Lib.hid vz; clear vz
  go_wp2_with fail
  refine (same_vals rx rz (by omega) kx kz (by rw [Hvx.out, Hvz.out, Hnt.out])).mono ?_
  rintro e w6 ⟨rfl, hb⟩
  replace ra := ra.below hb
  replace rx := rx.below hb
  replace rz := rz.below hb
  replace HB := onto HB hb
  clear hb
  go_wp2_with fail
  refine (parse_ok s _ hD.out hs).mono ?_
  rintro e w7 ⟨ady, ny, cy, ly, rfl, ry, ky, vy, hb⟩
  replace ra := ra.below hb
  replace rx := rx.below hb
  replace rz := rz.below hb
  replace HB := onto HB hb
  clear hb
  have Hvy := Lib.hid vy; clear vy
  have bly : ly.length ≤ 200 := few_ok hD.out hs ky Hvy.out
  go_wp2_with fail
  refine (text_is ry bly hD.out Hvy.out.symm).mono ?_
  rintro e w8 ⟨rfl, hb⟩
  replace ra := ra.below hb
  replace rx := rx.below hb
  replace rz := rz.below hb
  replace ry := ry.below hb
  replace HB := onto HB hb
  clear hb
  go_wp2
  go_ret
  exact ⟨rfl, HB⟩

set_option maxRecDepth 100000 in
set_option maxHeartbeats 4000000 in
theorem dback_long {w : World} {ada : Option Addr} {na ca : Nat} {a : List Nat} (ra : Rd w (.slice ada na ca) a) (ha : na ≤ 190) (s : ByteArray) (h25 : s.size ≤ 2500) (hD : Hid (Dec (by0 s))) (hs : Hid (1900 < s.size)) :
    Calls Tryd.prog 4 #[.slice ada na ca, .string s] w (Samed w true) := by
  have HB := Below.refl w.heap.size w
  have la : a.length ≤ 190 := by rw [← ra.open.1]; exact ha
  have hlim := Lib.hid ra.lim
  have z : decide ((190 : Int) < (na : Int)) = false := decide_eq_false (by omega)
  have z2 : decide ((2500 : Int) < (s.size : Int)) = false := decide_eq_false (by omega)
  have hmil := Lib.hid (show s.size ≤ 1000000 by omega); clear h25
  go_enter Tryd.func4, Tryd.ntmps4
  go_wp2_with fail
  refine (dhead_any w).mono ?_
  rintro e w1 ⟨rfl, hb⟩
  replace ra := ra.below hb
  replace HB := onto HB hb
  clear hb
  go_wp2_with fail
  refine (text_any ra (by omega)).mono ?_
  rintro e w2 ⟨t, rfl, dt, nt, hb⟩
  replace ra := ra.below hb
  replace HB := onto HB hb
  clear hb
  have Hdt := Lib.hid dt; clear dt
  have Hnt := Lib.hid nt; clear nt
  have ts := Lib.hid (text_size Hdt.out hlim.out Hnt.out la (by decide))
  go_wp2_with fail
  refine (parse_ok t _ Hdt.out ts.out).mono ?_
  rintro e w3 ⟨adx, nx, cx, lx, rfl, rx, kx, vx, hb⟩
  replace ra := ra.below hb
  replace HB := onto HB hb
  clear hb
  have Hvx := Lib.hid vx; clear vx
  have bx : lx.length ≤ 200 := few_ok Hdt.out ts.out kx Hvx.out
  go_wp2_with fail
  refine (right_is t _ (b := true) (decide_eq_true Hdt.out)).mono ?_
  rintro e w4 ⟨rfl, hb⟩
  replace ra := ra.below hb
  replace rx := rx.below hb
  replace HB := onto HB hb
  clear hb
  go_wp2_with fail
  refine (rnorm_any ra (by omega)).mono ?_
  rintro e w5 ⟨adz, nz, cz, lz, rfl, -, rz, kz, vz, hb⟩
  replace ra := ra.below hb
  replace rx := rx.below hb
  replace HB := onto HB hb
  clear hb
  have Hvz := Lib.hid vz; clear vz
  go_wp2_with fail
  refine (same_vals rx rz (by omega) kx kz (by rw [Hvx.out, Hvz.out, Hnt.out])).mono ?_
  rintro e w6 ⟨rfl, hb⟩
  replace ra := ra.below hb
  replace rx := rx.below hb
  replace rz := rz.below hb
  replace HB := onto HB hb
  clear hb
  go_wp2_with fail
  refine (parse_long s _ hmil.out hD.out hs.out).mono ?_
  rintro e w7 ⟨rfl, hb⟩
  replace ra := ra.below hb
  replace rx := rx.below hb
  replace rz := rz.below hb
  replace HB := onto HB hb
  clear hb
  go_wp2_with fail
  refine (right_is s _ (b := true) (decide_eq_true hD.out)).mono ?_
  rintro e w8 ⟨rfl, hb⟩
  replace ra := ra.below hb
  replace rx := rx.below hb
  replace rz := rz.below hb
  replace HB := onto HB hb
  clear hb
  have z3 : decide ((1900 : Int) < (s.size : Int)) = true := decide_eq_true (by have := hs.out; omega)
  go_wp2
  go_ret
  exact ⟨rfl, HB⟩

set_option maxRecDepth 100000 in
set_option maxHeartbeats 4000000 in
theorem dback_bad {w : World} {ada : Option Addr} {na ca : Nat} {a : List Nat} (ra : Rd w (.slice ada na ca) a) (ha : na ≤ 190) (s : ByteArray) (h25 : s.size ≤ 2500) (hD : Hid (¬ Dec (by0 s))) :
    Calls Tryd.prog 4 #[.slice ada na ca, .string s] w (Samed w true) := by
  have HB := Below.refl w.heap.size w
  have la : a.length ≤ 190 := by rw [← ra.open.1]; exact ha
  have hlim := Lib.hid ra.lim
  have z : decide ((190 : Int) < (na : Int)) = false := decide_eq_false (by omega)
  have z2 : decide ((2500 : Int) < (s.size : Int)) = false := decide_eq_false (by omega)
  have hmil := Lib.hid (show s.size ≤ 1000000 by omega); clear h25
  go_enter Tryd.func4, Tryd.ntmps4
  go_wp2_with fail
  refine (dhead_any w).mono ?_
  rintro e w1 ⟨rfl, hb⟩
  replace ra := ra.below hb
  replace HB := onto HB hb
  clear hb
  go_wp2_with fail
  refine (text_any ra (by omega)).mono ?_
  rintro e w2 ⟨t, rfl, dt, nt, hb⟩
  replace ra := ra.below hb
  replace HB := onto HB hb
  clear hb
  have Hdt := Lib.hid dt; clear dt
  have Hnt := Lib.hid nt; clear nt
  have ts := Lib.hid (text_size Hdt.out hlim.out Hnt.out la (by decide))
  go_wp2_with fail
  refine (parse_ok t _ Hdt.out ts.out).mono ?_
  rintro e w3 ⟨adx, nx, cx, lx, rfl, rx, kx, vx, hb⟩
  replace ra := ra.below hb
  replace HB := onto HB hb
  clear hb
  have Hvx := Lib.hid vx; clear vx
  have bx : lx.length ≤ 200 := few_ok Hdt.out ts.out kx Hvx.out
  go_wp2_with fail
  refine (right_is t _ (b := true) (decide_eq_true Hdt.out)).mono ?_
  rintro e w4 ⟨rfl, hb⟩
  replace ra := ra.below hb
  replace rx := rx.below hb
  replace HB := onto HB hb
  clear hb
  go_wp2_with fail
  refine (rnorm_any ra (by omega)).mono ?_
  rintro e w5 ⟨adz, nz, cz, lz, rfl, -, rz, kz, vz, hb⟩
  replace ra := ra.below hb
  replace rx := rx.below hb
  replace HB := onto HB hb
  clear hb
  have Hvz := Lib.hid vz; clear vz
  go_wp2_with fail
  refine (same_vals rx rz (by omega) kx kz (by rw [Hvx.out, Hvz.out, Hnt.out])).mono ?_
  rintro e w6 ⟨rfl, hb⟩
  replace ra := ra.below hb
  replace rx := rx.below hb
  replace rz := rz.below hb
  replace HB := onto HB hb
  clear hb
  go_wp2_with fail
  refine (parse_bad s _ hmil.out hD.out).mono ?_
  rintro e w7 ⟨rfl, hb⟩
  replace ra := ra.below hb
  replace rx := rx.below hb
  replace rz := rz.below hb
  replace HB := onto HB hb
  clear hb
  go_wp2_with fail
  refine (right_is s _ (b := false) (decide_eq_false hD.out)).mono ?_
  rintro e w8 ⟨rfl, hb⟩
  replace ra := ra.below hb
  replace rx := rx.below hb
  replace rz := rz.below hb
  replace HB := onto HB hb
  clear hb
  go_wp2
  go_ret
  exact ⟨rfl, HB⟩

theorem dback_law {w : World} {ada : Option Addr} {na ca : Nat} {a : List Nat} (ra : Rd w (.slice ada na ca) a) (s : ByteArray) : Calls Tryd.prog 4 #[.slice ada na ca, .string s] w (Samed w true) := by
  by_cases h : 190 < na ∨ 2500 < s.size
  · exact dback_great ada na ca s h
  · by_cases hD : Dec (by0 s)
    · by_cases hs : s.size ≤ 1900
      · exact dback_ok ra (by omega) s (by omega) hD hs
      · exact dback_long ra (by omega) s (by omega) hD (Lib.hid (by omega))
    · exact dback_bad ra (by omega) s (by omega) hD

end Go.Proofs.YtkfododihdopiaaDoor
