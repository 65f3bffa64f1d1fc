/-
  DigitsTells: the law's body answers true of any list and any text.
-/
import Derived.Test.YtkfododihdopiaaDoorHeadD
namespace Go.Proofs.YtkfododihdopiaaDoor
open Go.RowKit

set_option maxRecDepth 100000 in
set_option maxHeartbeats 4000000 in
theorem dtells_great {w : World} (ada : Option Addr) (na ca : Nat) (s : ByteArray) (h : 60 < na ∨ 2500 < s.size) :
    Calls Tryd.prog 3 #[.slice ada na ca, .string s] w (Samed w true) := by
  by_cases h6 : 60 < na
  · clear h
    go_enter Tryd.func3, Tryd.ntmps3
    go_wp2_with fail
    refine (dhead_any w).mono ?_
    rintro e w1 ⟨rfl, hb⟩
    have z : (60 : Int) < na := by omega
    go_wp2
    go_ret
    exact ⟨rfl, hb⟩
  · have h2 : 2500 < s.size := by omega
    clear h
    go_enter Tryd.func3, Tryd.ntmps3
    go_wp2_with fail
    refine (dhead_any w).mono ?_
    rintro e w1 ⟨rfl, hb⟩
    have z : ¬ ((60 : Int) < na) := by omega
    have z2 : (2500 : Int) < s.size := by omega
    go_wp2
    go_ret
    exact ⟨rfl, hb⟩

set_option maxRecDepth 100000 in
set_option maxHeartbeats 4000000 in
theorem dtells_ok {w : World} {ada : Option Addr} {na ca : Nat} {a : List Nat} (ra : Rd w (.slice ada na ca) a) (ha : na ≤ 60) (s : ByteArray) (h25 : s.size ≤ 2500) (hD : Hid (Dec (by0 s))) (hs : s.size ≤ 1900) :
    Calls Tryd.prog 3 #[.slice ada na ca, .string s] w (Samed w true) := by
  have HB := Below.refl w.heap.size w
  have la : a.length ≤ 60 := by rw [← ra.open.1]; exact ha
  have z : decide ((60 : Int) < (na : Int)) = false := decide_eq_false (by omega)
  have z2 : decide ((2500 : Int) < (s.size : Int)) = false := decide_eq_false (by omega)
  have hmil := Lib.hid (show s.size ≤ 1000000 by omega); clear h25
  go_enter Tryd.func3, Tryd.ntmps3
  go_wp2_with fail
  refine (dhead_any w).mono ?_
  rintro e w1 ⟨rfl, hb⟩
  replace ra := ra.below hb
  replace HB := onto HB hb
  clear hb
  go_wp2_with fail
  refine (parse_ok s w1 hD.out hs).mono ?_
  rintro e w2 ⟨adx, nx, cx, lx, rfl, rx, kx, vx, hb⟩
  replace ra := ra.below hb
  replace HB := onto HB hb
  clear hb
  have Hvx := Lib.hid vx; clear vx
  go_wp2_with fail
  refine (rparse_ok s w2 hD.out hs).mono ?_
  rintro e w3 ⟨ady, ny, cy, ly, rfl, ry, ky, vy, hb⟩
  replace ra := ra.below hb
  replace rx := rx.below hb
  replace HB := onto HB hb
  clear hb
  have Hvy := Lib.hid vy; clear vy
  have bx : lx.length ≤ 200 := by
    have h1 := num_lt hD.out.1
    rw [by0_len] at h1
    have h2 := ten_le hs
    exact kx.len (ten_limbs (k := 100) (by rw [Hvx.out]; omega))
  go_wp2_with fail
  refine (text_any ra (by omega)).mono ?_
  rintro e w4 ⟨t, rfl, dt, nt, hb⟩
  replace ra := ra.below hb
  replace rx := rx.below hb
  replace ry := ry.below hb
  replace HB := onto HB hb
  clear hb
  have Hdt := Lib.hid dt; clear dt
  have Hnt := Lib.hid nt; clear nt
  go_wp2_with fail
  refine (rtext_is ra (by omega) Hdt.out Hnt.out).mono ?_
  rintro e w5 ⟨rfl, hb⟩
  replace ra := ra.below hb
  replace rx := rx.below hb
  replace ry := ry.below hb
  replace HB := onto HB hb
  clear hb
  go_wp2_with fail
  refine (same_vals rx ry (by omega) kx ky (by rw [Hvx.out, Hvy.out])).mono ?_
  rintro e w6 ⟨rfl, hb⟩
  replace ra := ra.below hb
  replace rx := rx.below hb
  replace ry := ry.below hb
  replace HB := onto HB hb
  clear hb
  go_wp2_with fail
  refine (right_any s _).mono ?_
  rintro e w7 ⟨rfl, hb⟩
  replace ra := ra.below hb
  replace rx := rx.below hb
  replace ry := ry.below hb
  replace HB := onto HB hb
  clear hb
  go_wp2_with fail
  refine (rright_any s _ hmil.out).mono ?_
  rintro e w8 ⟨rfl, hb⟩
  replace ra := ra.below hb
  replace rx := rx.below hb
  replace ry := ry.below hb
  replace HB := onto HB hb
  clear hb
  go_wp2
  go_ret
  exact ⟨rfl, HB⟩

set_option maxRecDepth 100000 in
set_option maxHeartbeats 4000000 in
theorem dtells_long {w : World} {ada : Option Addr} {na ca : Nat} {a : List Nat} (ra : Rd w (.slice ada na ca) a) (ha : na ≤ 60) (s : ByteArray) (h25 : s.size ≤ 2500) (hD : Hid (Dec (by0 s))) (hs : Hid (1900 < s.size)) :
    Calls Tryd.prog 3 #[.slice ada na ca, .string s] w (Samed w true) := by
  have HB := Below.refl w.heap.size w
  have la : a.length ≤ 60 := by rw [← ra.open.1]; exact ha
  have z : decide ((60 : Int) < (na : Int)) = false := decide_eq_false (by omega)
  have z2 : decide ((2500 : Int) < (s.size : Int)) = false := decide_eq_false (by omega)
  have hmil := Lib.hid (show s.size ≤ 1000000 by omega); clear h25
  go_enter Tryd.func3, Tryd.ntmps3
  go_wp2_with fail
  refine (dhead_any w).mono ?_
  rintro e w1 ⟨rfl, hb⟩
  replace ra := ra.below hb
  replace HB := onto HB hb
  clear hb
  go_wp2_with fail
  refine (parse_long s w1 hmil.out hD.out hs.out).mono ?_
  rintro e w2 ⟨rfl, hb⟩
  replace ra := ra.below hb
  replace HB := onto HB hb
  clear hb
  go_wp2_with fail
  refine (rparse_long s w2 hmil.out hD.out hs.out).mono ?_
  rintro e w3 ⟨rfl, hb⟩
  replace ra := ra.below hb
  replace HB := onto HB hb
  clear hb
  go_wp2_with fail
  refine (text_any ra (by omega)).mono ?_
  rintro e w4 ⟨t, rfl, dt, nt, hb⟩
  replace ra := ra.below hb
  replace HB := onto HB hb
  clear hb
  have Hdt := Lib.hid dt; clear dt
  have Hnt := Lib.hid nt; clear nt
  go_wp2_with fail
  refine (rtext_is ra (by omega) Hdt.out Hnt.out).mono ?_
  rintro e w5 ⟨rfl, hb⟩
  replace ra := ra.below hb
  replace HB := onto HB hb
  clear hb
  go_wp2_with fail
  refine (same_yes (Rd.nil _) (Rd.nil _) (by decide) rfl).mono ?_
  rintro e w6 ⟨rfl, hb⟩
  replace ra := ra.below hb
  replace HB := onto HB hb
  clear hb
  go_wp2_with fail
  refine (right_any s _).mono ?_
  rintro e w7 ⟨rfl, hb⟩
  replace ra := ra.below hb
  replace HB := onto HB hb
  clear hb
  go_wp2_with fail
  refine (rright_any s _ hmil.out).mono ?_
  rintro e w8 ⟨rfl, hb⟩
  replace ra := ra.below hb
  replace HB := onto HB hb
  clear hb
  go_wp2
  go_ret
  exact ⟨rfl, HB⟩

set_option maxRecDepth 100000 in
set_option maxHeartbeats 4000000 in
theorem dtells_bad {w : World} {ada : Option Addr} {na ca : Nat} {a : List Nat} (ra : Rd w (.slice ada na ca) a) (ha : na ≤ 60) (s : ByteArray) (h25 : s.size ≤ 2500) (hD : Hid (¬ Dec (by0 s))) :
    Calls Tryd.prog 3 #[.slice ada na ca, .string s] w (Samed w true) := by
  have HB := Below.refl w.heap.size w
  have la : a.length ≤ 60 := by rw [← ra.open.1]; exact ha
  have z : decide ((60 : Int) < (na : Int)) = false := decide_eq_false (by omega)
  have z2 : decide ((2500 : Int) < (s.size : Int)) = false := decide_eq_false (by omega)
  have hmil := Lib.hid (show s.size ≤ 1000000 by omega); clear h25
  go_enter Tryd.func3, Tryd.ntmps3
  go_wp2_with fail
  refine (dhead_any w).mono ?_
  rintro e w1 ⟨rfl, hb⟩
  replace ra := ra.below hb
  replace HB := onto HB hb
  clear hb
  go_wp2_with fail
  refine (parse_bad s w1 hmil.out hD.out).mono ?_
  rintro e w2 ⟨rfl, hb⟩
  replace ra := ra.below hb
  replace HB := onto HB hb
  clear hb
  go_wp2_with fail
  refine (rparse_bad s w2 hmil.out hD.out).mono ?_
  rintro e w3 ⟨rfl, hb⟩
  replace ra := ra.below hb
  replace HB := onto HB hb
  clear hb
  go_wp2_with fail
  refine (text_any ra (by omega)).mono ?_
  rintro e w4 ⟨t, rfl, dt, nt, hb⟩
  replace ra := ra.below hb
  replace HB := onto HB hb
  clear hb
  have Hdt := Lib.hid dt; clear dt
  have Hnt := Lib.hid nt; clear nt
  go_wp2_with fail
  refine (rtext_is ra (by omega) Hdt.out Hnt.out).mono ?_
  rintro e w5 ⟨rfl, hb⟩
  replace ra := ra.below hb
  replace HB := onto HB hb
  clear hb
  go_wp2_with fail
  refine (same_yes (Rd.nil _) (Rd.nil _) (by decide) rfl).mono ?_
  rintro e w6 ⟨rfl, hb⟩
  replace ra := ra.below hb
  replace HB := onto HB hb
  clear hb
  go_wp2_with fail
  refine (right_any s _).mono ?_
  rintro e w7 ⟨rfl, hb⟩
  replace ra := ra.below hb
  replace HB := onto HB hb
  clear hb
  go_wp2_with fail
  refine (rright_any s _ hmil.out).mono ?_
  rintro e w8 ⟨rfl, hb⟩
  replace ra := ra.below hb
  replace HB := onto HB hb
  clear hb
  go_wp2
  go_ret
  exact ⟨rfl, HB⟩

theorem dtells_law {w : World} {ada : Option Addr} {na ca : Nat} {a : List Nat} (ra : Rd w (.slice ada na ca) a) (s : ByteArray) : Calls Tryd.prog 3 #[.slice ada na ca, .string s] w (Samed w true) := by
  by_cases h : 60 < na ∨ 2500 < s.size
  · exact dtells_great ada na ca s h
  · by_cases hD : Dec (by0 s)
    · by_cases hs : s.size ≤ 1900
      · exact dtells_ok ra (by omega) s (by omega) hD hs
      · exact dtells_long ra (by omega) s (by omega) hD (Lib.hid (by omega))
    · exact dtells_bad ra (by omega) s (by omega) hD

end Go.Proofs.YtkfododihdopiaaDoor
