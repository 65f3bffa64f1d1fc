/-
  DigitsNext: the law's body answers true of any list and any digit.
-/
import Derived.Test.YtkfododihdopiaaDoorHeadD
import Derived.Test.YtkfododihdopiaaDoorNormBig
import Derived.Deep.RegionWith
namespace Go.Proofs.YtkfododihdopiaaDoor
open Go.RowKit

theorem by0_append (s t : ByteArray) : by0 (s ++ t) = by0 s ++ by0 t := by
  unfold by0
  rw [ByteArray.data_append, Array.toList_append]

/-- Digits behind right decimals that are not 0 leave them right. -/
theorem Dec.more {l m : List UInt8} (h : Dec l) (h0 : 0 < num l) (hm : Digs m) : Dec (l ++ m) := by
  refine ⟨h.1.append hm, by have := h.2.1; simp [this], fun _ he => ?_⟩
  cases l with
  | nil => exact absurd rfl h.2.1
  | cons b l =>
    have hb : b = 48 := by simpa using he
    subst hb
    cases l with
    | nil => exact absurd h0 (by decide)
    | cons c l => exact h.2.2 (by simp) rfl

/-- One byte's slice as a string. -/
theorem string_one (W : World) (B : Nat) (c : UInt8) {y : Int} (hy : y = (c.toNat : Int)) (h : W.cell? ⟨B, 0, none⟩ = some (.int .u8 y)) : (convert 33 9 (.slice (some ⟨B, 0, none⟩) 1 1)).run Tryd.prog W = .ok (.string ⟨#[c]⟩) W := by
  subst hy
  have hlt : B < W.heap.size := World.block_lt_of_cell? W ⟨B, 0, none⟩ h
  exact string_of (l := [c]) (.inr ⟨B, 0, 1, 1, rfl, rfl, hlt, fun i x hi => by
    match i, hi with
    | 0, hi => obtain rfl : c = x := by simpa using hi
               exact h⟩)

set_option maxRecDepth 100000 in
set_option maxHeartbeats 4000000 in
theorem dnext_great {w : World} {ada : Option Addr} {na ca : Nat} {a : List Nat} (ra : Rd w (.slice ada na ca) a) (d : Nat) (hl : na ≤ 35184372087808) (h : 60 < na) :
    Calls Tryd.prog 6 #[.slice ada na ca, .int .u8 (d : Int)] w (Samed w true) := by
  have la : a.length ≤ 35184372087808 := by rw [← ra.open.1]; exact hl
  clear hl
  go_enter Tryd.func6, Tryd.ntmps6
  go_wp2_with fail
  refine (dhead_any w).mono ?_
  rintro e w1 ⟨rfl, hb⟩
  go_wp2_with fail
  refine (rnorm_big (ra.below hb) la).mono ?_
  rintro e w2 ⟨adx, nx, cx, lx, rfl, -, rx, kx, vx, hb2⟩
  have z : decide ((60 : Int) < (na : Int)) = true := decide_eq_true (by omega)
  go_wp2
  go_ret
  exact ⟨rfl, onto hb hb2⟩

set_option maxRecDepth 100000 in
set_option maxHeartbeats 4000000 in
theorem dnext_zero {w : World} {ada : Option Addr} {na ca : Nat} {a : List Nat} (ra : Rd w (.slice ada na ca) a) (d : Nat) (hl : na ≤ 60) (h : val a = 0) :
    Calls Tryd.prog 6 #[.slice ada na ca, .int .u8 (d : Int)] w (Samed w true) := by
  have la : a.length ≤ 60 := by rw [← ra.open.1]; exact hl
  have z : decide ((60 : Int) < (na : Int)) = false := decide_eq_false (by omega)
  have H0 := Lib.hid h; clear h hl
  go_enter Tryd.func6, Tryd.ntmps6
  go_wp2_with fail
  refine (dhead_any w).mono ?_
  rintro e w1 ⟨rfl, hb⟩
  go_wp2_with fail
  refine (rnorm_any (ra.below hb) (by omega)).mono ?_
  rintro e w2 ⟨adx, nx, cx, lx, rfl, -, rx, kx, vx, hb2⟩
  obtain rfl : lx = [] := kx.zero (vx.trans H0.out)
  obtain rfl : nx = 0 := rx.open.1
  clear vx
  go_wp2
  go_ret
  exact ⟨rfl, onto hb hb2⟩

set_option maxRecDepth 100000 in
set_option maxHeartbeats 8000000 in
theorem dnext_main {w : World} {ada : Option Addr} {na ca : Nat} {a : List Nat} (ra : Rd w (.slice ada na ca) a) (d : Nat) (hl : na ≤ 60) (h : 0 < val a) :
    Calls Tryd.prog 6 #[.slice ada na ca, .int .u8 (d : Int)] w (Samed w true) := by
  have HB := Below.refl w.heap.size w
  have la : a.length ≤ 60 := by rw [← ra.open.1]; exact hl
  have z : decide ((60 : Int) < (na : Int)) = false := decide_eq_false (by omega)
  have H0 := Lib.hid h; clear h hl
  have hlim := Lib.hid ra.lim
  go_enter Tryd.func6, Tryd.ntmps6
  go_wp2_with fail
  refine (dhead_any w).mono ?_
  rintro e w1 ⟨rfl, hb⟩
  replace ra := ra.below hb
  replace HB := onto HB hb
  clear hb
  go_wp2_with fail
  refine (rnorm_any ra (by omega)).mono ?_
  rintro e w2 ⟨adx, nx, cx, lx, rfl, -, rx, kx, vx, hb⟩
  replace ra := ra.below hb
  replace HB := onto HB hb
  clear hb
  have Hvx := Lib.hid vx; clear vx
  have bx : lx.length ≤ 60 := kx.len (by rw [Hvx.out]; exact val_small hlim.out la)
  have hx0 : 0 < nx := by
    rw [rx.open.1]
    rcases Nat.eq_zero_or_pos lx.length with e | e
    · have h1 := Hvx.out
      rw [List.eq_nil_of_length_eq_zero e] at h1
      have := H0.out
      rw [← h1] at this
      exact absurd this (by decide)
    · exact e
  have z3 : ((nx : Int) == 0) = false := by simp; omega
  obtain ⟨k, hk⟩ : ∃ k, k = d % 10 := ⟨_, rfl⟩
  have k9 : k < 10 := by omega
  have ek : (d : Int) % 10 = (k : Int) := by omega
  have ek2 : (d : Int).tmod 10 = (k : Int) := by rw [Int.tmod_eq_emod_of_nonneg (by omega)]; omega
  have hdk : IntKind.u8.wrap (48 + (k : Int)) = ((digit k).toNat : Int) := by rw [wrap_u8 _ (by omega) (by omega), digit_nat]; omega
  have HDK := Lib.hid hdk
  have hdd : Digs [digit k] := Digs.one (by rw [digit_nat]; omega) (by rw [digit_nat]; omega)
  have HDD := Lib.hid hdd
  clear hk hdk hdd hx0
  have hconv := fun W B h => string_one W B (digit k) HDK.out h
  go_wp2_with fail
  go_region_with (go_at_call 13
                  refine (text_any (a := a) ?_ ?_).mono ?_
                  · first | exact ra.below (bel_drew (Below.refl _ _)) | exact ra.below (bel_drew (bel_alloc (Below.refl _ _) _))
                  · omega
                  rintro e w3 ⟨s, rfl, ds, ns, hb3⟩
                  have HW3 : Hid (Below w2.heap.size w2 w3) := by first | exact onto (bel_drew (Below.refl _ _)) hb3 | exact onto (bel_drew (bel_alloc (Below.refl _ _) _)) hb3
                  have hsz3 : s.size ≤ 600 := text_size ds hlim.out ns la (by decide)
                  try have hc3 : w3.cell? ⟨w2.heap.size, 0, none⟩ = some (.int .u8 (IntKind.u8.wrap (48 + (k : Int)))) := (hb3.cell (p := ⟨w2.heap.size, 0, none⟩) (by simp)).trans (one_cell _ _ _)
                  have DS := Lib.hid ds
                  have NS := Lib.hid ns
                  clear ds ns hb3)
  all_goals
    replace HB := onto HB HW3.out
    replace ra := ra.below HW3.out
    replace rx := rx.below HW3.out
    have hdec : Dec (by0 (s ++ ⟨#[digit k]⟩)) := by rw [by0_append]; exact DS.out.more (by rw [NS.out]; exact H0.out) HDD.out
    have hlen : (s ++ ⟨#[digit k]⟩ : ByteArray).size ≤ 1900 := by rw [← by0_len, by0_append, List.length_append, by0_len]; show s.size + 1 ≤ 1900; omega
    have hnum : num (by0 (s ++ ⟨#[digit k]⟩)) = val a * 10 + k := by
      rw [by0_append, num_append, NS.out]
      show val a * 10 ^ 1 + num [digit k] = val a * 10 + k
      rw [num_one, digit_dg]; omega
    have HDEC := Lib.hid hdec
    have HLEN := Lib.hid hlen
    have HNUM := Lib.hid hnum
    clear hdec hlen hnum hconv
    go_wp2_with fail
    refine (parse_ok _ _ HDEC.out HLEN.out).mono ?_
    rintro e w4 ⟨ady, ny, cy, ly, rfl, ry, ky, vy, hb⟩
    try replace hb := past hb
    replace HB := onto HB hb
    replace rx := rx.below hb
    have by1 : ly.length ≤ 200 := few_limbs HDEC.out.1 (by rw [by0_len]; exact HLEN.out) ky (by rw [vy]; exact Nat.le_refl _)
    have Hvy := Lib.hid vy; clear vy hb
    go_wp2_with fail
    refine (rmul_any (rx.below (alb _ _)) (lit1 _ 10 (by decide)) (by omega) (by decide)).mono ?_
    rintro e w5 ⟨adm, nm, cm, lm, rfl, -, rm, km, vm, hb⟩
    replace hb := past hb
    replace rx := rx.below hb
    replace ry := ry.below hb
    replace HB := onto HB hb
    clear hb
    have Hvm := Lib.hid vm; clear vm
    have bm : lm.length ≤ 200 := few_limbs HDEC.out.1 (by rw [by0_len]; exact HLEN.out) km (by rw [Hvm.out, HNUM.out, Hvx.out, val1]; omega)
    go_wp2_with fail
    refine (radd_any (rm.below (alb _ _)) (lit1 _ k (by omega)) (by omega) (by simp)).mono ?_
    rintro e w6 ⟨adt, nt, ct, lt, rfl, -, rt, kt, vt, hb⟩
    replace hb := past hb
    replace rx := rx.below hb
    replace ry := ry.below hb
    replace rm := rm.below hb
    replace HB := onto HB hb
    clear hb
    have Hvt := Lib.hid vt; clear vt
    go_wp2_with fail
    refine (same_vals ry rt (by omega) ky kt (by rw [Hvy.out, Hvt.out, Hvm.out, HNUM.out, Hvx.out, val1, val1])).mono ?_
    rintro e w7 ⟨rfl, hb⟩
    replace rx := rx.below hb
    replace ry := ry.below hb
    replace rm := rm.below hb
    replace rt := rt.below hb
    replace HB := onto HB hb
    clear hb
    go_wp2
    go_ret
    exact ⟨rfl, HB⟩

theorem dnext_law {w : World} {ada : Option Addr} {na ca : Nat} {a : List Nat} (ra : Rd w (.slice ada na ca) a) (hl : na ≤ 35184372087808) (d : Nat) : Calls Tryd.prog 6 #[.slice ada na ca, .int .u8 (d : Int)] w (Samed w true) := by
  by_cases h : 60 < na
  · exact dnext_great ra d hl h
  · rcases Nat.eq_zero_or_pos (val a) with h0 | h0
    · exact dnext_zero ra d (by omega) h0
    · exact dnext_main ra d (by omega) h0

end Go.Proofs.YtkfododihdopiaaDoor
