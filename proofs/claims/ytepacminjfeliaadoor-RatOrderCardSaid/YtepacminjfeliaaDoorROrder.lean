/-
  RatOrder: the law's body answers true of any three texts.
-/
import Derived.Test.YtepacminjfeliaaDoorBody3
namespace Go.Proofs.YtepacminjfeliaaDoor
open Go.RowKit

theorem cmp_range (x y : Rat) : -1 ≤ cmpQ x y ∧ cmpQ x y ≤ 1 := by unfold cmpQ; split <;> (try split) <;> omega
theorem cmp_swap (x y : Rat) : cmpQ y x = -cmpQ x y := by
  unfold cmpQ
  by_cases h1 : x < y
  · rw [if_pos h1, if_neg (Rat.not_lt.2 (Rat.le_of_lt h1)), if_pos h1]; rfl
  · by_cases h2 : y < x
    · rw [if_pos h2, if_neg h1, if_pos h2]
    · rw [if_neg h2, if_neg h1, if_neg h1, if_neg h2]; rfl
theorem cmp_le {x y : Rat} : cmpQ x y ≤ 0 ↔ x ≤ y := by
  unfold cmpQ
  by_cases h1 : x < y
  · rw [if_pos h1]; exact ⟨fun _ => Rat.le_of_lt h1, fun _ => by decide⟩
  · by_cases h2 : y < x
    · rw [if_neg h1, if_pos h2]; exact ⟨fun h => absurd h (by decide), fun h => absurd h2 (Rat.not_lt.2 h)⟩
    · rw [if_neg h1, if_neg h2]; exact ⟨fun _ => Rat.not_lt.1 h2, fun _ => by decide⟩
theorem cmp_trans {x y z : Rat} (h1 : cmpQ x y ≤ 0) (h2 : cmpQ y z ≤ 0) : cmpQ x z ≤ 0 := cmp_le.2 (Rat.le_trans (cmp_le.1 h1) (cmp_le.1 h2))
theorem cmp_lt {x y : Rat} (h : x < y) : cmpQ x y = -1 := by unfold cmpQ; rw [if_pos h]
theorem cmp_gt {x y : Rat} (h : y < x) : cmpQ x y = 1 := by unfold cmpQ; rw [if_neg (Rat.not_lt.2 (Rat.le_of_lt h)), if_pos h]
theorem cmp_self (x : Rat) : cmpQ x x = 0 := by unfold cmpQ; rw [if_neg (Rat.lt_irrefl), if_neg (Rat.lt_irrefl)]
theorem three (x y : Rat) : x < y ∨ x = y ∨ y < x := by
  by_cases h1 : x < y
  · exact .inl h1
  · by_cases h2 : y < x
    · exact .inr (.inr h2)
    · exact .inr (.inl (Rat.le_antisymm (Rat.not_lt.1 h2) (Rat.not_lt.1 h1)))
theorem cmp_add (x y z : Rat) : cmpQ (x + z) (y + z) = cmpQ x y := by
  rcases three x y with h | h | h
  · rw [cmp_lt h, cmp_lt (by grind)]
  · rw [h, cmp_self, cmp_self]
  · rw [cmp_gt h, cmp_gt (by grind)]
theorem cmp_mul (x y z : Rat) : cmpQ (x * z) (y * z) = cmpQ x y * cmpQ z 0 := by
  rcases three z 0 with hz | hz | hz
  · have hn : 0 < -z := by grind
    rw [cmp_lt hz]
    rcases three x y with h | h | h
    · have := Rat.mul_lt_mul_of_pos_right h hn
      rw [cmp_lt h, cmp_gt (by grind)]; rfl
    · rw [h, cmp_self, cmp_self]; rfl
    · have := Rat.mul_lt_mul_of_pos_right h hn
      rw [cmp_gt h, cmp_lt (by grind)]; rfl
  · rw [hz, Rat.mul_zero, Rat.mul_zero, cmp_self]; omega
  · rw [cmp_gt hz, Int.mul_one]
    rcases three x y with h | h | h
    · rw [cmp_lt h, cmp_lt (Rat.mul_lt_mul_of_pos_right h hz)]
    · rw [h, cmp_self, cmp_self]
    · rw [cmp_gt h, cmp_gt (Rat.mul_lt_mul_of_pos_right h hz)]

set_option maxRecDepth 100000 in
set_option maxHeartbeats 8000000 in
theorem rorder_great {w : World} (x y z : ByteArray) (h : 160 < x.size ∨ 160 < y.size) : Calls Tryd.prog 5 #[.string x, .string y, .string z] w (Samed w true) := by
  have HB := Below.refl w.heap.size w
  have HH := Lib.hid h; clear h
  go_enter Tryd.func5, Tryd.ntmps5
  go_wp2_with fail
  refine (rhead_any _).mono ?_
  rintro e w1 ⟨rfl, hb⟩
  replace HB := onto HB hb
  clear hb
  go_wp2_with fail
  refine (great_yes _ HH.out).mono ?_
  rintro e w2 ⟨rfl, hb⟩
  replace HB := onto HB hb
  clear hb
  go_wp2
  go_ret
  exact ⟨rfl, HB⟩

set_option maxRecDepth 100000 in
set_option maxHeartbeats 8000000 in
theorem rorder_great3 {w : World} (x y z : ByteArray) (h1 : x.size ≤ 160) (h2 : y.size ≤ 160) (h : 160 < z.size) : Calls Tryd.prog 5 #[.string x, .string y, .string z] w (Samed w true) := by
  have HB := Below.refl w.heap.size w
  have HH := Lib.hid (And.intro h1 h2); clear h1 h2
  have z : decide ((160 : Int) < (z.size : Int)) = true := decide_eq_true (by omega)
  go_enter Tryd.func5, Tryd.ntmps5
  go_wp2_with fail
  refine (rhead_any _).mono ?_
  rintro e w1 ⟨rfl, hb⟩
  replace HB := onto HB hb
  clear hb
  go_wp2_with fail
  refine (great_no _ HH.out.1 HH.out.2).mono ?_
  rintro e w2 ⟨rfl, hb⟩
  replace HB := onto HB hb
  clear hb
  go_wp2
  go_ret
  exact ⟨rfl, HB⟩

set_option maxRecDepth 100000 in
set_option maxHeartbeats 8000000 in
theorem rorder_bad0_12 {w : World} (x y z : ByteArray) (tx : ByteArray) (gx : Int) (ty : ByteArray) (gy : Int) (tz : ByteArray) (gz : Int) (nx : ∀ w, Calls Tryd.prog 10 #[.string x] w fun e w' => e = .returned (.tuple #[.string tx, .int .i64 gx]) ∧ Below w.heap.size w w') (ny : ∀ w, Calls Tryd.prog 10 #[.string y] w fun e w' => e = .returned (.tuple #[.string ty, .int .i64 gy]) ∧ Below w.heap.size w w') (nz : ∀ w, Calls Tryd.prog 10 #[.string z] w fun e w' => e = .returned (.tuple #[.string tz, .int .i64 gz]) ∧ Below w.heap.size w w') (h1 : x.size ≤ 160) (h2 : y.size ≤ 160) (h3 : z.size ≤ 160)  (zx : gx = 12) : Calls Tryd.prog 5 #[.string x, .string y, .string z] w (Samed w true) := by
  subst zx
  have HB := Below.refl w.heap.size w
  have HH := Lib.hid (And.intro h1 h2); clear h1 h2
  have zz : decide ((160 : Int) < (z.size : Int)) = false := decide_eq_false (by omega)
  replace nx := Lib.hid nx
  replace ny := Lib.hid ny
  replace nz := Lib.hid nz
  go_enter Tryd.func5, Tryd.ntmps5
  go_wp2_with fail
  refine (rhead_any _).mono ?_
  rintro e w1 ⟨rfl, hb⟩
  replace HB := onto HB hb
  clear hb
  go_wp2_with fail
  refine (great_no _ HH.out.1 HH.out.2).mono ?_
  rintro e w2 ⟨rfl, hb⟩
  replace HB := onto HB hb
  clear hb
  go_wp2_with fail
  refine (nx.out _).mono ?_
  rintro e w3 ⟨rfl, hb⟩
  replace HB := onto HB hb
  clear hb
  go_wp2_with fail
  refine (ny.out _).mono ?_
  rintro e w4 ⟨rfl, hb⟩
  replace HB := onto HB hb
  clear hb
  go_wp2_with fail
  refine (nz.out _).mono ?_
  rintro e w5 ⟨rfl, hb⟩
  replace HB := onto HB hb
  clear hb
  go_wp2
  go_ret
  exact ⟨rfl, HB⟩

set_option maxRecDepth 100000 in
set_option maxHeartbeats 8000000 in
theorem rorder_bad0_21 {w : World} (x y z : ByteArray) (tx : ByteArray) (gx : Int) (ty : ByteArray) (gy : Int) (tz : ByteArray) (gz : Int) (nx : ∀ w, Calls Tryd.prog 10 #[.string x] w fun e w' => e = .returned (.tuple #[.string tx, .int .i64 gx]) ∧ Below w.heap.size w w') (ny : ∀ w, Calls Tryd.prog 10 #[.string y] w fun e w' => e = .returned (.tuple #[.string ty, .int .i64 gy]) ∧ Below w.heap.size w w') (nz : ∀ w, Calls Tryd.prog 10 #[.string z] w fun e w' => e = .returned (.tuple #[.string tz, .int .i64 gz]) ∧ Below w.heap.size w w') (h1 : x.size ≤ 160) (h2 : y.size ≤ 160) (h3 : z.size ≤ 160)  (zx : gx = 21) : Calls Tryd.prog 5 #[.string x, .string y, .string z] w (Samed w true) := by
  subst zx
  have HB := Below.refl w.heap.size w
  have HH := Lib.hid (And.intro h1 h2); clear h1 h2
  have zz : decide ((160 : Int) < (z.size : Int)) = false := decide_eq_false (by omega)
  replace nx := Lib.hid nx
  replace ny := Lib.hid ny
  replace nz := Lib.hid nz
  go_enter Tryd.func5, Tryd.ntmps5
  go_wp2_with fail
  refine (rhead_any _).mono ?_
  rintro e w1 ⟨rfl, hb⟩
  replace HB := onto HB hb
  clear hb
  go_wp2_with fail
  refine (great_no _ HH.out.1 HH.out.2).mono ?_
  rintro e w2 ⟨rfl, hb⟩
  replace HB := onto HB hb
  clear hb
  go_wp2_with fail
  refine (nx.out _).mono ?_
  rintro e w3 ⟨rfl, hb⟩
  replace HB := onto HB hb
  clear hb
  go_wp2_with fail
  refine (ny.out _).mono ?_
  rintro e w4 ⟨rfl, hb⟩
  replace HB := onto HB hb
  clear hb
  go_wp2_with fail
  refine (nz.out _).mono ?_
  rintro e w5 ⟨rfl, hb⟩
  replace HB := onto HB hb
  clear hb
  go_wp2
  go_ret
  exact ⟨rfl, HB⟩

theorem rorder_bad0 {w : World} (x y z : ByteArray) (tx : ByteArray) (gx : Int) (ty : ByteArray) (gy : Int) (tz : ByteArray) (gz : Int) (nx : ∀ w, Calls Tryd.prog 10 #[.string x] w fun e w' => e = .returned (.tuple #[.string tx, .int .i64 gx]) ∧ Below w.heap.size w w') (ny : ∀ w, Calls Tryd.prog 10 #[.string y] w fun e w' => e = .returned (.tuple #[.string ty, .int .i64 gy]) ∧ Below w.heap.size w w') (nz : ∀ w, Calls Tryd.prog 10 #[.string z] w fun e w' => e = .returned (.tuple #[.string tz, .int .i64 gz]) ∧ Below w.heap.size w w') (h1 : x.size ≤ 160) (h2 : y.size ≤ 160) (h3 : z.size ≤ 160)  (zx : gx = 12 ∨ gx = 21) : Calls Tryd.prog 5 #[.string x, .string y, .string z] w (Samed w true) := by
  rcases zx with zx | zx
  · exact rorder_bad0_12 x y z tx gx ty gy tz gz nx ny nz h1 h2 h3  zx
  · exact rorder_bad0_21 x y z tx gx ty gy tz gz nx ny nz h1 h2 h3  zx

set_option maxRecDepth 100000 in
set_option maxHeartbeats 8000000 in
theorem rorder_bad1_12 {w : World} (x y z : ByteArray) (tx : ByteArray) (gx : Int) (ty : ByteArray) (gy : Int) (tz : ByteArray) (gz : Int) (nx : ∀ w, Calls Tryd.prog 10 #[.string x] w fun e w' => e = .returned (.tuple #[.string tx, .int .i64 gx]) ∧ Below w.heap.size w w') (ny : ∀ w, Calls Tryd.prog 10 #[.string y] w fun e w' => e = .returned (.tuple #[.string ty, .int .i64 gy]) ∧ Below w.heap.size w w') (nz : ∀ w, Calls Tryd.prog 10 #[.string z] w fun e w' => e = .returned (.tuple #[.string tz, .int .i64 gz]) ∧ Below w.heap.size w w') (h1 : x.size ≤ 160) (h2 : y.size ≤ 160) (h3 : z.size ≤ 160) (zx : gx = 0) (zy : gy = 12) : Calls Tryd.prog 5 #[.string x, .string y, .string z] w (Samed w true) := by
  subst zx
  subst zy
  have HB := Below.refl w.heap.size w
  have HH := Lib.hid (And.intro h1 h2); clear h1 h2
  have zz : decide ((160 : Int) < (z.size : Int)) = false := decide_eq_false (by omega)
  replace nx := Lib.hid nx
  replace ny := Lib.hid ny
  replace nz := Lib.hid nz
  go_enter Tryd.func5, Tryd.ntmps5
  go_wp2_with fail
  refine (rhead_any _).mono ?_
  rintro e w1 ⟨rfl, hb⟩
  replace HB := onto HB hb
  clear hb
  go_wp2_with fail
  refine (great_no _ HH.out.1 HH.out.2).mono ?_
  rintro e w2 ⟨rfl, hb⟩
  replace HB := onto HB hb
  clear hb
  go_wp2_with fail
  refine (nx.out _).mono ?_
  rintro e w3 ⟨rfl, hb⟩
  replace HB := onto HB hb
  clear hb
  go_wp2_with fail
  refine (ny.out _).mono ?_
  rintro e w4 ⟨rfl, hb⟩
  replace HB := onto HB hb
  clear hb
  go_wp2_with fail
  refine (nz.out _).mono ?_
  rintro e w5 ⟨rfl, hb⟩
  replace HB := onto HB hb
  clear hb
  go_wp2
  go_ret
  exact ⟨rfl, HB⟩

set_option maxRecDepth 100000 in
set_option maxHeartbeats 8000000 in
theorem rorder_bad1_21 {w : World} (x y z : ByteArray) (tx : ByteArray) (gx : Int) (ty : ByteArray) (gy : Int) (tz : ByteArray) (gz : Int) (nx : ∀ w, Calls Tryd.prog 10 #[.string x] w fun e w' => e = .returned (.tuple #[.string tx, .int .i64 gx]) ∧ Below w.heap.size w w') (ny : ∀ w, Calls Tryd.prog 10 #[.string y] w fun e w' => e = .returned (.tuple #[.string ty, .int .i64 gy]) ∧ Below w.heap.size w w') (nz : ∀ w, Calls Tryd.prog 10 #[.string z] w fun e w' => e = .returned (.tuple #[.string tz, .int .i64 gz]) ∧ Below w.heap.size w w') (h1 : x.size ≤ 160) (h2 : y.size ≤ 160) (h3 : z.size ≤ 160) (zx : gx = 0) (zy : gy = 21) : Calls Tryd.prog 5 #[.string x, .string y, .string z] w (Samed w true) := by
  subst zx
  subst zy
  have HB := Below.refl w.heap.size w
  have HH := Lib.hid (And.intro h1 h2); clear h1 h2
  have zz : decide ((160 : Int) < (z.size : Int)) = false := decide_eq_false (by omega)
  replace nx := Lib.hid nx
  replace ny := Lib.hid ny
  replace nz := Lib.hid nz
  go_enter Tryd.func5, Tryd.ntmps5
  go_wp2_with fail
  refine (rhead_any _).mono ?_
  rintro e w1 ⟨rfl, hb⟩
  replace HB := onto HB hb
  clear hb
  go_wp2_with fail
  refine (great_no _ HH.out.1 HH.out.2).mono ?_
  rintro e w2 ⟨rfl, hb⟩
  replace HB := onto HB hb
  clear hb
  go_wp2_with fail
  refine (nx.out _).mono ?_
  rintro e w3 ⟨rfl, hb⟩
  replace HB := onto HB hb
  clear hb
  go_wp2_with fail
  refine (ny.out _).mono ?_
  rintro e w4 ⟨rfl, hb⟩
  replace HB := onto HB hb
  clear hb
  go_wp2_with fail
  refine (nz.out _).mono ?_
  rintro e w5 ⟨rfl, hb⟩
  replace HB := onto HB hb
  clear hb
  go_wp2
  go_ret
  exact ⟨rfl, HB⟩

theorem rorder_bad1 {w : World} (x y z : ByteArray) (tx : ByteArray) (gx : Int) (ty : ByteArray) (gy : Int) (tz : ByteArray) (gz : Int) (nx : ∀ w, Calls Tryd.prog 10 #[.string x] w fun e w' => e = .returned (.tuple #[.string tx, .int .i64 gx]) ∧ Below w.heap.size w w') (ny : ∀ w, Calls Tryd.prog 10 #[.string y] w fun e w' => e = .returned (.tuple #[.string ty, .int .i64 gy]) ∧ Below w.heap.size w w') (nz : ∀ w, Calls Tryd.prog 10 #[.string z] w fun e w' => e = .returned (.tuple #[.string tz, .int .i64 gz]) ∧ Below w.heap.size w w') (h1 : x.size ≤ 160) (h2 : y.size ≤ 160) (h3 : z.size ≤ 160) (zx : gx = 0) (zy : gy = 12 ∨ gy = 21) : Calls Tryd.prog 5 #[.string x, .string y, .string z] w (Samed w true) := by
  rcases zy with zy | zy
  · exact rorder_bad1_12 x y z tx gx ty gy tz gz nx ny nz h1 h2 h3 zx zy
  · exact rorder_bad1_21 x y z tx gx ty gy tz gz nx ny nz h1 h2 h3 zx zy

set_option maxRecDepth 100000 in
set_option maxHeartbeats 8000000 in
theorem rorder_bad2_12 {w : World} (x y z : ByteArray) (tx : ByteArray) (gx : Int) (ty : ByteArray) (gy : Int) (tz : ByteArray) (gz : Int) (nx : ∀ w, Calls Tryd.prog 10 #[.string x] w fun e w' => e = .returned (.tuple #[.string tx, .int .i64 gx]) ∧ Below w.heap.size w w') (ny : ∀ w, Calls Tryd.prog 10 #[.string y] w fun e w' => e = .returned (.tuple #[.string ty, .int .i64 gy]) ∧ Below w.heap.size w w') (nz : ∀ w, Calls Tryd.prog 10 #[.string z] w fun e w' => e = .returned (.tuple #[.string tz, .int .i64 gz]) ∧ Below w.heap.size w w') (h1 : x.size ≤ 160) (h2 : y.size ≤ 160) (h3 : z.size ≤ 160) (zx : gx = 0) (zy : gy = 0) (zz : gz = 12) : Calls Tryd.prog 5 #[.string x, .string y, .string z] w (Samed w true) := by
  subst zx
  subst zy
  subst zz
  have HB := Below.refl w.heap.size w
  have HH := Lib.hid (And.intro h1 h2); clear h1 h2
  have zz : decide ((160 : Int) < (z.size : Int)) = false := decide_eq_false (by omega)
  replace nx := Lib.hid nx
  replace ny := Lib.hid ny
  replace nz := Lib.hid nz
  go_enter Tryd.func5, Tryd.ntmps5
  go_wp2_with fail
  refine (rhead_any _).mono ?_
  rintro e w1 ⟨rfl, hb⟩
  replace HB := onto HB hb
  clear hb
  go_wp2_with fail
  refine (great_no _ HH.out.1 HH.out.2).mono ?_
  rintro e w2 ⟨rfl, hb⟩
  replace HB := onto HB hb
  clear hb
  go_wp2_with fail
  refine (nx.out _).mono ?_
  rintro e w3 ⟨rfl, hb⟩
  replace HB := onto HB hb
  clear hb
  go_wp2_with fail
  refine (ny.out _).mono ?_
  rintro e w4 ⟨rfl, hb⟩
  replace HB := onto HB hb
  clear hb
  go_wp2_with fail
  refine (nz.out _).mono ?_
  rintro e w5 ⟨rfl, hb⟩
  replace HB := onto HB hb
  clear hb
  go_wp2
  go_ret
  exact ⟨rfl, HB⟩

set_option maxRecDepth 100000 in
set_option maxHeartbeats 8000000 in
theorem rorder_bad2_21 {w : World} (x y z : ByteArray) (tx : ByteArray) (gx : Int) (ty : ByteArray) (gy : Int) (tz : ByteArray) (gz : Int) (nx : ∀ w, Calls Tryd.prog 10 #[.string x] w fun e w' => e = .returned (.tuple #[.string tx, .int .i64 gx]) ∧ Below w.heap.size w w') (ny : ∀ w, Calls Tryd.prog 10 #[.string y] w fun e w' => e = .returned (.tuple #[.string ty, .int .i64 gy]) ∧ Below w.heap.size w w') (nz : ∀ w, Calls Tryd.prog 10 #[.string z] w fun e w' => e = .returned (.tuple #[.string tz, .int .i64 gz]) ∧ Below w.heap.size w w') (h1 : x.size ≤ 160) (h2 : y.size ≤ 160) (h3 : z.size ≤ 160) (zx : gx = 0) (zy : gy = 0) (zz : gz = 21) : Calls Tryd.prog 5 #[.string x, .string y, .string z] w (Samed w true) := by
  subst zx
  subst zy
  subst zz
  have HB := Below.refl w.heap.size w
  have HH := Lib.hid (And.intro h1 h2); clear h1 h2
  have zz : decide ((160 : Int) < (z.size : Int)) = false := decide_eq_false (by omega)
  replace nx := Lib.hid nx
  replace ny := Lib.hid ny
  replace nz := Lib.hid nz
  go_enter Tryd.func5, Tryd.ntmps5
  go_wp2_with fail
  refine (rhead_any _).mono ?_
  rintro e w1 ⟨rfl, hb⟩
  replace HB := onto HB hb
  clear hb
  go_wp2_with fail
  refine (great_no _ HH.out.1 HH.out.2).mono ?_
  rintro e w2 ⟨rfl, hb⟩
  replace HB := onto HB hb
  clear hb
  go_wp2_with fail
  refine (nx.out _).mono ?_
  rintro e w3 ⟨rfl, hb⟩
  replace HB := onto HB hb
  clear hb
  go_wp2_with fail
  refine (ny.out _).mono ?_
  rintro e w4 ⟨rfl, hb⟩
  replace HB := onto HB hb
  clear hb
  go_wp2_with fail
  refine (nz.out _).mono ?_
  rintro e w5 ⟨rfl, hb⟩
  replace HB := onto HB hb
  clear hb
  go_wp2
  go_ret
  exact ⟨rfl, HB⟩

theorem rorder_bad2 {w : World} (x y z : ByteArray) (tx : ByteArray) (gx : Int) (ty : ByteArray) (gy : Int) (tz : ByteArray) (gz : Int) (nx : ∀ w, Calls Tryd.prog 10 #[.string x] w fun e w' => e = .returned (.tuple #[.string tx, .int .i64 gx]) ∧ Below w.heap.size w w') (ny : ∀ w, Calls Tryd.prog 10 #[.string y] w fun e w' => e = .returned (.tuple #[.string ty, .int .i64 gy]) ∧ Below w.heap.size w w') (nz : ∀ w, Calls Tryd.prog 10 #[.string z] w fun e w' => e = .returned (.tuple #[.string tz, .int .i64 gz]) ∧ Below w.heap.size w w') (h1 : x.size ≤ 160) (h2 : y.size ≤ 160) (h3 : z.size ≤ 160) (zx : gx = 0) (zy : gy = 0) (zz : gz = 12 ∨ gz = 21) : Calls Tryd.prog 5 #[.string x, .string y, .string z] w (Samed w true) := by
  rcases zz with zz | zz
  · exact rorder_bad2_12 x y z tx gx ty gy tz gz nx ny nz h1 h2 h3 zx zy zz
  · exact rorder_bad2_21 x y z tx gx ty gy tz gz nx ny nz h1 h2 h3 zx zy zz

set_option maxRecDepth 100000 in
set_option maxHeartbeats 8000000 in
theorem rorder_mm_bc {w : World} (x y z : ByteArray) (p q r : Rat) (nx : ∀ w, Calls Tryd.prog 10 #[.string x] w fun e w' => e = .returned (.tuple #[.string (T p), .int .i64 0]) ∧ Below w.heap.size w w') (ny : ∀ w, Calls Tryd.prog 10 #[.string y] w fun e w' => e = .returned (.tuple #[.string (T q), .int .i64 0]) ∧ Below w.heap.size w w') (nz : ∀ w, Calls Tryd.prog 10 #[.string z] w fun e w' => e = .returned (.tuple #[.string (T r), .int .i64 0]) ∧ Below w.heap.size w w') (hp : Size p 160 160) (hq : Size q 160 160) (hr : Size r 160 160) (h1 : x.size ≤ 160) (h2 : y.size ≤ 160) (h3 : z.size ≤ 160) (k1 : cmpQ p q = -1) (ks : cmpQ r 0 = -1) (k2 : cmpQ q r = 1) : Calls Tryd.prog 5 #[.string x, .string y, .string z] w (Samed w true) := by
  have sp := hp
  have sq := hq
  have sr := hr
  have spr : Size (p + r) 321 320 := sp.add sr (by decide) (by decide) (by decide)
  have sqr : Size (q + r) 321 320 := sq.add sr (by decide) (by decide) (by decide)
  have smpr : Size (p * r) 320 320 := sp.mul sr (by decide) (by decide)
  have smqr : Size (q * r) 320 320 := sq.mul sr (by decide) (by decide)
  have gp := Lib.hid (sp.T (by decide) (by decide) (by decide))
  have gq := Lib.hid (sq.T (by decide) (by decide) (by decide))
  have gr := Lib.hid (sr.T (by decide) (by decide) (by decide))
  have gpr := Lib.hid (spr.T (by decide) (by decide) (by decide))
  have gqr := Lib.hid (sqr.T (by decide) (by decide) (by decide))
  have gmpr := Lib.hid (smpr.T (by decide) (by decide) (by decide))
  have gmqr := Lib.hid (smqr.T (by decide) (by decide) (by decide))
  clear sp sq sr spr sqr smpr smqr
  clear hp hq hr
  have K1 := Lib.hid k1; clear k1
  have KS := Lib.hid ks; clear ks
  have K2 := Lib.hid k2; clear k2
  have e0 := Lib.hid nought_worth
  have G0 := Lib.hid nought_good
  have HB := Below.refl w.heap.size w
  have HH := Lib.hid (And.intro h1 h2); clear h1 h2
  have zz : decide ((160 : Int) < (z.size : Int)) = false := decide_eq_false (by omega)
  replace nx := Lib.hid nx
  replace ny := Lib.hid ny
  replace nz := Lib.hid nz
  go_enter Tryd.func5, Tryd.ntmps5
  go_wp2_with fail
  refine (rhead_any _).mono ?_
  rintro e w1 ⟨rfl, hb⟩
  replace HB := onto HB hb
  clear hb
  go_wp2_with fail
  refine (great_no _ HH.out.1 HH.out.2).mono ?_
  rintro e w2 ⟨rfl, hb⟩
  replace HB := onto HB hb
  clear hb
  go_wp2_with fail
  refine (nx.out _).mono ?_
  rintro e w3 ⟨rfl, hb⟩
  replace HB := onto HB hb
  clear hb
  go_wp2_with fail
  refine (ny.out _).mono ?_
  rintro e w4 ⟨rfl, hb⟩
  replace HB := onto HB hb
  clear hb
  go_wp2_with fail
  refine (nz.out _).mono ?_
  rintro e w5 ⟨rfl, hb⟩
  replace HB := onto HB hb
  clear hb
  go_wp2_with fail
  refine (cmp_to (a := T p) (b := T q) (c := -1) _ gp.out gq.out (by rw [T_worth, T_worth]; exact K1.out)).mono ?_
  rintro e w6 ⟨rfl, hb⟩
  replace HB := onto HB hb
  clear hb
  go_wp2_with fail
  refine (cmp_to (a := T r) (b := ⟨#[48]⟩) (c := -1) _ gr.out G0.out (by rw [T_worth, show worth (by0 ⟨#[48]⟩) = 0 from e0.out]; exact KS.out)).mono ?_
  rintro e w7 ⟨rfl, hb⟩
  replace HB := onto HB hb
  clear hb
  go_wp2_with fail
  refine (cmp_to (a := T q) (b := T p) (c := 1) _ gq.out gp.out (by rw [T_worth, T_worth, cmp_swap, K1.out] <;> rfl)).mono ?_
  rintro e w8 ⟨rfl, hb⟩
  replace HB := onto HB hb
  clear hb
  go_wp2_with fail
  refine (cmp_to (a := T q) (b := T r) (c := 1) _ gq.out gr.out (by rw [T_worth, T_worth]; exact K2.out)).mono ?_
  rintro e w9 ⟨rfl, hb⟩
  replace HB := onto HB hb
  clear hb
  go_wp2_with fail
  refine (plus_to (a := T p) (b := T r) (u := T (p + r)) _ gp.out gr.out gpr.out (by simp only [T_worth] <;> grind)).mono ?_
  rintro e w10 ⟨rfl, hb⟩
  replace HB := onto HB hb
  clear hb
  go_wp2_with fail
  refine (plus_to (a := T q) (b := T r) (u := T (q + r)) _ gq.out gr.out gqr.out (by simp only [T_worth] <;> grind)).mono ?_
  rintro e w11 ⟨rfl, hb⟩
  replace HB := onto HB hb
  clear hb
  go_wp2_with fail
  refine (cmp_to (a := T (p + r)) (b := T (q + r)) (c := -1) _ gpr.out gqr.out (by rw [T_worth, T_worth, cmp_add]; exact K1.out)).mono ?_
  rintro e w12 ⟨rfl, hb⟩
  replace HB := onto HB hb
  clear hb
  go_wp2_with fail
  refine (times_to (a := T p) (b := T r) (u := T (p * r)) _ gp.out gr.out gmpr.out (by simp only [T_worth] <;> grind)).mono ?_
  rintro e w13 ⟨rfl, hb⟩
  replace HB := onto HB hb
  clear hb
  go_wp2_with fail
  refine (times_to (a := T q) (b := T r) (u := T (q * r)) _ gq.out gr.out gmqr.out (by simp only [T_worth] <;> grind)).mono ?_
  rintro e w14 ⟨rfl, hb⟩
  replace HB := onto HB hb
  clear hb
  go_wp2_with fail
  refine (cmp_to (a := T (p * r)) (b := T (q * r)) (c := 1) _ gmpr.out gmqr.out (by rw [T_worth, T_worth, cmp_mul, K1.out, KS.out]; rfl)).mono ?_
  rintro e w15 ⟨rfl, hb⟩
  replace HB := onto HB hb
  clear hb
  go_wp2
  go_ret
  exact ⟨rfl, HB⟩

set_option maxRecDepth 100000 in
set_option maxHeartbeats 8000000 in
theorem rorder_mm_ac {w : World} (x y z : ByteArray) (p q r : Rat) (nx : ∀ w, Calls Tryd.prog 10 #[.string x] w fun e w' => e = .returned (.tuple #[.string (T p), .int .i64 0]) ∧ Below w.heap.size w w') (ny : ∀ w, Calls Tryd.prog 10 #[.string y] w fun e w' => e = .returned (.tuple #[.string (T q), .int .i64 0]) ∧ Below w.heap.size w w') (nz : ∀ w, Calls Tryd.prog 10 #[.string z] w fun e w' => e = .returned (.tuple #[.string (T r), .int .i64 0]) ∧ Below w.heap.size w w') (hp : Size p 160 160) (hq : Size q 160 160) (hr : Size r 160 160) (h1 : x.size ≤ 160) (h2 : y.size ≤ 160) (h3 : z.size ≤ 160) (k1 : cmpQ p q = -1) (ks : cmpQ r 0 = -1) (c2 c3 : Int) (k2 : cmpQ q r = c2) (k3 : cmpQ p r = c3) (z2 : decide ((0 : Int) < c2) = false) (z3 : decide (c3 ≤ 0) = true) : Calls Tryd.prog 5 #[.string x, .string y, .string z] w (Samed w true) := by
  have sp := hp
  have sq := hq
  have sr := hr
  have spr : Size (p + r) 321 320 := sp.add sr (by decide) (by decide) (by decide)
  have sqr : Size (q + r) 321 320 := sq.add sr (by decide) (by decide) (by decide)
  have smpr : Size (p * r) 320 320 := sp.mul sr (by decide) (by decide)
  have smqr : Size (q * r) 320 320 := sq.mul sr (by decide) (by decide)
  have gp := Lib.hid (sp.T (by decide) (by decide) (by decide))
  have gq := Lib.hid (sq.T (by decide) (by decide) (by decide))
  have gr := Lib.hid (sr.T (by decide) (by decide) (by decide))
  have gpr := Lib.hid (spr.T (by decide) (by decide) (by decide))
  have gqr := Lib.hid (sqr.T (by decide) (by decide) (by decide))
  have gmpr := Lib.hid (smpr.T (by decide) (by decide) (by decide))
  have gmqr := Lib.hid (smqr.T (by decide) (by decide) (by decide))
  clear sp sq sr spr sqr smpr smqr
  clear hp hq hr
  have K1 := Lib.hid k1; clear k1
  have KS := Lib.hid ks; clear ks
  have K2 := Lib.hid k2; clear k2
  have K3 := Lib.hid k3; clear k3
  have e0 := Lib.hid nought_worth
  have G0 := Lib.hid nought_good
  have HB := Below.refl w.heap.size w
  have HH := Lib.hid (And.intro h1 h2); clear h1 h2
  have zz : decide ((160 : Int) < (z.size : Int)) = false := decide_eq_false (by omega)
  replace nx := Lib.hid nx
  replace ny := Lib.hid ny
  replace nz := Lib.hid nz
  go_enter Tryd.func5, Tryd.ntmps5
  go_wp2_with fail
  refine (rhead_any _).mono ?_
  rintro e w1 ⟨rfl, hb⟩
  replace HB := onto HB hb
  clear hb
  go_wp2_with fail
  refine (great_no _ HH.out.1 HH.out.2).mono ?_
  rintro e w2 ⟨rfl, hb⟩
  replace HB := onto HB hb
  clear hb
  go_wp2_with fail
  refine (nx.out _).mono ?_
  rintro e w3 ⟨rfl, hb⟩
  replace HB := onto HB hb
  clear hb
  go_wp2_with fail
  refine (ny.out _).mono ?_
  rintro e w4 ⟨rfl, hb⟩
  replace HB := onto HB hb
  clear hb
  go_wp2_with fail
  refine (nz.out _).mono ?_
  rintro e w5 ⟨rfl, hb⟩
  replace HB := onto HB hb
  clear hb
  go_wp2_with fail
  refine (cmp_to (a := T p) (b := T q) (c := -1) _ gp.out gq.out (by rw [T_worth, T_worth]; exact K1.out)).mono ?_
  rintro e w6 ⟨rfl, hb⟩
  replace HB := onto HB hb
  clear hb
  go_wp2_with fail
  refine (cmp_to (a := T r) (b := ⟨#[48]⟩) (c := -1) _ gr.out G0.out (by rw [T_worth, show worth (by0 ⟨#[48]⟩) = 0 from e0.out]; exact KS.out)).mono ?_
  rintro e w7 ⟨rfl, hb⟩
  replace HB := onto HB hb
  clear hb
  go_wp2_with fail
  refine (cmp_to (a := T q) (b := T p) (c := 1) _ gq.out gp.out (by rw [T_worth, T_worth, cmp_swap, K1.out] <;> rfl)).mono ?_
  rintro e w8 ⟨rfl, hb⟩
  replace HB := onto HB hb
  clear hb
  go_wp2_with fail
  refine (cmp_to (a := T q) (b := T r) (c := c2) _ gq.out gr.out (by rw [T_worth, T_worth]; exact K2.out)).mono ?_
  rintro e w9 ⟨rfl, hb⟩
  replace HB := onto HB hb
  clear hb
  go_wp2_with fail
  refine (cmp_to (a := T p) (b := T r) (c := c3) _ gp.out gr.out (by rw [T_worth, T_worth]; exact K3.out)).mono ?_
  rintro e w10 ⟨rfl, hb⟩
  replace HB := onto HB hb
  clear hb
  go_wp2_with fail
  refine (plus_to (a := T p) (b := T r) (u := T (p + r)) _ gp.out gr.out gpr.out (by simp only [T_worth] <;> grind)).mono ?_
  rintro e w11 ⟨rfl, hb⟩
  replace HB := onto HB hb
  clear hb
  go_wp2_with fail
  refine (plus_to (a := T q) (b := T r) (u := T (q + r)) _ gq.out gr.out gqr.out (by simp only [T_worth] <;> grind)).mono ?_
  rintro e w12 ⟨rfl, hb⟩
  replace HB := onto HB hb
  clear hb
  go_wp2_with fail
  refine (cmp_to (a := T (p + r)) (b := T (q + r)) (c := -1) _ gpr.out gqr.out (by rw [T_worth, T_worth, cmp_add]; exact K1.out)).mono ?_
  rintro e w13 ⟨rfl, hb⟩
  replace HB := onto HB hb
  clear hb
  go_wp2_with fail
  refine (times_to (a := T p) (b := T r) (u := T (p * r)) _ gp.out gr.out gmpr.out (by simp only [T_worth] <;> grind)).mono ?_
  rintro e w14 ⟨rfl, hb⟩
  replace HB := onto HB hb
  clear hb
  go_wp2_with fail
  refine (times_to (a := T q) (b := T r) (u := T (q * r)) _ gq.out gr.out gmqr.out (by simp only [T_worth] <;> grind)).mono ?_
  rintro e w15 ⟨rfl, hb⟩
  replace HB := onto HB hb
  clear hb
  go_wp2_with fail
  refine (cmp_to (a := T (p * r)) (b := T (q * r)) (c := 1) _ gmpr.out gmqr.out (by rw [T_worth, T_worth, cmp_mul, K1.out, KS.out]; rfl)).mono ?_
  rintro e w16 ⟨rfl, hb⟩
  replace HB := onto HB hb
  clear hb
  go_wp2
  go_ret
  exact ⟨rfl, HB⟩

set_option maxRecDepth 100000 in
set_option maxHeartbeats 8000000 in
theorem rorder_mz_bc {w : World} (x y z : ByteArray) (p q r : Rat) (nx : ∀ w, Calls Tryd.prog 10 #[.string x] w fun e w' => e = .returned (.tuple #[.string (T p), .int .i64 0]) ∧ Below w.heap.size w w') (ny : ∀ w, Calls Tryd.prog 10 #[.string y] w fun e w' => e = .returned (.tuple #[.string (T q), .int .i64 0]) ∧ Below w.heap.size w w') (nz : ∀ w, Calls Tryd.prog 10 #[.string z] w fun e w' => e = .returned (.tuple #[.string (T r), .int .i64 0]) ∧ Below w.heap.size w w') (hp : Size p 160 160) (hq : Size q 160 160) (hr : Size r 160 160) (h1 : x.size ≤ 160) (h2 : y.size ≤ 160) (h3 : z.size ≤ 160) (k1 : cmpQ p q = -1) (ks : cmpQ r 0 = 0) (k2 : cmpQ q r = 1) : Calls Tryd.prog 5 #[.string x, .string y, .string z] w (Samed w true) := by
  have sp := hp
  have sq := hq
  have sr := hr
  have spr : Size (p + r) 321 320 := sp.add sr (by decide) (by decide) (by decide)
  have sqr : Size (q + r) 321 320 := sq.add sr (by decide) (by decide) (by decide)
  have smpr : Size (p * r) 320 320 := sp.mul sr (by decide) (by decide)
  have smqr : Size (q * r) 320 320 := sq.mul sr (by decide) (by decide)
  have gp := Lib.hid (sp.T (by decide) (by decide) (by decide))
  have gq := Lib.hid (sq.T (by decide) (by decide) (by decide))
  have gr := Lib.hid (sr.T (by decide) (by decide) (by decide))
  have gpr := Lib.hid (spr.T (by decide) (by decide) (by decide))
  have gqr := Lib.hid (sqr.T (by decide) (by decide) (by decide))
  have gmpr := Lib.hid (smpr.T (by decide) (by decide) (by decide))
  have gmqr := Lib.hid (smqr.T (by decide) (by decide) (by decide))
  clear sp sq sr spr sqr smpr smqr
  clear hp hq hr
  have K1 := Lib.hid k1; clear k1
  have KS := Lib.hid ks; clear ks
  have K2 := Lib.hid k2; clear k2
  have e0 := Lib.hid nought_worth
  have G0 := Lib.hid nought_good
  have HB := Below.refl w.heap.size w
  have HH := Lib.hid (And.intro h1 h2); clear h1 h2
  have zz : decide ((160 : Int) < (z.size : Int)) = false := decide_eq_false (by omega)
  replace nx := Lib.hid nx
  replace ny := Lib.hid ny
  replace nz := Lib.hid nz
  go_enter Tryd.func5, Tryd.ntmps5
  go_wp2_with fail
  refine (rhead_any _).mono ?_
  rintro e w1 ⟨rfl, hb⟩
  replace HB := onto HB hb
  clear hb
  go_wp2_with fail
  refine (great_no _ HH.out.1 HH.out.2).mono ?_
  rintro e w2 ⟨rfl, hb⟩
  replace HB := onto HB hb
  clear hb
  go_wp2_with fail
  refine (nx.out _).mono ?_
  rintro e w3 ⟨rfl, hb⟩
  replace HB := onto HB hb
  clear hb
  go_wp2_with fail
  refine (ny.out _).mono ?_
  rintro e w4 ⟨rfl, hb⟩
  replace HB := onto HB hb
  clear hb
  go_wp2_with fail
  refine (nz.out _).mono ?_
  rintro e w5 ⟨rfl, hb⟩
  replace HB := onto HB hb
  clear hb
  go_wp2_with fail
  refine (cmp_to (a := T p) (b := T q) (c := -1) _ gp.out gq.out (by rw [T_worth, T_worth]; exact K1.out)).mono ?_
  rintro e w6 ⟨rfl, hb⟩
  replace HB := onto HB hb
  clear hb
  go_wp2_with fail
  refine (cmp_to (a := T r) (b := ⟨#[48]⟩) (c := 0) _ gr.out G0.out (by rw [T_worth, show worth (by0 ⟨#[48]⟩) = 0 from e0.out]; exact KS.out)).mono ?_
  rintro e w7 ⟨rfl, hb⟩
  replace HB := onto HB hb
  clear hb
  go_wp2_with fail
  refine (cmp_to (a := T q) (b := T p) (c := 1) _ gq.out gp.out (by rw [T_worth, T_worth, cmp_swap, K1.out] <;> rfl)).mono ?_
  rintro e w8 ⟨rfl, hb⟩
  replace HB := onto HB hb
  clear hb
  go_wp2_with fail
  refine (cmp_to (a := T q) (b := T r) (c := 1) _ gq.out gr.out (by rw [T_worth, T_worth]; exact K2.out)).mono ?_
  rintro e w9 ⟨rfl, hb⟩
  replace HB := onto HB hb
  clear hb
  go_wp2_with fail
  refine (plus_to (a := T p) (b := T r) (u := T (p + r)) _ gp.out gr.out gpr.out (by simp only [T_worth] <;> grind)).mono ?_
  rintro e w10 ⟨rfl, hb⟩
  replace HB := onto HB hb
  clear hb
  go_wp2_with fail
  refine (plus_to (a := T q) (b := T r) (u := T (q + r)) _ gq.out gr.out gqr.out (by simp only [T_worth] <;> grind)).mono ?_
  rintro e w11 ⟨rfl, hb⟩
  replace HB := onto HB hb
  clear hb
  go_wp2_with fail
  refine (cmp_to (a := T (p + r)) (b := T (q + r)) (c := -1) _ gpr.out gqr.out (by rw [T_worth, T_worth, cmp_add]; exact K1.out)).mono ?_
  rintro e w12 ⟨rfl, hb⟩
  replace HB := onto HB hb
  clear hb
  go_wp2_with fail
  refine (times_to (a := T p) (b := T r) (u := T (p * r)) _ gp.out gr.out gmpr.out (by simp only [T_worth] <;> grind)).mono ?_
  rintro e w13 ⟨rfl, hb⟩
  replace HB := onto HB hb
  clear hb
  go_wp2_with fail
  refine (times_to (a := T q) (b := T r) (u := T (q * r)) _ gq.out gr.out gmqr.out (by simp only [T_worth] <;> grind)).mono ?_
  rintro e w14 ⟨rfl, hb⟩
  replace HB := onto HB hb
  clear hb
  go_wp2_with fail
  refine (cmp_to (a := T (p * r)) (b := T (q * r)) (c := 0) _ gmpr.out gmqr.out (by rw [T_worth, T_worth, cmp_mul, K1.out, KS.out]; rfl)).mono ?_
  rintro e w15 ⟨rfl, hb⟩
  replace HB := onto HB hb
  clear hb
  go_wp2
  go_ret
  exact ⟨rfl, HB⟩

set_option maxRecDepth 100000 in
set_option maxHeartbeats 8000000 in
theorem rorder_mz_ac {w : World} (x y z : ByteArray) (p q r : Rat) (nx : ∀ w, Calls Tryd.prog 10 #[.string x] w fun e w' => e = .returned (.tuple #[.string (T p), .int .i64 0]) ∧ Below w.heap.size w w') (ny : ∀ w, Calls Tryd.prog 10 #[.string y] w fun e w' => e = .returned (.tuple #[.string (T q), .int .i64 0]) ∧ Below w.heap.size w w') (nz : ∀ w, Calls Tryd.prog 10 #[.string z] w fun e w' => e = .returned (.tuple #[.string (T r), .int .i64 0]) ∧ Below w.heap.size w w') (hp : Size p 160 160) (hq : Size q 160 160) (hr : Size r 160 160) (h1 : x.size ≤ 160) (h2 : y.size ≤ 160) (h3 : z.size ≤ 160) (k1 : cmpQ p q = -1) (ks : cmpQ r 0 = 0) (c2 c3 : Int) (k2 : cmpQ q r = c2) (k3 : cmpQ p r = c3) (z2 : decide ((0 : Int) < c2) = false) (z3 : decide (c3 ≤ 0) = true) : Calls Tryd.prog 5 #[.string x, .string y, .string z] w (Samed w true) := by
  have sp := hp
  have sq := hq
  have sr := hr
  have spr : Size (p + r) 321 320 := sp.add sr (by decide) (by decide) (by decide)
  have sqr : Size (q + r) 321 320 := sq.add sr (by decide) (by decide) (by decide)
  have smpr : Size (p * r) 320 320 := sp.mul sr (by decide) (by decide)
  have smqr : Size (q * r) 320 320 := sq.mul sr (by decide) (by decide)
  have gp := Lib.hid (sp.T (by decide) (by decide) (by decide))
  have gq := Lib.hid (sq.T (by decide) (by decide) (by decide))
  have gr := Lib.hid (sr.T (by decide) (by decide) (by decide))
  have gpr := Lib.hid (spr.T (by decide) (by decide) (by decide))
  have gqr := Lib.hid (sqr.T (by decide) (by decide) (by decide))
  have gmpr := Lib.hid (smpr.T (by decide) (by decide) (by decide))
  have gmqr := Lib.hid (smqr.T (by decide) (by decide) (by decide))
  clear sp sq sr spr sqr smpr smqr
  clear hp hq hr
  have K1 := Lib.hid k1; clear k1
  have KS := Lib.hid ks; clear ks
  have K2 := Lib.hid k2; clear k2
  have K3 := Lib.hid k3; clear k3
  have e0 := Lib.hid nought_worth
  have G0 := Lib.hid nought_good
  have HB := Below.refl w.heap.size w
  have HH := Lib.hid (And.intro h1 h2); clear h1 h2
  have zz : decide ((160 : Int) < (z.size : Int)) = false := decide_eq_false (by omega)
  replace nx := Lib.hid nx
  replace ny := Lib.hid ny
  replace nz := Lib.hid nz
  go_enter Tryd.func5, Tryd.ntmps5
  go_wp2_with fail
  refine (rhead_any _).mono ?_
  rintro e w1 ⟨rfl, hb⟩
  replace HB := onto HB hb
  clear hb
  go_wp2_with fail
  refine (great_no _ HH.out.1 HH.out.2).mono ?_
  rintro e w2 ⟨rfl, hb⟩
  replace HB := onto HB hb
  clear hb
  go_wp2_with fail
  refine (nx.out _).mono ?_
  rintro e w3 ⟨rfl, hb⟩
  replace HB := onto HB hb
  clear hb
  go_wp2_with fail
  refine (ny.out _).mono ?_
  rintro e w4 ⟨rfl, hb⟩
  replace HB := onto HB hb
  clear hb
  go_wp2_with fail
  refine (nz.out _).mono ?_
  rintro e w5 ⟨rfl, hb⟩
  replace HB := onto HB hb
  clear hb
  go_wp2_with fail
  refine (cmp_to (a := T p) (b := T q) (c := -1) _ gp.out gq.out (by rw [T_worth, T_worth]; exact K1.out)).mono ?_
  rintro e w6 ⟨rfl, hb⟩
  replace HB := onto HB hb
  clear hb
  go_wp2_with fail
  refine (cmp_to (a := T r) (b := ⟨#[48]⟩) (c := 0) _ gr.out G0.out (by rw [T_worth, show worth (by0 ⟨#[48]⟩) = 0 from e0.out]; exact KS.out)).mono ?_
  rintro e w7 ⟨rfl, hb⟩
  replace HB := onto HB hb
  clear hb
  go_wp2_with fail
  refine (cmp_to (a := T q) (b := T p) (c := 1) _ gq.out gp.out (by rw [T_worth, T_worth, cmp_swap, K1.out] <;> rfl)).mono ?_
  rintro e w8 ⟨rfl, hb⟩
  replace HB := onto HB hb
  clear hb
  go_wp2_with fail
  refine (cmp_to (a := T q) (b := T r) (c := c2) _ gq.out gr.out (by rw [T_worth, T_worth]; exact K2.out)).mono ?_
  rintro e w9 ⟨rfl, hb⟩
  replace HB := onto HB hb
  clear hb
  go_wp2_with fail
  refine (cmp_to (a := T p) (b := T r) (c := c3) _ gp.out gr.out (by rw [T_worth, T_worth]; exact K3.out)).mono ?_
  rintro e w10 ⟨rfl, hb⟩
  replace HB := onto HB hb
  clear hb
  go_wp2_with fail
  refine (plus_to (a := T p) (b := T r) (u := T (p + r)) _ gp.out gr.out gpr.out (by simp only [T_worth] <;> grind)).mono ?_
  rintro e w11 ⟨rfl, hb⟩
  replace HB := onto HB hb
  clear hb
  go_wp2_with fail
  refine (plus_to (a := T q) (b := T r) (u := T (q + r)) _ gq.out gr.out gqr.out (by simp only [T_worth] <;> grind)).mono ?_
  rintro e w12 ⟨rfl, hb⟩
  replace HB := onto HB hb
  clear hb
  go_wp2_with fail
  refine (cmp_to (a := T (p + r)) (b := T (q + r)) (c := -1) _ gpr.out gqr.out (by rw [T_worth, T_worth, cmp_add]; exact K1.out)).mono ?_
  rintro e w13 ⟨rfl, hb⟩
  replace HB := onto HB hb
  clear hb
  go_wp2_with fail
  refine (times_to (a := T p) (b := T r) (u := T (p * r)) _ gp.out gr.out gmpr.out (by simp only [T_worth] <;> grind)).mono ?_
  rintro e w14 ⟨rfl, hb⟩
  replace HB := onto HB hb
  clear hb
  go_wp2_with fail
  refine (times_to (a := T q) (b := T r) (u := T (q * r)) _ gq.out gr.out gmqr.out (by simp only [T_worth] <;> grind)).mono ?_
  rintro e w15 ⟨rfl, hb⟩
  replace HB := onto HB hb
  clear hb
  go_wp2_with fail
  refine (cmp_to (a := T (p * r)) (b := T (q * r)) (c := 0) _ gmpr.out gmqr.out (by rw [T_worth, T_worth, cmp_mul, K1.out, KS.out]; rfl)).mono ?_
  rintro e w16 ⟨rfl, hb⟩
  replace HB := onto HB hb
  clear hb
  go_wp2
  go_ret
  exact ⟨rfl, HB⟩

set_option maxRecDepth 100000 in
set_option maxHeartbeats 8000000 in
theorem rorder_mp_bc {w : World} (x y z : ByteArray) (p q r : Rat) (nx : ∀ w, Calls Tryd.prog 10 #[.string x] w fun e w' => e = .returned (.tuple #[.string (T p), .int .i64 0]) ∧ Below w.heap.size w w') (ny : ∀ w, Calls Tryd.prog 10 #[.string y] w fun e w' => e = .returned (.tuple #[.string (T q), .int .i64 0]) ∧ Below w.heap.size w w') (nz : ∀ w, Calls Tryd.prog 10 #[.string z] w fun e w' => e = .returned (.tuple #[.string (T r), .int .i64 0]) ∧ Below w.heap.size w w') (hp : Size p 160 160) (hq : Size q 160 160) (hr : Size r 160 160) (h1 : x.size ≤ 160) (h2 : y.size ≤ 160) (h3 : z.size ≤ 160) (k1 : cmpQ p q = -1) (ks : cmpQ r 0 = 1) (k2 : cmpQ q r = 1) : Calls Tryd.prog 5 #[.string x, .string y, .string z] w (Samed w true) := by
  have sp := hp
  have sq := hq
  have sr := hr
  have spr : Size (p + r) 321 320 := sp.add sr (by decide) (by decide) (by decide)
  have sqr : Size (q + r) 321 320 := sq.add sr (by decide) (by decide) (by decide)
  have smpr : Size (p * r) 320 320 := sp.mul sr (by decide) (by decide)
  have smqr : Size (q * r) 320 320 := sq.mul sr (by decide) (by decide)
  have gp := Lib.hid (sp.T (by decide) (by decide) (by decide))
  have gq := Lib.hid (sq.T (by decide) (by decide) (by decide))
  have gr := Lib.hid (sr.T (by decide) (by decide) (by decide))
  have gpr := Lib.hid (spr.T (by decide) (by decide) (by decide))
  have gqr := Lib.hid (sqr.T (by decide) (by decide) (by decide))
  have gmpr := Lib.hid (smpr.T (by decide) (by decide) (by decide))
  have gmqr := Lib.hid (smqr.T (by decide) (by decide) (by decide))
  clear sp sq sr spr sqr smpr smqr
  clear hp hq hr
  have K1 := Lib.hid k1; clear k1
  have KS := Lib.hid ks; clear ks
  have K2 := Lib.hid k2; clear k2
  have e0 := Lib.hid nought_worth
  have G0 := Lib.hid nought_good
  have HB := Below.refl w.heap.size w
  have HH := Lib.hid (And.intro h1 h2); clear h1 h2
  have zz : decide ((160 : Int) < (z.size : Int)) = false := decide_eq_false (by omega)
  replace nx := Lib.hid nx
  replace ny := Lib.hid ny
  replace nz := Lib.hid nz
  go_enter Tryd.func5, Tryd.ntmps5
  go_wp2_with fail
  refine (rhead_any _).mono ?_
  rintro e w1 ⟨rfl, hb⟩
  replace HB := onto HB hb
  clear hb
  go_wp2_with fail
  refine (great_no _ HH.out.1 HH.out.2).mono ?_
  rintro e w2 ⟨rfl, hb⟩
  replace HB := onto HB hb
  clear hb
  go_wp2_with fail
  refine (nx.out _).mono ?_
  rintro e w3 ⟨rfl, hb⟩
  replace HB := onto HB hb
  clear hb
  go_wp2_with fail
  refine (ny.out _).mono ?_
  rintro e w4 ⟨rfl, hb⟩
  replace HB := onto HB hb
  clear hb
  go_wp2_with fail
  refine (nz.out _).mono ?_
  rintro e w5 ⟨rfl, hb⟩
  replace HB := onto HB hb
  clear hb
  go_wp2_with fail
  refine (cmp_to (a := T p) (b := T q) (c := -1) _ gp.out gq.out (by rw [T_worth, T_worth]; exact K1.out)).mono ?_
  rintro e w6 ⟨rfl, hb⟩
  replace HB := onto HB hb
  clear hb
  go_wp2_with fail
  refine (cmp_to (a := T r) (b := ⟨#[48]⟩) (c := 1) _ gr.out G0.out (by rw [T_worth, show worth (by0 ⟨#[48]⟩) = 0 from e0.out]; exact KS.out)).mono ?_
  rintro e w7 ⟨rfl, hb⟩
  replace HB := onto HB hb
  clear hb
  go_wp2_with fail
  refine (cmp_to (a := T q) (b := T p) (c := 1) _ gq.out gp.out (by rw [T_worth, T_worth, cmp_swap, K1.out] <;> rfl)).mono ?_
  rintro e w8 ⟨rfl, hb⟩
  replace HB := onto HB hb
  clear hb
  go_wp2_with fail
  refine (cmp_to (a := T q) (b := T r) (c := 1) _ gq.out gr.out (by rw [T_worth, T_worth]; exact K2.out)).mono ?_
  rintro e w9 ⟨rfl, hb⟩
  replace HB := onto HB hb
  clear hb
  go_wp2_with fail
  refine (plus_to (a := T p) (b := T r) (u := T (p + r)) _ gp.out gr.out gpr.out (by simp only [T_worth] <;> grind)).mono ?_
  rintro e w10 ⟨rfl, hb⟩
  replace HB := onto HB hb
  clear hb
  go_wp2_with fail
  refine (plus_to (a := T q) (b := T r) (u := T (q + r)) _ gq.out gr.out gqr.out (by simp only [T_worth] <;> grind)).mono ?_
  rintro e w11 ⟨rfl, hb⟩
  replace HB := onto HB hb
  clear hb
  go_wp2_with fail
  refine (cmp_to (a := T (p + r)) (b := T (q + r)) (c := -1) _ gpr.out gqr.out (by rw [T_worth, T_worth, cmp_add]; exact K1.out)).mono ?_
  rintro e w12 ⟨rfl, hb⟩
  replace HB := onto HB hb
  clear hb
  go_wp2_with fail
  refine (times_to (a := T p) (b := T r) (u := T (p * r)) _ gp.out gr.out gmpr.out (by simp only [T_worth] <;> grind)).mono ?_
  rintro e w13 ⟨rfl, hb⟩
  replace HB := onto HB hb
  clear hb
  go_wp2_with fail
  refine (times_to (a := T q) (b := T r) (u := T (q * r)) _ gq.out gr.out gmqr.out (by simp only [T_worth] <;> grind)).mono ?_
  rintro e w14 ⟨rfl, hb⟩
  replace HB := onto HB hb
  clear hb
  go_wp2_with fail
  refine (cmp_to (a := T (p * r)) (b := T (q * r)) (c := -1) _ gmpr.out gmqr.out (by rw [T_worth, T_worth, cmp_mul, K1.out, KS.out]; rfl)).mono ?_
  rintro e w15 ⟨rfl, hb⟩
  replace HB := onto HB hb
  clear hb
  go_wp2
  go_ret
  exact ⟨rfl, HB⟩

set_option maxRecDepth 100000 in
set_option maxHeartbeats 8000000 in
theorem rorder_mp_ac {w : World} (x y z : ByteArray) (p q r : Rat) (nx : ∀ w, Calls Tryd.prog 10 #[.string x] w fun e w' => e = .returned (.tuple #[.string (T p), .int .i64 0]) ∧ Below w.heap.size w w') (ny : ∀ w, Calls Tryd.prog 10 #[.string y] w fun e w' => e = .returned (.tuple #[.string (T q), .int .i64 0]) ∧ Below w.heap.size w w') (nz : ∀ w, Calls Tryd.prog 10 #[.string z] w fun e w' => e = .returned (.tuple #[.string (T r), .int .i64 0]) ∧ Below w.heap.size w w') (hp : Size p 160 160) (hq : Size q 160 160) (hr : Size r 160 160) (h1 : x.size ≤ 160) (h2 : y.size ≤ 160) (h3 : z.size ≤ 160) (k1 : cmpQ p q = -1) (ks : cmpQ r 0 = 1) (c2 c3 : Int) (k2 : cmpQ q r = c2) (k3 : cmpQ p r = c3) (z2 : decide ((0 : Int) < c2) = false) (z3 : decide (c3 ≤ 0) = true) : Calls Tryd.prog 5 #[.string x, .string y, .string z] w (Samed w true) := by
  have sp := hp
  have sq := hq
  have sr := hr
  have spr : Size (p + r) 321 320 := sp.add sr (by decide) (by decide) (by decide)
  have sqr : Size (q + r) 321 320 := sq.add sr (by decide) (by decide) (by decide)
  have smpr : Size (p * r) 320 320 := sp.mul sr (by decide) (by decide)
  have smqr : Size (q * r) 320 320 := sq.mul sr (by decide) (by decide)
  have gp := Lib.hid (sp.T (by decide) (by decide) (by decide))
  have gq := Lib.hid (sq.T (by decide) (by decide) (by decide))
  have gr := Lib.hid (sr.T (by decide) (by decide) (by decide))
  have gpr := Lib.hid (spr.T (by decide) (by decide) (by decide))
  have gqr := Lib.hid (sqr.T (by decide) (by decide) (by decide))
  have gmpr := Lib.hid (smpr.T (by decide) (by decide) (by decide))
  have gmqr := Lib.hid (smqr.T (by decide) (by decide) (by decide))
  clear sp sq sr spr sqr smpr smqr
  clear hp hq hr
  have K1 := Lib.hid k1; clear k1
  have KS := Lib.hid ks; clear ks
  have K2 := Lib.hid k2; clear k2
  have K3 := Lib.hid k3; clear k3
  have e0 := Lib.hid nought_worth
  have G0 := Lib.hid nought_good
  have HB := Below.refl w.heap.size w
  have HH := Lib.hid (And.intro h1 h2); clear h1 h2
  have zz : decide ((160 : Int) < (z.size : Int)) = false := decide_eq_false (by omega)
  replace nx := Lib.hid nx
  replace ny := Lib.hid ny
  replace nz := Lib.hid nz
  go_enter Tryd.func5, Tryd.ntmps5
  go_wp2_with fail
  refine (rhead_any _).mono ?_
  rintro e w1 ⟨rfl, hb⟩
  replace HB := onto HB hb
  clear hb
  go_wp2_with fail
  refine (great_no _ HH.out.1 HH.out.2).mono ?_
  rintro e w2 ⟨rfl, hb⟩
  replace HB := onto HB hb
  clear hb
  go_wp2_with fail
  refine (nx.out _).mono ?_
  rintro e w3 ⟨rfl, hb⟩
  replace HB := onto HB hb
  clear hb
  go_wp2_with fail
  refine (ny.out _).mono ?_
  rintro e w4 ⟨rfl, hb⟩
  replace HB := onto HB hb
  clear hb
  go_wp2_with fail
  refine (nz.out _).mono ?_
  rintro e w5 ⟨rfl, hb⟩
  replace HB := onto HB hb
  clear hb
  go_wp2_with fail
  refine (cmp_to (a := T p) (b := T q) (c := -1) _ gp.out gq.out (by rw [T_worth, T_worth]; exact K1.out)).mono ?_
  rintro e w6 ⟨rfl, hb⟩
  replace HB := onto HB hb
  clear hb
  go_wp2_with fail
  refine (cmp_to (a := T r) (b := ⟨#[48]⟩) (c := 1) _ gr.out G0.out (by rw [T_worth, show worth (by0 ⟨#[48]⟩) = 0 from e0.out]; exact KS.out)).mono ?_
  rintro e w7 ⟨rfl, hb⟩
  replace HB := onto HB hb
  clear hb
  go_wp2_with fail
  refine (cmp_to (a := T q) (b := T p) (c := 1) _ gq.out gp.out (by rw [T_worth, T_worth, cmp_swap, K1.out] <;> rfl)).mono ?_
  rintro e w8 ⟨rfl, hb⟩
  replace HB := onto HB hb
  clear hb
  go_wp2_with fail
  refine (cmp_to (a := T q) (b := T r) (c := c2) _ gq.out gr.out (by rw [T_worth, T_worth]; exact K2.out)).mono ?_
  rintro e w9 ⟨rfl, hb⟩
  replace HB := onto HB hb
  clear hb
  go_wp2_with fail
  refine (cmp_to (a := T p) (b := T r) (c := c3) _ gp.out gr.out (by rw [T_worth, T_worth]; exact K3.out)).mono ?_
  rintro e w10 ⟨rfl, hb⟩
  replace HB := onto HB hb
  clear hb
  go_wp2_with fail
  refine (plus_to (a := T p) (b := T r) (u := T (p + r)) _ gp.out gr.out gpr.out (by simp only [T_worth] <;> grind)).mono ?_
  rintro e w11 ⟨rfl, hb⟩
  replace HB := onto HB hb
  clear hb
  go_wp2_with fail
  refine (plus_to (a := T q) (b := T r) (u := T (q + r)) _ gq.out gr.out gqr.out (by simp only [T_worth] <;> grind)).mono ?_
  rintro e w12 ⟨rfl, hb⟩
  replace HB := onto HB hb
  clear hb
  go_wp2_with fail
  refine (cmp_to (a := T (p + r)) (b := T (q + r)) (c := -1) _ gpr.out gqr.out (by rw [T_worth, T_worth, cmp_add]; exact K1.out)).mono ?_
  rintro e w13 ⟨rfl, hb⟩
  replace HB := onto HB hb
  clear hb
  go_wp2_with fail
  refine (times_to (a := T p) (b := T r) (u := T (p * r)) _ gp.out gr.out gmpr.out (by simp only [T_worth] <;> grind)).mono ?_
  rintro e w14 ⟨rfl, hb⟩
  replace HB := onto HB hb
  clear hb
  go_wp2_with fail
  refine (times_to (a := T q) (b := T r) (u := T (q * r)) _ gq.out gr.out gmqr.out (by simp only [T_worth] <;> grind)).mono ?_
  rintro e w15 ⟨rfl, hb⟩
  replace HB := onto HB hb
  clear hb
  go_wp2_with fail
  refine (cmp_to (a := T (p * r)) (b := T (q * r)) (c := -1) _ gmpr.out gmqr.out (by rw [T_worth, T_worth, cmp_mul, K1.out, KS.out]; rfl)).mono ?_
  rintro e w16 ⟨rfl, hb⟩
  replace HB := onto HB hb
  clear hb
  go_wp2
  go_ret
  exact ⟨rfl, HB⟩

set_option maxRecDepth 100000 in
set_option maxHeartbeats 8000000 in
theorem rorder_zm_bc {w : World} (x y z : ByteArray) (p q r : Rat) (nx : ∀ w, Calls Tryd.prog 10 #[.string x] w fun e w' => e = .returned (.tuple #[.string (T p), .int .i64 0]) ∧ Below w.heap.size w w') (ny : ∀ w, Calls Tryd.prog 10 #[.string y] w fun e w' => e = .returned (.tuple #[.string (T q), .int .i64 0]) ∧ Below w.heap.size w w') (nz : ∀ w, Calls Tryd.prog 10 #[.string z] w fun e w' => e = .returned (.tuple #[.string (T r), .int .i64 0]) ∧ Below w.heap.size w w') (hp : Size p 160 160) (hq : Size q 160 160) (hr : Size r 160 160) (h1 : x.size ≤ 160) (h2 : y.size ≤ 160) (h3 : z.size ≤ 160) (k1 : cmpQ p q = 0) (ks : cmpQ r 0 = -1) (k2 : cmpQ q r = 1) : Calls Tryd.prog 5 #[.string x, .string y, .string z] w (Samed w true) := by
  have sp := hp
  have sq := hq
  have sr := hr
  have spr : Size (p + r) 321 320 := sp.add sr (by decide) (by decide) (by decide)
  have sqr : Size (q + r) 321 320 := sq.add sr (by decide) (by decide) (by decide)
  have smpr : Size (p * r) 320 320 := sp.mul sr (by decide) (by decide)
  have smqr : Size (q * r) 320 320 := sq.mul sr (by decide) (by decide)
  have gp := Lib.hid (sp.T (by decide) (by decide) (by decide))
  have gq := Lib.hid (sq.T (by decide) (by decide) (by decide))
  have gr := Lib.hid (sr.T (by decide) (by decide) (by decide))
  have gpr := Lib.hid (spr.T (by decide) (by decide) (by decide))
  have gqr := Lib.hid (sqr.T (by decide) (by decide) (by decide))
  have gmpr := Lib.hid (smpr.T (by decide) (by decide) (by decide))
  have gmqr := Lib.hid (smqr.T (by decide) (by decide) (by decide))
  clear sp sq sr spr sqr smpr smqr
  clear hp hq hr
  have K1 := Lib.hid k1; clear k1
  have KS := Lib.hid ks; clear ks
  have K2 := Lib.hid k2; clear k2
  have e0 := Lib.hid nought_worth
  have G0 := Lib.hid nought_good
  have HB := Below.refl w.heap.size w
  have HH := Lib.hid (And.intro h1 h2); clear h1 h2
  have zz : decide ((160 : Int) < (z.size : Int)) = false := decide_eq_false (by omega)
  replace nx := Lib.hid nx
  replace ny := Lib.hid ny
  replace nz := Lib.hid nz
  go_enter Tryd.func5, Tryd.ntmps5
  go_wp2_with fail
  refine (rhead_any _).mono ?_
  rintro e w1 ⟨rfl, hb⟩
  replace HB := onto HB hb
  clear hb
  go_wp2_with fail
  refine (great_no _ HH.out.1 HH.out.2).mono ?_
  rintro e w2 ⟨rfl, hb⟩
  replace HB := onto HB hb
  clear hb
  go_wp2_with fail
  refine (nx.out _).mono ?_
  rintro e w3 ⟨rfl, hb⟩
  replace HB := onto HB hb
  clear hb
  go_wp2_with fail
  refine (ny.out _).mono ?_
  rintro e w4 ⟨rfl, hb⟩
  replace HB := onto HB hb
  clear hb
  go_wp2_with fail
  refine (nz.out _).mono ?_
  rintro e w5 ⟨rfl, hb⟩
  replace HB := onto HB hb
  clear hb
  go_wp2_with fail
  refine (cmp_to (a := T p) (b := T q) (c := 0) _ gp.out gq.out (by rw [T_worth, T_worth]; exact K1.out)).mono ?_
  rintro e w6 ⟨rfl, hb⟩
  replace HB := onto HB hb
  clear hb
  go_wp2_with fail
  refine (cmp_to (a := T r) (b := ⟨#[48]⟩) (c := -1) _ gr.out G0.out (by rw [T_worth, show worth (by0 ⟨#[48]⟩) = 0 from e0.out]; exact KS.out)).mono ?_
  rintro e w7 ⟨rfl, hb⟩
  replace HB := onto HB hb
  clear hb
  go_wp2_with fail
  refine (cmp_to (a := T q) (b := T p) (c := 0) _ gq.out gp.out (by rw [T_worth, T_worth, cmp_swap, K1.out] <;> rfl)).mono ?_
  rintro e w8 ⟨rfl, hb⟩
  replace HB := onto HB hb
  clear hb
  go_wp2_with fail
  refine (cmp_to (a := T q) (b := T r) (c := 1) _ gq.out gr.out (by rw [T_worth, T_worth]; exact K2.out)).mono ?_
  rintro e w9 ⟨rfl, hb⟩
  replace HB := onto HB hb
  clear hb
  go_wp2_with fail
  refine (plus_to (a := T p) (b := T r) (u := T (p + r)) _ gp.out gr.out gpr.out (by simp only [T_worth] <;> grind)).mono ?_
  rintro e w10 ⟨rfl, hb⟩
  replace HB := onto HB hb
  clear hb
  go_wp2_with fail
  refine (plus_to (a := T q) (b := T r) (u := T (q + r)) _ gq.out gr.out gqr.out (by simp only [T_worth] <;> grind)).mono ?_
  rintro e w11 ⟨rfl, hb⟩
  replace HB := onto HB hb
  clear hb
  go_wp2_with fail
  refine (cmp_to (a := T (p + r)) (b := T (q + r)) (c := 0) _ gpr.out gqr.out (by rw [T_worth, T_worth, cmp_add]; exact K1.out)).mono ?_
  rintro e w12 ⟨rfl, hb⟩
  replace HB := onto HB hb
  clear hb
  go_wp2_with fail
  refine (times_to (a := T p) (b := T r) (u := T (p * r)) _ gp.out gr.out gmpr.out (by simp only [T_worth] <;> grind)).mono ?_
  rintro e w13 ⟨rfl, hb⟩
  replace HB := onto HB hb
  clear hb
  go_wp2_with fail
  refine (times_to (a := T q) (b := T r) (u := T (q * r)) _ gq.out gr.out gmqr.out (by simp only [T_worth] <;> grind)).mono ?_
  rintro e w14 ⟨rfl, hb⟩
  replace HB := onto HB hb
  clear hb
  go_wp2_with fail
  refine (cmp_to (a := T (p * r)) (b := T (q * r)) (c := 0) _ gmpr.out gmqr.out (by rw [T_worth, T_worth, cmp_mul, K1.out, KS.out]; rfl)).mono ?_
  rintro e w15 ⟨rfl, hb⟩
  replace HB := onto HB hb
  clear hb
  go_wp2
  go_ret
  exact ⟨rfl, HB⟩

set_option maxRecDepth 100000 in
set_option maxHeartbeats 8000000 in
theorem rorder_zm_ac {w : World} (x y z : ByteArray) (p q r : Rat) (nx : ∀ w, Calls Tryd.prog 10 #[.string x] w fun e w' => e = .returned (.tuple #[.string (T p), .int .i64 0]) ∧ Below w.heap.size w w') (ny : ∀ w, Calls Tryd.prog 10 #[.string y] w fun e w' => e = .returned (.tuple #[.string (T q), .int .i64 0]) ∧ Below w.heap.size w w') (nz : ∀ w, Calls Tryd.prog 10 #[.string z] w fun e w' => e = .returned (.tuple #[.string (T r), .int .i64 0]) ∧ Below w.heap.size w w') (hp : Size p 160 160) (hq : Size q 160 160) (hr : Size r 160 160) (h1 : x.size ≤ 160) (h2 : y.size ≤ 160) (h3 : z.size ≤ 160) (k1 : cmpQ p q = 0) (ks : cmpQ r 0 = -1) (c2 c3 : Int) (k2 : cmpQ q r = c2) (k3 : cmpQ p r = c3) (z2 : decide ((0 : Int) < c2) = false) (z3 : decide (c3 ≤ 0) = true) : Calls Tryd.prog 5 #[.string x, .string y, .string z] w (Samed w true) := by
  have sp := hp
  have sq := hq
  have sr := hr
  have spr : Size (p + r) 321 320 := sp.add sr (by decide) (by decide) (by decide)
  have sqr : Size (q + r) 321 320 := sq.add sr (by decide) (by decide) (by decide)
  have smpr : Size (p * r) 320 320 := sp.mul sr (by decide) (by decide)
  have smqr : Size (q * r) 320 320 := sq.mul sr (by decide) (by decide)
  have gp := Lib.hid (sp.T (by decide) (by decide) (by decide))
  have gq := Lib.hid (sq.T (by decide) (by decide) (by decide))
  have gr := Lib.hid (sr.T (by decide) (by decide) (by decide))
  have gpr := Lib.hid (spr.T (by decide) (by decide) (by decide))
  have gqr := Lib.hid (sqr.T (by decide) (by decide) (by decide))
  have gmpr := Lib.hid (smpr.T (by decide) (by decide) (by decide))
  have gmqr := Lib.hid (smqr.T (by decide) (by decide) (by decide))
  clear sp sq sr spr sqr smpr smqr
  clear hp hq hr
  have K1 := Lib.hid k1; clear k1
  have KS := Lib.hid ks; clear ks
  have K2 := Lib.hid k2; clear k2
  have K3 := Lib.hid k3; clear k3
  have e0 := Lib.hid nought_worth
  have G0 := Lib.hid nought_good
  have HB := Below.refl w.heap.size w
  have HH := Lib.hid (And.intro h1 h2); clear h1 h2
  have zz : decide ((160 : Int) < (z.size : Int)) = false := decide_eq_false (by omega)
  replace nx := Lib.hid nx
  replace ny := Lib.hid ny
  replace nz := Lib.hid nz
  go_enter Tryd.func5, Tryd.ntmps5
  go_wp2_with fail
  refine (rhead_any _).mono ?_
  rintro e w1 ⟨rfl, hb⟩
  replace HB := onto HB hb
  clear hb
  go_wp2_with fail
  refine (great_no _ HH.out.1 HH.out.2).mono ?_
  rintro e w2 ⟨rfl, hb⟩
  replace HB := onto HB hb
  clear hb
  go_wp2_with fail
  refine (nx.out _).mono ?_
  rintro e w3 ⟨rfl, hb⟩
  replace HB := onto HB hb
  clear hb
  go_wp2_with fail
  refine (ny.out _).mono ?_
  rintro e w4 ⟨rfl, hb⟩
  replace HB := onto HB hb
  clear hb
  go_wp2_with fail
  refine (nz.out _).mono ?_
  rintro e w5 ⟨rfl, hb⟩
  replace HB := onto HB hb
  clear hb
  go_wp2_with fail
  refine (cmp_to (a := T p) (b := T q) (c := 0) _ gp.out gq.out (by rw [T_worth, T_worth]; exact K1.out)).mono ?_
  rintro e w6 ⟨rfl, hb⟩
  replace HB := onto HB hb
  clear hb
  go_wp2_with fail
  refine (cmp_to (a := T r) (b := ⟨#[48]⟩) (c := -1) _ gr.out G0.out (by rw [T_worth, show worth (by0 ⟨#[48]⟩) = 0 from e0.out]; exact KS.out)).mono ?_
  rintro e w7 ⟨rfl, hb⟩
  replace HB := onto HB hb
  clear hb
  go_wp2_with fail
  refine (cmp_to (a := T q) (b := T p) (c := 0) _ gq.out gp.out (by rw [T_worth, T_worth, cmp_swap, K1.out] <;> rfl)).mono ?_
  rintro e w8 ⟨rfl, hb⟩
  replace HB := onto HB hb
  clear hb
  go_wp2_with fail
  refine (cmp_to (a := T q) (b := T r) (c := c2) _ gq.out gr.out (by rw [T_worth, T_worth]; exact K2.out)).mono ?_
  rintro e w9 ⟨rfl, hb⟩
  replace HB := onto HB hb
  clear hb
  go_wp2_with fail
  refine (cmp_to (a := T p) (b := T r) (c := c3) _ gp.out gr.out (by rw [T_worth, T_worth]; exact K3.out)).mono ?_
  rintro e w10 ⟨rfl, hb⟩
  replace HB := onto HB hb
  clear hb
  go_wp2_with fail
  refine (plus_to (a := T p) (b := T r) (u := T (p + r)) _ gp.out gr.out gpr.out (by simp only [T_worth] <;> grind)).mono ?_
  rintro e w11 ⟨rfl, hb⟩
  replace HB := onto HB hb
  clear hb
  go_wp2_with fail
  refine (plus_to (a := T q) (b := T r) (u := T (q + r)) _ gq.out gr.out gqr.out (by simp only [T_worth] <;> grind)).mono ?_
  rintro e w12 ⟨rfl, hb⟩
  replace HB := onto HB hb
  clear hb
  go_wp2_with fail
  refine (cmp_to (a := T (p + r)) (b := T (q + r)) (c := 0) _ gpr.out gqr.out (by rw [T_worth, T_worth, cmp_add]; exact K1.out)).mono ?_
  rintro e w13 ⟨rfl, hb⟩
  replace HB := onto HB hb
  clear hb
  go_wp2_with fail
  refine (times_to (a := T p) (b := T r) (u := T (p * r)) _ gp.out gr.out gmpr.out (by simp only [T_worth] <;> grind)).mono ?_
  rintro e w14 ⟨rfl, hb⟩
  replace HB := onto HB hb
  clear hb
  go_wp2_with fail
  refine (times_to (a := T q) (b := T r) (u := T (q * r)) _ gq.out gr.out gmqr.out (by simp only [T_worth] <;> grind)).mono ?_
  rintro e w15 ⟨rfl, hb⟩
  replace HB := onto HB hb
  clear hb
  go_wp2_with fail
  refine (cmp_to (a := T (p * r)) (b := T (q * r)) (c := 0) _ gmpr.out gmqr.out (by rw [T_worth, T_worth, cmp_mul, K1.out, KS.out]; rfl)).mono ?_
  rintro e w16 ⟨rfl, hb⟩
  replace HB := onto HB hb
  clear hb
  go_wp2
  go_ret
  exact ⟨rfl, HB⟩

set_option maxRecDepth 100000 in
set_option maxHeartbeats 8000000 in
theorem rorder_zz_bc {w : World} (x y z : ByteArray) (p q r : Rat) (nx : ∀ w, Calls Tryd.prog 10 #[.string x] w fun e w' => e = .returned (.tuple #[.string (T p), .int .i64 0]) ∧ Below w.heap.size w w') (ny : ∀ w, Calls Tryd.prog 10 #[.string y] w fun e w' => e = .returned (.tuple #[.string (T q), .int .i64 0]) ∧ Below w.heap.size w w') (nz : ∀ w, Calls Tryd.prog 10 #[.string z] w fun e w' => e = .returned (.tuple #[.string (T r), .int .i64 0]) ∧ Below w.heap.size w w') (hp : Size p 160 160) (hq : Size q 160 160) (hr : Size r 160 160) (h1 : x.size ≤ 160) (h2 : y.size ≤ 160) (h3 : z.size ≤ 160) (k1 : cmpQ p q = 0) (ks : cmpQ r 0 = 0) (k2 : cmpQ q r = 1) : Calls Tryd.prog 5 #[.string x, .string y, .string z] w (Samed w true) := by
  have sp := hp
  have sq := hq
  have sr := hr
  have spr : Size (p + r) 321 320 := sp.add sr (by decide) (by decide) (by decide)
  have sqr : Size (q + r) 321 320 := sq.add sr (by decide) (by decide) (by decide)
  have smpr : Size (p * r) 320 320 := sp.mul sr (by decide) (by decide)
  have smqr : Size (q * r) 320 320 := sq.mul sr (by decide) (by decide)
  have gp := Lib.hid (sp.T (by decide) (by decide) (by decide))
  have gq := Lib.hid (sq.T (by decide) (by decide) (by decide))
  have gr := Lib.hid (sr.T (by decide) (by decide) (by decide))
  have gpr := Lib.hid (spr.T (by decide) (by decide) (by decide))
  have gqr := Lib.hid (sqr.T (by decide) (by decide) (by decide))
  have gmpr := Lib.hid (smpr.T (by decide) (by decide) (by decide))
  have gmqr := Lib.hid (smqr.T (by decide) (by decide) (by decide))
  clear sp sq sr spr sqr smpr smqr
  clear hp hq hr
  have K1 := Lib.hid k1; clear k1
  have KS := Lib.hid ks; clear ks
  have K2 := Lib.hid k2; clear k2
  have e0 := Lib.hid nought_worth
  have G0 := Lib.hid nought_good
  have HB := Below.refl w.heap.size w
  have HH := Lib.hid (And.intro h1 h2); clear h1 h2
  have zz : decide ((160 : Int) < (z.size : Int)) = false := decide_eq_false (by omega)
  replace nx := Lib.hid nx
  replace ny := Lib.hid ny
  replace nz := Lib.hid nz
  go_enter Tryd.func5, Tryd.ntmps5
  go_wp2_with fail
  refine (rhead_any _).mono ?_
  rintro e w1 ⟨rfl, hb⟩
  replace HB := onto HB hb
  clear hb
  go_wp2_with fail
  refine (great_no _ HH.out.1 HH.out.2).mono ?_
  rintro e w2 ⟨rfl, hb⟩
  replace HB := onto HB hb
  clear hb
  go_wp2_with fail
  refine (nx.out _).mono ?_
  rintro e w3 ⟨rfl, hb⟩
  replace HB := onto HB hb
  clear hb
  go_wp2_with fail
  refine (ny.out _).mono ?_
  rintro e w4 ⟨rfl, hb⟩
  replace HB := onto HB hb
  clear hb
  go_wp2_with fail
  refine (nz.out _).mono ?_
  rintro e w5 ⟨rfl, hb⟩
  replace HB := onto HB hb
  clear hb
  go_wp2_with fail
  refine (cmp_to (a := T p) (b := T q) (c := 0) _ gp.out gq.out (by rw [T_worth, T_worth]; exact K1.out)).mono ?_
  rintro e w6 ⟨rfl, hb⟩
  replace HB := onto HB hb
  clear hb
  go_wp2_with fail
  refine (cmp_to (a := T r) (b := ⟨#[48]⟩) (c := 0) _ gr.out G0.out (by rw [T_worth, show worth (by0 ⟨#[48]⟩) = 0 from e0.out]; exact KS.out)).mono ?_
  rintro e w7 ⟨rfl, hb⟩
  replace HB := onto HB hb
  clear hb
  go_wp2_with fail
  refine (cmp_to (a := T q) (b := T p) (c := 0) _ gq.out gp.out (by rw [T_worth, T_worth, cmp_swap, K1.out] <;> rfl)).mono ?_
  rintro e w8 ⟨rfl, hb⟩
  replace HB := onto HB hb
  clear hb
  go_wp2_with fail
  refine (cmp_to (a := T q) (b := T r) (c := 1) _ gq.out gr.out (by rw [T_worth, T_worth]; exact K2.out)).mono ?_
  rintro e w9 ⟨rfl, hb⟩
  replace HB := onto HB hb
  clear hb
  go_wp2_with fail
  refine (plus_to (a := T p) (b := T r) (u := T (p + r)) _ gp.out gr.out gpr.out (by simp only [T_worth] <;> grind)).mono ?_
  rintro e w10 ⟨rfl, hb⟩
  replace HB := onto HB hb
  clear hb
  go_wp2_with fail
  refine (plus_to (a := T q) (b := T r) (u := T (q + r)) _ gq.out gr.out gqr.out (by simp only [T_worth] <;> grind)).mono ?_
  rintro e w11 ⟨rfl, hb⟩
  replace HB := onto HB hb
  clear hb
  go_wp2_with fail
  refine (cmp_to (a := T (p + r)) (b := T (q + r)) (c := 0) _ gpr.out gqr.out (by rw [T_worth, T_worth, cmp_add]; exact K1.out)).mono ?_
  rintro e w12 ⟨rfl, hb⟩
  replace HB := onto HB hb
  clear hb
  go_wp2_with fail
  refine (times_to (a := T p) (b := T r) (u := T (p * r)) _ gp.out gr.out gmpr.out (by simp only [T_worth] <;> grind)).mono ?_
  rintro e w13 ⟨rfl, hb⟩
  replace HB := onto HB hb
  clear hb
  go_wp2_with fail
  refine (times_to (a := T q) (b := T r) (u := T (q * r)) _ gq.out gr.out gmqr.out (by simp only [T_worth] <;> grind)).mono ?_
  rintro e w14 ⟨rfl, hb⟩
  replace HB := onto HB hb
  clear hb
  go_wp2_with fail
  refine (cmp_to (a := T (p * r)) (b := T (q * r)) (c := 0) _ gmpr.out gmqr.out (by rw [T_worth, T_worth, cmp_mul, K1.out, KS.out]; rfl)).mono ?_
  rintro e w15 ⟨rfl, hb⟩
  replace HB := onto HB hb
  clear hb
  go_wp2
  go_ret
  exact ⟨rfl, HB⟩

set_option maxRecDepth 100000 in
set_option maxHeartbeats 8000000 in
theorem rorder_zz_ac {w : World} (x y z : ByteArray) (p q r : Rat) (nx : ∀ w, Calls Tryd.prog 10 #[.string x] w fun e w' => e = .returned (.tuple #[.string (T p), .int .i64 0]) ∧ Below w.heap.size w w') (ny : ∀ w, Calls Tryd.prog 10 #[.string y] w fun e w' => e = .returned (.tuple #[.string (T q), .int .i64 0]) ∧ Below w.heap.size w w') (nz : ∀ w, Calls Tryd.prog 10 #[.string z] w fun e w' => e = .returned (.tuple #[.string (T r), .int .i64 0]) ∧ Below w.heap.size w w') (hp : Size p 160 160) (hq : Size q 160 160) (hr : Size r 160 160) (h1 : x.size ≤ 160) (h2 : y.size ≤ 160) (h3 : z.size ≤ 160) (k1 : cmpQ p q = 0) (ks : cmpQ r 0 = 0) (c2 c3 : Int) (k2 : cmpQ q r = c2) (k3 : cmpQ p r = c3) (z2 : decide ((0 : Int) < c2) = false) (z3 : decide (c3 ≤ 0) = true) : Calls Tryd.prog 5 #[.string x, .string y, .string z] w (Samed w true) := by
  have sp := hp
  have sq := hq
  have sr := hr
  have spr : Size (p + r) 321 320 := sp.add sr (by decide) (by decide) (by decide)
  have sqr : Size (q + r) 321 320 := sq.add sr (by decide) (by decide) (by decide)
  have smpr : Size (p * r) 320 320 := sp.mul sr (by decide) (by decide)
  have smqr : Size (q * r) 320 320 := sq.mul sr (by decide) (by decide)
  have gp := Lib.hid (sp.T (by decide) (by decide) (by decide))
  have gq := Lib.hid (sq.T (by decide) (by decide) (by decide))
  have gr := Lib.hid (sr.T (by decide) (by decide) (by decide))
  have gpr := Lib.hid (spr.T (by decide) (by decide) (by decide))
  have gqr := Lib.hid (sqr.T (by decide) (by decide) (by decide))
  have gmpr := Lib.hid (smpr.T (by decide) (by decide) (by decide))
  have gmqr := Lib.hid (smqr.T (by decide) (by decide) (by decide))
  clear sp sq sr spr sqr smpr smqr
  clear hp hq hr
  have K1 := Lib.hid k1; clear k1
  have KS := Lib.hid ks; clear ks
  have K2 := Lib.hid k2; clear k2
  have K3 := Lib.hid k3; clear k3
  have e0 := Lib.hid nought_worth
  have G0 := Lib.hid nought_good
  have HB := Below.refl w.heap.size w
  have HH := Lib.hid (And.intro h1 h2); clear h1 h2
  have zz : decide ((160 : Int) < (z.size : Int)) = false := decide_eq_false (by omega)
  replace nx := Lib.hid nx
  replace ny := Lib.hid ny
  replace nz := Lib.hid nz
  go_enter Tryd.func5, Tryd.ntmps5
  go_wp2_with fail
  refine (rhead_any _).mono ?_
  rintro e w1 ⟨rfl, hb⟩
  replace HB := onto HB hb
  clear hb
  go_wp2_with fail
  refine (great_no _ HH.out.1 HH.out.2).mono ?_
  rintro e w2 ⟨rfl, hb⟩
  replace HB := onto HB hb
  clear hb
  go_wp2_with fail
  refine (nx.out _).mono ?_
  rintro e w3 ⟨rfl, hb⟩
  replace HB := onto HB hb
  clear hb
  go_wp2_with fail
  refine (ny.out _).mono ?_
  rintro e w4 ⟨rfl, hb⟩
  replace HB := onto HB hb
  clear hb
  go_wp2_with fail
  refine (nz.out _).mono ?_
  rintro e w5 ⟨rfl, hb⟩
  replace HB := onto HB hb
  clear hb
  go_wp2_with fail
  refine (cmp_to (a := T p) (b := T q) (c := 0) _ gp.out gq.out (by rw [T_worth, T_worth]; exact K1.out)).mono ?_
  rintro e w6 ⟨rfl, hb⟩
  replace HB := onto HB hb
  clear hb
  go_wp2_with fail
  refine (cmp_to (a := T r) (b := ⟨#[48]⟩) (c := 0) _ gr.out G0.out (by rw [T_worth, show worth (by0 ⟨#[48]⟩) = 0 from e0.out]; exact KS.out)).mono ?_
  rintro e w7 ⟨rfl, hb⟩
  replace HB := onto HB hb
  clear hb
  go_wp2_with fail
  refine (cmp_to (a := T q) (b := T p) (c := 0) _ gq.out gp.out (by rw [T_worth, T_worth, cmp_swap, K1.out] <;> rfl)).mono ?_
  rintro e w8 ⟨rfl, hb⟩
  replace HB := onto HB hb
  clear hb
  go_wp2_with fail
  refine (cmp_to (a := T q) (b := T r) (c := c2) _ gq.out gr.out (by rw [T_worth, T_worth]; exact K2.out)).mono ?_
  rintro e w9 ⟨rfl, hb⟩
  replace HB := onto HB hb
  clear hb
  go_wp2_with fail
  refine (cmp_to (a := T p) (b := T r) (c := c3) _ gp.out gr.out (by rw [T_worth, T_worth]; exact K3.out)).mono ?_
  rintro e w10 ⟨rfl, hb⟩
  replace HB := onto HB hb
  clear hb
  go_wp2_with fail
  refine (plus_to (a := T p) (b := T r) (u := T (p + r)) _ gp.out gr.out gpr.out (by simp only [T_worth] <;> grind)).mono ?_
  rintro e w11 ⟨rfl, hb⟩
  replace HB := onto HB hb
  clear hb
  go_wp2_with fail
  refine (plus_to (a := T q) (b := T r) (u := T (q + r)) _ gq.out gr.out gqr.out (by simp only [T_worth] <;> grind)).mono ?_
  rintro e w12 ⟨rfl, hb⟩
  replace HB := onto HB hb
  clear hb
  go_wp2_with fail
  refine (cmp_to (a := T (p + r)) (b := T (q + r)) (c := 0) _ gpr.out gqr.out (by rw [T_worth, T_worth, cmp_add]; exact K1.out)).mono ?_
  rintro e w13 ⟨rfl, hb⟩
  replace HB := onto HB hb
  clear hb
  go_wp2_with fail
  refine (times_to (a := T p) (b := T r) (u := T (p * r)) _ gp.out gr.out gmpr.out (by simp only [T_worth] <;> grind)).mono ?_
  rintro e w14 ⟨rfl, hb⟩
  replace HB := onto HB hb
  clear hb
  go_wp2_with fail
  refine (times_to (a := T q) (b := T r) (u := T (q * r)) _ gq.out gr.out gmqr.out (by simp only [T_worth] <;> grind)).mono ?_
  rintro e w15 ⟨rfl, hb⟩
  replace HB := onto HB hb
  clear hb
  go_wp2_with fail
  refine (cmp_to (a := T (p * r)) (b := T (q * r)) (c := 0) _ gmpr.out gmqr.out (by rw [T_worth, T_worth, cmp_mul, K1.out, KS.out]; rfl)).mono ?_
  rintro e w16 ⟨rfl, hb⟩
  replace HB := onto HB hb
  clear hb
  go_wp2
  go_ret
  exact ⟨rfl, HB⟩

set_option maxRecDepth 100000 in
set_option maxHeartbeats 8000000 in
theorem rorder_zp_bc {w : World} (x y z : ByteArray) (p q r : Rat) (nx : ∀ w, Calls Tryd.prog 10 #[.string x] w fun e w' => e = .returned (.tuple #[.string (T p), .int .i64 0]) ∧ Below w.heap.size w w') (ny : ∀ w, Calls Tryd.prog 10 #[.string y] w fun e w' => e = .returned (.tuple #[.string (T q), .int .i64 0]) ∧ Below w.heap.size w w') (nz : ∀ w, Calls Tryd.prog 10 #[.string z] w fun e w' => e = .returned (.tuple #[.string (T r), .int .i64 0]) ∧ Below w.heap.size w w') (hp : Size p 160 160) (hq : Size q 160 160) (hr : Size r 160 160) (h1 : x.size ≤ 160) (h2 : y.size ≤ 160) (h3 : z.size ≤ 160) (k1 : cmpQ p q = 0) (ks : cmpQ r 0 = 1) (k2 : cmpQ q r = 1) : Calls Tryd.prog 5 #[.string x, .string y, .string z] w (Samed w true) := by
  have sp := hp
  have sq := hq
  have sr := hr
  have spr : Size (p + r) 321 320 := sp.add sr (by decide) (by decide) (by decide)
  have sqr : Size (q + r) 321 320 := sq.add sr (by decide) (by decide) (by decide)
  have smpr : Size (p * r) 320 320 := sp.mul sr (by decide) (by decide)
  have smqr : Size (q * r) 320 320 := sq.mul sr (by decide) (by decide)
  have gp := Lib.hid (sp.T (by decide) (by decide) (by decide))
  have gq := Lib.hid (sq.T (by decide) (by decide) (by decide))
  have gr := Lib.hid (sr.T (by decide) (by decide) (by decide))
  have gpr := Lib.hid (spr.T (by decide) (by decide) (by decide))
  have gqr := Lib.hid (sqr.T (by decide) (by decide) (by decide))
  have gmpr := Lib.hid (smpr.T (by decide) (by decide) (by decide))
  have gmqr := Lib.hid (smqr.T (by decide) (by decide) (by decide))
  clear sp sq sr spr sqr smpr smqr
  clear hp hq hr
  have K1 := Lib.hid k1; clear k1
  have KS := Lib.hid ks; clear ks
  have K2 := Lib.hid k2; clear k2
  have e0 := Lib.hid nought_worth
  have G0 := Lib.hid nought_good
  have HB := Below.refl w.heap.size w
  have HH := Lib.hid (And.intro h1 h2); clear h1 h2
  have zz : decide ((160 : Int) < (z.size : Int)) = false := decide_eq_false (by omega)
  replace nx := Lib.hid nx
  replace ny := Lib.hid ny
  replace nz := Lib.hid nz
  go_enter Tryd.func5, Tryd.ntmps5
  go_wp2_with fail
  refine (rhead_any _).mono ?_
  rintro e w1 ⟨rfl, hb⟩
  replace HB := onto HB hb
  clear hb
  go_wp2_with fail
  refine (great_no _ HH.out.1 HH.out.2).mono ?_
  rintro e w2 ⟨rfl, hb⟩
  replace HB := onto HB hb
  clear hb
  go_wp2_with fail
  refine (nx.out _).mono ?_
  rintro e w3 ⟨rfl, hb⟩
  replace HB := onto HB hb
  clear hb
  go_wp2_with fail
  refine (ny.out _).mono ?_
  rintro e w4 ⟨rfl, hb⟩
  replace HB := onto HB hb
  clear hb
  go_wp2_with fail
  refine (nz.out _).mono ?_
  rintro e w5 ⟨rfl, hb⟩
  replace HB := onto HB hb
  clear hb
  go_wp2_with fail
  refine (cmp_to (a := T p) (b := T q) (c := 0) _ gp.out gq.out (by rw [T_worth, T_worth]; exact K1.out)).mono ?_
  rintro e w6 ⟨rfl, hb⟩
  replace HB := onto HB hb
  clear hb
  go_wp2_with fail
  refine (cmp_to (a := T r) (b := ⟨#[48]⟩) (c := 1) _ gr.out G0.out (by rw [T_worth, show worth (by0 ⟨#[48]⟩) = 0 from e0.out]; exact KS.out)).mono ?_
  rintro e w7 ⟨rfl, hb⟩
  replace HB := onto HB hb
  clear hb
  go_wp2_with fail
  refine (cmp_to (a := T q) (b := T p) (c := 0) _ gq.out gp.out (by rw [T_worth, T_worth, cmp_swap, K1.out] <;> rfl)).mono ?_
  rintro e w8 ⟨rfl, hb⟩
  replace HB := onto HB hb
  clear hb
  go_wp2_with fail
  refine (cmp_to (a := T q) (b := T r) (c := 1) _ gq.out gr.out (by rw [T_worth, T_worth]; exact K2.out)).mono ?_
  rintro e w9 ⟨rfl, hb⟩
  replace HB := onto HB hb
  clear hb
  go_wp2_with fail
  refine (plus_to (a := T p) (b := T r) (u := T (p + r)) _ gp.out gr.out gpr.out (by simp only [T_worth] <;> grind)).mono ?_
  rintro e w10 ⟨rfl, hb⟩
  replace HB := onto HB hb
  clear hb
  go_wp2_with fail
  refine (plus_to (a := T q) (b := T r) (u := T (q + r)) _ gq.out gr.out gqr.out (by simp only [T_worth] <;> grind)).mono ?_
  rintro e w11 ⟨rfl, hb⟩
  replace HB := onto HB hb
  clear hb
  go_wp2_with fail
  refine (cmp_to (a := T (p + r)) (b := T (q + r)) (c := 0) _ gpr.out gqr.out (by rw [T_worth, T_worth, cmp_add]; exact K1.out)).mono ?_
  rintro e w12 ⟨rfl, hb⟩
  replace HB := onto HB hb
  clear hb
  go_wp2_with fail
  refine (times_to (a := T p) (b := T r) (u := T (p * r)) _ gp.out gr.out gmpr.out (by simp only [T_worth] <;> grind)).mono ?_
  rintro e w13 ⟨rfl, hb⟩
  replace HB := onto HB hb
  clear hb
  go_wp2_with fail
  refine (times_to (a := T q) (b := T r) (u := T (q * r)) _ gq.out gr.out gmqr.out (by simp only [T_worth] <;> grind)).mono ?_
  rintro e w14 ⟨rfl, hb⟩
  replace HB := onto HB hb
  clear hb
  go_wp2_with fail
  refine (cmp_to (a := T (p * r)) (b := T (q * r)) (c := 0) _ gmpr.out gmqr.out (by rw [T_worth, T_worth, cmp_mul, K1.out, KS.out]; rfl)).mono ?_
  rintro e w15 ⟨rfl, hb⟩
  replace HB := onto HB hb
  clear hb
  go_wp2
  go_ret
  exact ⟨rfl, HB⟩

set_option maxRecDepth 100000 in
set_option maxHeartbeats 8000000 in
theorem rorder_zp_ac {w : World} (x y z : ByteArray) (p q r : Rat) (nx : ∀ w, Calls Tryd.prog 10 #[.string x] w fun e w' => e = .returned (.tuple #[.string (T p), .int .i64 0]) ∧ Below w.heap.size w w') (ny : ∀ w, Calls Tryd.prog 10 #[.string y] w fun e w' => e = .returned (.tuple #[.string (T q), .int .i64 0]) ∧ Below w.heap.size w w') (nz : ∀ w, Calls Tryd.prog 10 #[.string z] w fun e w' => e = .returned (.tuple #[.string (T r), .int .i64 0]) ∧ Below w.heap.size w w') (hp : Size p 160 160) (hq : Size q 160 160) (hr : Size r 160 160) (h1 : x.size ≤ 160) (h2 : y.size ≤ 160) (h3 : z.size ≤ 160) (k1 : cmpQ p q = 0) (ks : cmpQ r 0 = 1) (c2 c3 : Int) (k2 : cmpQ q r = c2) (k3 : cmpQ p r = c3) (z2 : decide ((0 : Int) < c2) = false) (z3 : decide (c3 ≤ 0) = true) : Calls Tryd.prog 5 #[.string x, .string y, .string z] w (Samed w true) := by
  have sp := hp
  have sq := hq
  have sr := hr
  have spr : Size (p + r) 321 320 := sp.add sr (by decide) (by decide) (by decide)
  have sqr : Size (q + r) 321 320 := sq.add sr (by decide) (by decide) (by decide)
  have smpr : Size (p * r) 320 320 := sp.mul sr (by decide) (by decide)
  have smqr : Size (q * r) 320 320 := sq.mul sr (by decide) (by decide)
  have gp := Lib.hid (sp.T (by decide) (by decide) (by decide))
  have gq := Lib.hid (sq.T (by decide) (by decide) (by decide))
  have gr := Lib.hid (sr.T (by decide) (by decide) (by decide))
  have gpr := Lib.hid (spr.T (by decide) (by decide) (by decide))
  have gqr := Lib.hid (sqr.T (by decide) (by decide) (by decide))
  have gmpr := Lib.hid (smpr.T (by decide) (by decide) (by decide))
  have gmqr := Lib.hid (smqr.T (by decide) (by decide) (by decide))
  clear sp sq sr spr sqr smpr smqr
  clear hp hq hr
  have K1 := Lib.hid k1; clear k1
  have KS := Lib.hid ks; clear ks
  have K2 := Lib.hid k2; clear k2
  have K3 := Lib.hid k3; clear k3
  have e0 := Lib.hid nought_worth
  have G0 := Lib.hid nought_good
  have HB := Below.refl w.heap.size w
  have HH := Lib.hid (And.intro h1 h2); clear h1 h2
  have zz : decide ((160 : Int) < (z.size : Int)) = false := decide_eq_false (by omega)
  replace nx := Lib.hid nx
  replace ny := Lib.hid ny
  replace nz := Lib.hid nz
  go_enter Tryd.func5, Tryd.ntmps5
  go_wp2_with fail
  refine (rhead_any _).mono ?_
  rintro e w1 ⟨rfl, hb⟩
  replace HB := onto HB hb
  clear hb
  go_wp2_with fail
  refine (great_no _ HH.out.1 HH.out.2).mono ?_
  rintro e w2 ⟨rfl, hb⟩
  replace HB := onto HB hb
  clear hb
  go_wp2_with fail
  refine (nx.out _).mono ?_
  rintro e w3 ⟨rfl, hb⟩
  replace HB := onto HB hb
  clear hb
  go_wp2_with fail
  refine (ny.out _).mono ?_
  rintro e w4 ⟨rfl, hb⟩
  replace HB := onto HB hb
  clear hb
  go_wp2_with fail
  refine (nz.out _).mono ?_
  rintro e w5 ⟨rfl, hb⟩
  replace HB := onto HB hb
  clear hb
  go_wp2_with fail
  refine (cmp_to (a := T p) (b := T q) (c := 0) _ gp.out gq.out (by rw [T_worth, T_worth]; exact K1.out)).mono ?_
  rintro e w6 ⟨rfl, hb⟩
  replace HB := onto HB hb
  clear hb
  go_wp2_with fail
  refine (cmp_to (a := T r) (b := ⟨#[48]⟩) (c := 1) _ gr.out G0.out (by rw [T_worth, show worth (by0 ⟨#[48]⟩) = 0 from e0.out]; exact KS.out)).mono ?_
  rintro e w7 ⟨rfl, hb⟩
  replace HB := onto HB hb
  clear hb
  go_wp2_with fail
  refine (cmp_to (a := T q) (b := T p) (c := 0) _ gq.out gp.out (by rw [T_worth, T_worth, cmp_swap, K1.out] <;> rfl)).mono ?_
  rintro e w8 ⟨rfl, hb⟩
  replace HB := onto HB hb
  clear hb
  go_wp2_with fail
  refine (cmp_to (a := T q) (b := T r) (c := c2) _ gq.out gr.out (by rw [T_worth, T_worth]; exact K2.out)).mono ?_
  rintro e w9 ⟨rfl, hb⟩
  replace HB := onto HB hb
  clear hb
  go_wp2_with fail
  refine (cmp_to (a := T p) (b := T r) (c := c3) _ gp.out gr.out (by rw [T_worth, T_worth]; exact K3.out)).mono ?_
  rintro e w10 ⟨rfl, hb⟩
  replace HB := onto HB hb
  clear hb
  go_wp2_with fail
  refine (plus_to (a := T p) (b := T r) (u := T (p + r)) _ gp.out gr.out gpr.out (by simp only [T_worth] <;> grind)).mono ?_
  rintro e w11 ⟨rfl, hb⟩
  replace HB := onto HB hb
  clear hb
  go_wp2_with fail
  refine (plus_to (a := T q) (b := T r) (u := T (q + r)) _ gq.out gr.out gqr.out (by simp only [T_worth] <;> grind)).mono ?_
  rintro e w12 ⟨rfl, hb⟩
  replace HB := onto HB hb
  clear hb
  go_wp2_with fail
  refine (cmp_to (a := T (p + r)) (b := T (q + r)) (c := 0) _ gpr.out gqr.out (by rw [T_worth, T_worth, cmp_add]; exact K1.out)).mono ?_
  rintro e w13 ⟨rfl, hb⟩
  replace HB := onto HB hb
  clear hb
  go_wp2_with fail
  refine (times_to (a := T p) (b := T r) (u := T (p * r)) _ gp.out gr.out gmpr.out (by simp only [T_worth] <;> grind)).mono ?_
  rintro e w14 ⟨rfl, hb⟩
  replace HB := onto HB hb
  clear hb
  go_wp2_with fail
  refine (times_to (a := T q) (b := T r) (u := T (q * r)) _ gq.out gr.out gmqr.out (by simp only [T_worth] <;> grind)).mono ?_
  rintro e w15 ⟨rfl, hb⟩
  replace HB := onto HB hb
  clear hb
  go_wp2_with fail
  refine (cmp_to (a := T (p * r)) (b := T (q * r)) (c := 0) _ gmpr.out gmqr.out (by rw [T_worth, T_worth, cmp_mul, K1.out, KS.out]; rfl)).mono ?_
  rintro e w16 ⟨rfl, hb⟩
  replace HB := onto HB hb
  clear hb
  go_wp2
  go_ret
  exact ⟨rfl, HB⟩

set_option maxRecDepth 100000 in
set_option maxHeartbeats 8000000 in
theorem rorder_pm_one {w : World} (x y z : ByteArray) (p q r : Rat) (nx : ∀ w, Calls Tryd.prog 10 #[.string x] w fun e w' => e = .returned (.tuple #[.string (T p), .int .i64 0]) ∧ Below w.heap.size w w') (ny : ∀ w, Calls Tryd.prog 10 #[.string y] w fun e w' => e = .returned (.tuple #[.string (T q), .int .i64 0]) ∧ Below w.heap.size w w') (nz : ∀ w, Calls Tryd.prog 10 #[.string z] w fun e w' => e = .returned (.tuple #[.string (T r), .int .i64 0]) ∧ Below w.heap.size w w') (hp : Size p 160 160) (hq : Size q 160 160) (hr : Size r 160 160) (h1 : x.size ≤ 160) (h2 : y.size ≤ 160) (h3 : z.size ≤ 160) (k1 : cmpQ p q = 1) (ks : cmpQ r 0 = -1) : Calls Tryd.prog 5 #[.string x, .string y, .string z] w (Samed w true) := by
  have sp := hp
  have sq := hq
  have sr := hr
  have spr : Size (p + r) 321 320 := sp.add sr (by decide) (by decide) (by decide)
  have sqr : Size (q + r) 321 320 := sq.add sr (by decide) (by decide) (by decide)
  have smpr : Size (p * r) 320 320 := sp.mul sr (by decide) (by decide)
  have smqr : Size (q * r) 320 320 := sq.mul sr (by decide) (by decide)
  have gp := Lib.hid (sp.T (by decide) (by decide) (by decide))
  have gq := Lib.hid (sq.T (by decide) (by decide) (by decide))
  have gr := Lib.hid (sr.T (by decide) (by decide) (by decide))
  have gpr := Lib.hid (spr.T (by decide) (by decide) (by decide))
  have gqr := Lib.hid (sqr.T (by decide) (by decide) (by decide))
  have gmpr := Lib.hid (smpr.T (by decide) (by decide) (by decide))
  have gmqr := Lib.hid (smqr.T (by decide) (by decide) (by decide))
  clear sp sq sr spr sqr smpr smqr
  clear hp hq hr
  have K1 := Lib.hid k1; clear k1
  have KS := Lib.hid ks; clear ks
  have e0 := Lib.hid nought_worth
  have G0 := Lib.hid nought_good
  have HB := Below.refl w.heap.size w
  have HH := Lib.hid (And.intro h1 h2); clear h1 h2
  have zz : decide ((160 : Int) < (z.size : Int)) = false := decide_eq_false (by omega)
  replace nx := Lib.hid nx
  replace ny := Lib.hid ny
  replace nz := Lib.hid nz
  go_enter Tryd.func5, Tryd.ntmps5
  go_wp2_with fail
  refine (rhead_any _).mono ?_
  rintro e w1 ⟨rfl, hb⟩
  replace HB := onto HB hb
  clear hb
  go_wp2_with fail
  refine (great_no _ HH.out.1 HH.out.2).mono ?_
  rintro e w2 ⟨rfl, hb⟩
  replace HB := onto HB hb
  clear hb
  go_wp2_with fail
  refine (nx.out _).mono ?_
  rintro e w3 ⟨rfl, hb⟩
  replace HB := onto HB hb
  clear hb
  go_wp2_with fail
  refine (ny.out _).mono ?_
  rintro e w4 ⟨rfl, hb⟩
  replace HB := onto HB hb
  clear hb
  go_wp2_with fail
  refine (nz.out _).mono ?_
  rintro e w5 ⟨rfl, hb⟩
  replace HB := onto HB hb
  clear hb
  go_wp2_with fail
  refine (cmp_to (a := T p) (b := T q) (c := 1) _ gp.out gq.out (by rw [T_worth, T_worth]; exact K1.out)).mono ?_
  rintro e w6 ⟨rfl, hb⟩
  replace HB := onto HB hb
  clear hb
  go_wp2_with fail
  refine (cmp_to (a := T r) (b := ⟨#[48]⟩) (c := -1) _ gr.out G0.out (by rw [T_worth, show worth (by0 ⟨#[48]⟩) = 0 from e0.out]; exact KS.out)).mono ?_
  rintro e w7 ⟨rfl, hb⟩
  replace HB := onto HB hb
  clear hb
  go_wp2_with fail
  refine (cmp_to (a := T q) (b := T p) (c := -1) _ gq.out gp.out (by rw [T_worth, T_worth, cmp_swap, K1.out] <;> rfl)).mono ?_
  rintro e w8 ⟨rfl, hb⟩
  replace HB := onto HB hb
  clear hb
  go_wp2_with fail
  refine (plus_to (a := T p) (b := T r) (u := T (p + r)) _ gp.out gr.out gpr.out (by simp only [T_worth] <;> grind)).mono ?_
  rintro e w9 ⟨rfl, hb⟩
  replace HB := onto HB hb
  clear hb
  go_wp2_with fail
  refine (plus_to (a := T q) (b := T r) (u := T (q + r)) _ gq.out gr.out gqr.out (by simp only [T_worth] <;> grind)).mono ?_
  rintro e w10 ⟨rfl, hb⟩
  replace HB := onto HB hb
  clear hb
  go_wp2_with fail
  refine (cmp_to (a := T (p + r)) (b := T (q + r)) (c := 1) _ gpr.out gqr.out (by rw [T_worth, T_worth, cmp_add]; exact K1.out)).mono ?_
  rintro e w11 ⟨rfl, hb⟩
  replace HB := onto HB hb
  clear hb
  go_wp2_with fail
  refine (times_to (a := T p) (b := T r) (u := T (p * r)) _ gp.out gr.out gmpr.out (by simp only [T_worth] <;> grind)).mono ?_
  rintro e w12 ⟨rfl, hb⟩
  replace HB := onto HB hb
  clear hb
  go_wp2_with fail
  refine (times_to (a := T q) (b := T r) (u := T (q * r)) _ gq.out gr.out gmqr.out (by simp only [T_worth] <;> grind)).mono ?_
  rintro e w13 ⟨rfl, hb⟩
  replace HB := onto HB hb
  clear hb
  go_wp2_with fail
  refine (cmp_to (a := T (p * r)) (b := T (q * r)) (c := -1) _ gmpr.out gmqr.out (by rw [T_worth, T_worth, cmp_mul, K1.out, KS.out]; rfl)).mono ?_
  rintro e w14 ⟨rfl, hb⟩
  replace HB := onto HB hb
  clear hb
  go_wp2
  go_ret
  exact ⟨rfl, HB⟩

set_option maxRecDepth 100000 in
set_option maxHeartbeats 8000000 in
theorem rorder_pz_one {w : World} (x y z : ByteArray) (p q r : Rat) (nx : ∀ w, Calls Tryd.prog 10 #[.string x] w fun e w' => e = .returned (.tuple #[.string (T p), .int .i64 0]) ∧ Below w.heap.size w w') (ny : ∀ w, Calls Tryd.prog 10 #[.string y] w fun e w' => e = .returned (.tuple #[.string (T q), .int .i64 0]) ∧ Below w.heap.size w w') (nz : ∀ w, Calls Tryd.prog 10 #[.string z] w fun e w' => e = .returned (.tuple #[.string (T r), .int .i64 0]) ∧ Below w.heap.size w w') (hp : Size p 160 160) (hq : Size q 160 160) (hr : Size r 160 160) (h1 : x.size ≤ 160) (h2 : y.size ≤ 160) (h3 : z.size ≤ 160) (k1 : cmpQ p q = 1) (ks : cmpQ r 0 = 0) : Calls Tryd.prog 5 #[.string x, .string y, .string z] w (Samed w true) := by
  have sp := hp
  have sq := hq
  have sr := hr
  have spr : Size (p + r) 321 320 := sp.add sr (by decide) (by decide) (by decide)
  have sqr : Size (q + r) 321 320 := sq.add sr (by decide) (by decide) (by decide)
  have smpr : Size (p * r) 320 320 := sp.mul sr (by decide) (by decide)
  have smqr : Size (q * r) 320 320 := sq.mul sr (by decide) (by decide)
  have gp := Lib.hid (sp.T (by decide) (by decide) (by decide))
  have gq := Lib.hid (sq.T (by decide) (by decide) (by decide))
  have gr := Lib.hid (sr.T (by decide) (by decide) (by decide))
  have gpr := Lib.hid (spr.T (by decide) (by decide) (by decide))
  have gqr := Lib.hid (sqr.T (by decide) (by decide) (by decide))
  have gmpr := Lib.hid (smpr.T (by decide) (by decide) (by decide))
  have gmqr := Lib.hid (smqr.T (by decide) (by decide) (by decide))
  clear sp sq sr spr sqr smpr smqr
  clear hp hq hr
  have K1 := Lib.hid k1; clear k1
  have KS := Lib.hid ks; clear ks
  have e0 := Lib.hid nought_worth
  have G0 := Lib.hid nought_good
  have HB := Below.refl w.heap.size w
  have HH := Lib.hid (And.intro h1 h2); clear h1 h2
  have zz : decide ((160 : Int) < (z.size : Int)) = false := decide_eq_false (by omega)
  replace nx := Lib.hid nx
  replace ny := Lib.hid ny
  replace nz := Lib.hid nz
  go_enter Tryd.func5, Tryd.ntmps5
  go_wp2_with fail
  refine (rhead_any _).mono ?_
  rintro e w1 ⟨rfl, hb⟩
  replace HB := onto HB hb
  clear hb
  go_wp2_with fail
  refine (great_no _ HH.out.1 HH.out.2).mono ?_
  rintro e w2 ⟨rfl, hb⟩
  replace HB := onto HB hb
  clear hb
  go_wp2_with fail
  refine (nx.out _).mono ?_
  rintro e w3 ⟨rfl, hb⟩
  replace HB := onto HB hb
  clear hb
  go_wp2_with fail
  refine (ny.out _).mono ?_
  rintro e w4 ⟨rfl, hb⟩
  replace HB := onto HB hb
  clear hb
  go_wp2_with fail
  refine (nz.out _).mono ?_
  rintro e w5 ⟨rfl, hb⟩
  replace HB := onto HB hb
  clear hb
  go_wp2_with fail
  refine (cmp_to (a := T p) (b := T q) (c := 1) _ gp.out gq.out (by rw [T_worth, T_worth]; exact K1.out)).mono ?_
  rintro e w6 ⟨rfl, hb⟩
  replace HB := onto HB hb
  clear hb
  go_wp2_with fail
  refine (cmp_to (a := T r) (b := ⟨#[48]⟩) (c := 0) _ gr.out G0.out (by rw [T_worth, show worth (by0 ⟨#[48]⟩) = 0 from e0.out]; exact KS.out)).mono ?_
  rintro e w7 ⟨rfl, hb⟩
  replace HB := onto HB hb
  clear hb
  go_wp2_with fail
  refine (cmp_to (a := T q) (b := T p) (c := -1) _ gq.out gp.out (by rw [T_worth, T_worth, cmp_swap, K1.out] <;> rfl)).mono ?_
  rintro e w8 ⟨rfl, hb⟩
  replace HB := onto HB hb
  clear hb
  go_wp2_with fail
  refine (plus_to (a := T p) (b := T r) (u := T (p + r)) _ gp.out gr.out gpr.out (by simp only [T_worth] <;> grind)).mono ?_
  rintro e w9 ⟨rfl, hb⟩
  replace HB := onto HB hb
  clear hb
  go_wp2_with fail
  refine (plus_to (a := T q) (b := T r) (u := T (q + r)) _ gq.out gr.out gqr.out (by simp only [T_worth] <;> grind)).mono ?_
  rintro e w10 ⟨rfl, hb⟩
  replace HB := onto HB hb
  clear hb
  go_wp2_with fail
  refine (cmp_to (a := T (p + r)) (b := T (q + r)) (c := 1) _ gpr.out gqr.out (by rw [T_worth, T_worth, cmp_add]; exact K1.out)).mono ?_
  rintro e w11 ⟨rfl, hb⟩
  replace HB := onto HB hb
  clear hb
  go_wp2_with fail
  refine (times_to (a := T p) (b := T r) (u := T (p * r)) _ gp.out gr.out gmpr.out (by simp only [T_worth] <;> grind)).mono ?_
  rintro e w12 ⟨rfl, hb⟩
  replace HB := onto HB hb
  clear hb
  go_wp2_with fail
  refine (times_to (a := T q) (b := T r) (u := T (q * r)) _ gq.out gr.out gmqr.out (by simp only [T_worth] <;> grind)).mono ?_
  rintro e w13 ⟨rfl, hb⟩
  replace HB := onto HB hb
  clear hb
  go_wp2_with fail
  refine (cmp_to (a := T (p * r)) (b := T (q * r)) (c := 0) _ gmpr.out gmqr.out (by rw [T_worth, T_worth, cmp_mul, K1.out, KS.out]; rfl)).mono ?_
  rintro e w14 ⟨rfl, hb⟩
  replace HB := onto HB hb
  clear hb
  go_wp2
  go_ret
  exact ⟨rfl, HB⟩

set_option maxRecDepth 100000 in
set_option maxHeartbeats 8000000 in
theorem rorder_pp_one {w : World} (x y z : ByteArray) (p q r : Rat) (nx : ∀ w, Calls Tryd.prog 10 #[.string x] w fun e w' => e = .returned (.tuple #[.string (T p), .int .i64 0]) ∧ Below w.heap.size w w') (ny : ∀ w, Calls Tryd.prog 10 #[.string y] w fun e w' => e = .returned (.tuple #[.string (T q), .int .i64 0]) ∧ Below w.heap.size w w') (nz : ∀ w, Calls Tryd.prog 10 #[.string z] w fun e w' => e = .returned (.tuple #[.string (T r), .int .i64 0]) ∧ Below w.heap.size w w') (hp : Size p 160 160) (hq : Size q 160 160) (hr : Size r 160 160) (h1 : x.size ≤ 160) (h2 : y.size ≤ 160) (h3 : z.size ≤ 160) (k1 : cmpQ p q = 1) (ks : cmpQ r 0 = 1) : Calls Tryd.prog 5 #[.string x, .string y, .string z] w (Samed w true) := by
  have sp := hp
  have sq := hq
  have sr := hr
  have spr : Size (p + r) 321 320 := sp.add sr (by decide) (by decide) (by decide)
  have sqr : Size (q + r) 321 320 := sq.add sr (by decide) (by decide) (by decide)
  have smpr : Size (p * r) 320 320 := sp.mul sr (by decide) (by decide)
  have smqr : Size (q * r) 320 320 := sq.mul sr (by decide) (by decide)
  have gp := Lib.hid (sp.T (by decide) (by decide) (by decide))
  have gq := Lib.hid (sq.T (by decide) (by decide) (by decide))
  have gr := Lib.hid (sr.T (by decide) (by decide) (by decide))
  have gpr := Lib.hid (spr.T (by decide) (by decide) (by decide))
  have gqr := Lib.hid (sqr.T (by decide) (by decide) (by decide))
  have gmpr := Lib.hid (smpr.T (by decide) (by decide) (by decide))
  have gmqr := Lib.hid (smqr.T (by decide) (by decide) (by decide))
  clear sp sq sr spr sqr smpr smqr
  clear hp hq hr
  have K1 := Lib.hid k1; clear k1
  have KS := Lib.hid ks; clear ks
  have e0 := Lib.hid nought_worth
  have G0 := Lib.hid nought_good
  have HB := Below.refl w.heap.size w
  have HH := Lib.hid (And.intro h1 h2); clear h1 h2
  have zz : decide ((160 : Int) < (z.size : Int)) = false := decide_eq_false (by omega)
  replace nx := Lib.hid nx
  replace ny := Lib.hid ny
  replace nz := Lib.hid nz
  go_enter Tryd.func5, Tryd.ntmps5
  go_wp2_with fail
  refine (rhead_any _).mono ?_
  rintro e w1 ⟨rfl, hb⟩
  replace HB := onto HB hb
  clear hb
  go_wp2_with fail
  refine (great_no _ HH.out.1 HH.out.2).mono ?_
  rintro e w2 ⟨rfl, hb⟩
  replace HB := onto HB hb
  clear hb
  go_wp2_with fail
  refine (nx.out _).mono ?_
  rintro e w3 ⟨rfl, hb⟩
  replace HB := onto HB hb
  clear hb
  go_wp2_with fail
  refine (ny.out _).mono ?_
  rintro e w4 ⟨rfl, hb⟩
  replace HB := onto HB hb
  clear hb
  go_wp2_with fail
  refine (nz.out _).mono ?_
  rintro e w5 ⟨rfl, hb⟩
  replace HB := onto HB hb
  clear hb
  go_wp2_with fail
  refine (cmp_to (a := T p) (b := T q) (c := 1) _ gp.out gq.out (by rw [T_worth, T_worth]; exact K1.out)).mono ?_
  rintro e w6 ⟨rfl, hb⟩
  replace HB := onto HB hb
  clear hb
  go_wp2_with fail
  refine (cmp_to (a := T r) (b := ⟨#[48]⟩) (c := 1) _ gr.out G0.out (by rw [T_worth, show worth (by0 ⟨#[48]⟩) = 0 from e0.out]; exact KS.out)).mono ?_
  rintro e w7 ⟨rfl, hb⟩
  replace HB := onto HB hb
  clear hb
  go_wp2_with fail
  refine (cmp_to (a := T q) (b := T p) (c := -1) _ gq.out gp.out (by rw [T_worth, T_worth, cmp_swap, K1.out] <;> rfl)).mono ?_
  rintro e w8 ⟨rfl, hb⟩
  replace HB := onto HB hb
  clear hb
  go_wp2_with fail
  refine (plus_to (a := T p) (b := T r) (u := T (p + r)) _ gp.out gr.out gpr.out (by simp only [T_worth] <;> grind)).mono ?_
  rintro e w9 ⟨rfl, hb⟩
  replace HB := onto HB hb
  clear hb
  go_wp2_with fail
  refine (plus_to (a := T q) (b := T r) (u := T (q + r)) _ gq.out gr.out gqr.out (by simp only [T_worth] <;> grind)).mono ?_
  rintro e w10 ⟨rfl, hb⟩
  replace HB := onto HB hb
  clear hb
  go_wp2_with fail
  refine (cmp_to (a := T (p + r)) (b := T (q + r)) (c := 1) _ gpr.out gqr.out (by rw [T_worth, T_worth, cmp_add]; exact K1.out)).mono ?_
  rintro e w11 ⟨rfl, hb⟩
  replace HB := onto HB hb
  clear hb
  go_wp2_with fail
  refine (times_to (a := T p) (b := T r) (u := T (p * r)) _ gp.out gr.out gmpr.out (by simp only [T_worth] <;> grind)).mono ?_
  rintro e w12 ⟨rfl, hb⟩
  replace HB := onto HB hb
  clear hb
  go_wp2_with fail
  refine (times_to (a := T q) (b := T r) (u := T (q * r)) _ gq.out gr.out gmqr.out (by simp only [T_worth] <;> grind)).mono ?_
  rintro e w13 ⟨rfl, hb⟩
  replace HB := onto HB hb
  clear hb
  go_wp2_with fail
  refine (cmp_to (a := T (p * r)) (b := T (q * r)) (c := 1) _ gmpr.out gmqr.out (by rw [T_worth, T_worth, cmp_mul, K1.out, KS.out]; rfl)).mono ?_
  rintro e w14 ⟨rfl, hb⟩
  replace HB := onto HB hb
  clear hb
  go_wp2
  go_ret
  exact ⟨rfl, HB⟩

theorem rorder_law {w : World} (x y z : ByteArray) : Calls Tryd.prog 5 #[.string x, .string y, .string z] w (Samed w true) := by
  by_cases h : 160 < x.size ∨ 160 < y.size
  · exact rorder_great x y z h
  · have h1 : x.size ≤ 160 := by omega
    have h2 : y.size ≤ 160 := by omega
    by_cases h3 : 160 < z.size
    · exact rorder_great3 x y z h1 h2 h3
    · have h3 : z.size ≤ 160 := by omega
      obtain ⟨tx, gx, nx, hx⟩ := norm_short h1
      obtain ⟨ty, gy, ny, hy⟩ := norm_short h2
      obtain ⟨tz, gz, nz, hz⟩ := norm_short h3
      rcases hx with ⟨bx, -, -⟩ | ⟨bx, ex, sx, -, -⟩
      · exact rorder_bad0 x y z tx gx ty gy tz gz nx ny nz h1 h2 h3 bx
      · rcases hy with ⟨by1, -, -⟩ | ⟨by1, ey, sy, -, -⟩
        · exact rorder_bad1 x y z tx gx ty gy tz gz nx ny nz h1 h2 h3 bx by1
        · rcases hz with ⟨bz, -, -⟩ | ⟨bz, ez, sz, -, -⟩
          · exact rorder_bad2 x y z tx gx ty gy tz gz nx ny nz h1 h2 h3 bx by1 bz
          · subst bx by1 bz ex ey ez
            have hk := cmp_range (worth (by0 x)) (worth (by0 y))
            have hs := cmp_range (worth (by0 z)) 0
            have h2r := cmp_range (worth (by0 y)) (worth (by0 z))
            by_cases hb : cmpQ (worth (by0 y)) (worth (by0 z)) = 1
            · rcases (by omega : cmpQ (worth (by0 x)) (worth (by0 y)) = -1 ∨ cmpQ (worth (by0 x)) (worth (by0 y)) = 0 ∨ cmpQ (worth (by0 x)) (worth (by0 y)) = 1) with k1 | k1 | k1 <;>
                rcases (by omega : cmpQ (worth (by0 z)) 0 = -1 ∨ cmpQ (worth (by0 z)) 0 = 0 ∨ cmpQ (worth (by0 z)) 0 = 1) with ks | ks | ks
              · exact rorder_mm_bc x y z _ _ _ nx ny nz sx sy sz h1 h2 h3 k1 ks hb
              · exact rorder_mz_bc x y z _ _ _ nx ny nz sx sy sz h1 h2 h3 k1 ks hb
              · exact rorder_mp_bc x y z _ _ _ nx ny nz sx sy sz h1 h2 h3 k1 ks hb
              · exact rorder_zm_bc x y z _ _ _ nx ny nz sx sy sz h1 h2 h3 k1 ks hb
              · exact rorder_zz_bc x y z _ _ _ nx ny nz sx sy sz h1 h2 h3 k1 ks hb
              · exact rorder_zp_bc x y z _ _ _ nx ny nz sx sy sz h1 h2 h3 k1 ks hb
              · exact rorder_pm_one x y z _ _ _ nx ny nz sx sy sz h1 h2 h3 k1 ks
              · exact rorder_pz_one x y z _ _ _ nx ny nz sx sy sz h1 h2 h3 k1 ks
              · exact rorder_pp_one x y z _ _ _ nx ny nz sx sy sz h1 h2 h3 k1 ks
            · have z2 : decide ((0 : Int) < cmpQ (worth (by0 y)) (worth (by0 z))) = false := decide_eq_false (by omega)
              have htr : cmpQ (worth (by0 x)) (worth (by0 y)) ≤ 0 → decide (cmpQ (worth (by0 x)) (worth (by0 z)) ≤ 0) = true := fun h => decide_eq_true (cmp_trans h (by omega))
              rcases (by omega : cmpQ (worth (by0 x)) (worth (by0 y)) = -1 ∨ cmpQ (worth (by0 x)) (worth (by0 y)) = 0 ∨ cmpQ (worth (by0 x)) (worth (by0 y)) = 1) with k1 | k1 | k1 <;>
                rcases (by omega : cmpQ (worth (by0 z)) 0 = -1 ∨ cmpQ (worth (by0 z)) 0 = 0 ∨ cmpQ (worth (by0 z)) 0 = 1) with ks | ks | ks
              · exact rorder_mm_ac x y z _ _ _ nx ny nz sx sy sz h1 h2 h3 k1 ks _ _ rfl rfl z2 (htr (by omega))
              · exact rorder_mz_ac x y z _ _ _ nx ny nz sx sy sz h1 h2 h3 k1 ks _ _ rfl rfl z2 (htr (by omega))
              · exact rorder_mp_ac x y z _ _ _ nx ny nz sx sy sz h1 h2 h3 k1 ks _ _ rfl rfl z2 (htr (by omega))
              · exact rorder_zm_ac x y z _ _ _ nx ny nz sx sy sz h1 h2 h3 k1 ks _ _ rfl rfl z2 (htr (by omega))
              · exact rorder_zz_ac x y z _ _ _ nx ny nz sx sy sz h1 h2 h3 k1 ks _ _ rfl rfl z2 (htr (by omega))
              · exact rorder_zp_ac x y z _ _ _ nx ny nz sx sy sz h1 h2 h3 k1 ks _ _ rfl rfl z2 (htr (by omega))
              · exact rorder_pm_one x y z _ _ _ nx ny nz sx sy sz h1 h2 h3 k1 ks
              · exact rorder_pz_one x y z _ _ _ nx ny nz sx sy sz h1 h2 h3 k1 ks
              · exact rorder_pp_one x y z _ _ _ nx ny nz sx sy sz h1 h2 h3 k1 ks

end Go.Proofs.YtepacminjfeliaaDoor
