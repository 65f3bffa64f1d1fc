/-
  RatText: the law's body answers true of any two texts.
-/
import Derived.Test.YtepacminjfeliaaDoorBody3
namespace Go.Proofs.YtepacminjfeliaaDoor
open Go.RowKit

theorem cmp_zero {x y : Rat} : cmpQ x y = 0 ↔ x = y := by
  unfold cmpQ
  by_cases h1 : x < y
  · rw [if_pos h1]; exact ⟨fun h => absurd h (by decide), fun h => absurd h1 (by rw [h]; exact Rat.lt_irrefl)⟩
  · by_cases h2 : y < x
    · rw [if_neg h1, if_pos h2]; exact ⟨fun h => absurd h (by decide), fun h => absurd h2 (by rw [h]; exact Rat.lt_irrefl)⟩
    · rw [if_neg h1, if_neg h2]; exact ⟨fun _ => Rat.le_antisymm (Rat.not_lt.1 h2) (Rat.not_lt.1 h1), fun _ => rfl⟩

theorem cmp_range2 (x y : Rat) : -1 ≤ cmpQ x y ∧ cmpQ x y ≤ 1 := by unfold cmpQ; split <;> (try split) <;> omega

theorem T_same (p q : Rat) : ((T p).toList == (T q).toList) = decide (p = q) := by
  by_cases h : p = q
  · rw [decide_eq_true h, h]; exact beq_self_eq_true _
  · rw [decide_eq_false h, beq_eq_false_iff_ne]
    intro e
    rw [toList_by0, toList_by0] at e
    exact h (T_inj (bytes_eq e))

theorem T_right {s : ByteArray} (hs : s.size ≤ 160) : ((T (worth (by0 s))).toList == s.toList) = decide (Good (by0 s)) := by
  by_cases h : Good (by0 s)
  · rw [decide_eq_true h, T_eq h]; exact beq_self_eq_true _
  · rw [decide_eq_false h, beq_eq_false_iff_ne]
    intro e
    rw [toList_by0, toList_by0, T_by0] at e
    exact h ⟨by rw [by0_len]; omega, e⟩

set_option maxRecDepth 100000 in
set_option maxHeartbeats 8000000 in
theorem rtext_great {w : World} (x y : ByteArray) (h : 160 < x.size ∨ 160 < y.size) : Calls Tryd.prog 4 #[.string x, .string y] w (Samed w true) := by
  have HB := Below.refl w.heap.size w
  have HH := Lib.hid h; clear h
  go_enter Tryd.func4, Tryd.ntmps4
  go_wp2_with fail
  refine (rhead_any _).mono ?_
  rintro e w1 ⟨rfl, hb⟩
  replace HB := onto HB hb
  clear hb
  go_wp2_with fail
  refine (great_yes _ HH.out).mono ?_
  rintro e w2 ⟨rfl, hb⟩
  replace HB := onto HB hb
  clear hb
  go_wp2
  go_ret
  exact ⟨rfl, HB⟩

set_option maxRecDepth 100000 in
set_option maxHeartbeats 8000000 in
theorem rtext_bad0_12 {w : World} (x y : ByteArray) (ty : ByteArray) (gy : Int) (nx : ∀ w, Calls Tryd.prog 10 #[.string x] w fun e w' => e = .returned (.tuple #[.string ⟨#[]⟩, .int .i64 12]) ∧ Below w.heap.size w w') (ny : ∀ w, Calls Tryd.prog 10 #[.string y] w fun e w' => e = .returned (.tuple #[.string ty, .int .i64 gy]) ∧ Below w.heap.size w w') (hg : ¬ Good (by0 x)) (h1 : x.size ≤ 160) (h2 : y.size ≤ 160) : Calls Tryd.prog 4 #[.string x, .string y] w (Samed w true) := by
  have HX := Lib.hid (right_to x · (show x.size ≤ 1000000 by omega) (b := false) (decide_eq_false hg))
  clear hg
  have HB := Below.refl w.heap.size w
  have HH := Lib.hid (And.intro h1 h2); clear h1 h2
  replace nx := Lib.hid nx
  replace ny := Lib.hid ny
  go_enter Tryd.func4, Tryd.ntmps4
  go_wp2_with fail
  refine (rhead_any _).mono ?_
  rintro e w1 ⟨rfl, hb⟩
  replace HB := onto HB hb
  clear hb
  go_wp2_with fail
  refine (great_no _ HH.out.1 HH.out.2).mono ?_
  rintro e w2 ⟨rfl, hb⟩
  replace HB := onto HB hb
  clear hb
  go_wp2_with fail
  refine (nx.out _).mono ?_
  rintro e w3 ⟨rfl, hb⟩
  replace HB := onto HB hb
  clear hb
  go_wp2_with fail
  refine (ny.out _).mono ?_
  rintro e w4 ⟨rfl, hb⟩
  replace HB := onto HB hb
  clear hb
  go_wp2_with fail
  refine (HX.out _).mono ?_
  rintro e w5 ⟨rfl, hb⟩
  replace HB := onto HB hb
  clear hb
  go_wp2
  go_ret
  exact ⟨rfl, HB⟩

set_option maxRecDepth 100000 in
set_option maxHeartbeats 8000000 in
theorem rtext_bad0_21 {w : World} (x y : ByteArray) (ty : ByteArray) (gy : Int) (nx : ∀ w, Calls Tryd.prog 10 #[.string x] w fun e w' => e = .returned (.tuple #[.string ⟨#[]⟩, .int .i64 21]) ∧ Below w.heap.size w w') (ny : ∀ w, Calls Tryd.prog 10 #[.string y] w fun e w' => e = .returned (.tuple #[.string ty, .int .i64 gy]) ∧ Below w.heap.size w w') (hg : ¬ Good (by0 x)) (h1 : x.size ≤ 160) (h2 : y.size ≤ 160) : Calls Tryd.prog 4 #[.string x, .string y] w (Samed w true) := by
  have HX := Lib.hid (right_to x · (show x.size ≤ 1000000 by omega) (b := false) (decide_eq_false hg))
  clear hg
  have HB := Below.refl w.heap.size w
  have HH := Lib.hid (And.intro h1 h2); clear h1 h2
  replace nx := Lib.hid nx
  replace ny := Lib.hid ny
  go_enter Tryd.func4, Tryd.ntmps4
  go_wp2_with fail
  refine (rhead_any _).mono ?_
  rintro e w1 ⟨rfl, hb⟩
  replace HB := onto HB hb
  clear hb
  go_wp2_with fail
  refine (great_no _ HH.out.1 HH.out.2).mono ?_
  rintro e w2 ⟨rfl, hb⟩
  replace HB := onto HB hb
  clear hb
  go_wp2_with fail
  refine (nx.out _).mono ?_
  rintro e w3 ⟨rfl, hb⟩
  replace HB := onto HB hb
  clear hb
  go_wp2_with fail
  refine (ny.out _).mono ?_
  rintro e w4 ⟨rfl, hb⟩
  replace HB := onto HB hb
  clear hb
  go_wp2_with fail
  refine (HX.out _).mono ?_
  rintro e w5 ⟨rfl, hb⟩
  replace HB := onto HB hb
  clear hb
  go_wp2
  go_ret
  exact ⟨rfl, HB⟩

set_option maxRecDepth 100000 in
set_option maxHeartbeats 8000000 in
theorem rtext_bad1_t_12 {w : World} (x y : ByteArray) (ty : ByteArray) (p : Rat) (nx : ∀ w, Calls Tryd.prog 10 #[.string x] w fun e w' => e = .returned (.tuple #[.string (T p), .int .i64 0]) ∧ Below w.heap.size w w') (ny : ∀ w, Calls Tryd.prog 10 #[.string y] w fun e w' => e = .returned (.tuple #[.string ty, .int .i64 12]) ∧ Below w.heap.size w w') (hr : ∀ w, Calls Tryd.prog 16 #[.string x] w fun e w' => e = .returned (.bool true) ∧ Below w.heap.size w w') (hx : ((T p).toList == x.toList) = true) (h1 : x.size ≤ 160) (h2 : y.size ≤ 160) : Calls Tryd.prog 4 #[.string x, .string y] w (Samed w true) := by
  have HX := Lib.hid hr
  clear hr
  have HB := Below.refl w.heap.size w
  have HH := Lib.hid (And.intro h1 h2); clear h1 h2
  replace nx := Lib.hid nx
  replace ny := Lib.hid ny
  go_enter Tryd.func4, Tryd.ntmps4
  go_wp2_with fail
  refine (rhead_any _).mono ?_
  rintro e w1 ⟨rfl, hb⟩
  replace HB := onto HB hb
  clear hb
  go_wp2_with fail
  refine (great_no _ HH.out.1 HH.out.2).mono ?_
  rintro e w2 ⟨rfl, hb⟩
  replace HB := onto HB hb
  clear hb
  go_wp2_with fail
  refine (nx.out _).mono ?_
  rintro e w3 ⟨rfl, hb⟩
  replace HB := onto HB hb
  clear hb
  go_wp2_with fail
  refine (ny.out _).mono ?_
  rintro e w4 ⟨rfl, hb⟩
  replace HB := onto HB hb
  clear hb
  go_wp2_with fail
  refine (HX.out _).mono ?_
  rintro e w5 ⟨rfl, hb⟩
  replace HB := onto HB hb
  clear hb
  go_wp2
  go_ret
  exact ⟨rfl, HB⟩

set_option maxRecDepth 100000 in
set_option maxHeartbeats 8000000 in
theorem rtext_bad1_t_21 {w : World} (x y : ByteArray) (ty : ByteArray) (p : Rat) (nx : ∀ w, Calls Tryd.prog 10 #[.string x] w fun e w' => e = .returned (.tuple #[.string (T p), .int .i64 0]) ∧ Below w.heap.size w w') (ny : ∀ w, Calls Tryd.prog 10 #[.string y] w fun e w' => e = .returned (.tuple #[.string ty, .int .i64 21]) ∧ Below w.heap.size w w') (hr : ∀ w, Calls Tryd.prog 16 #[.string x] w fun e w' => e = .returned (.bool true) ∧ Below w.heap.size w w') (hx : ((T p).toList == x.toList) = true) (h1 : x.size ≤ 160) (h2 : y.size ≤ 160) : Calls Tryd.prog 4 #[.string x, .string y] w (Samed w true) := by
  have HX := Lib.hid hr
  clear hr
  have HB := Below.refl w.heap.size w
  have HH := Lib.hid (And.intro h1 h2); clear h1 h2
  replace nx := Lib.hid nx
  replace ny := Lib.hid ny
  go_enter Tryd.func4, Tryd.ntmps4
  go_wp2_with fail
  refine (rhead_any _).mono ?_
  rintro e w1 ⟨rfl, hb⟩
  replace HB := onto HB hb
  clear hb
  go_wp2_with fail
  refine (great_no _ HH.out.1 HH.out.2).mono ?_
  rintro e w2 ⟨rfl, hb⟩
  replace HB := onto HB hb
  clear hb
  go_wp2_with fail
  refine (nx.out _).mono ?_
  rintro e w3 ⟨rfl, hb⟩
  replace HB := onto HB hb
  clear hb
  go_wp2_with fail
  refine (ny.out _).mono ?_
  rintro e w4 ⟨rfl, hb⟩
  replace HB := onto HB hb
  clear hb
  go_wp2_with fail
  refine (HX.out _).mono ?_
  rintro e w5 ⟨rfl, hb⟩
  replace HB := onto HB hb
  clear hb
  go_wp2
  go_ret
  exact ⟨rfl, HB⟩

set_option maxRecDepth 100000 in
set_option maxHeartbeats 8000000 in
theorem rtext_bad1_f_12 {w : World} (x y : ByteArray) (ty : ByteArray) (p : Rat) (nx : ∀ w, Calls Tryd.prog 10 #[.string x] w fun e w' => e = .returned (.tuple #[.string (T p), .int .i64 0]) ∧ Below w.heap.size w w') (ny : ∀ w, Calls Tryd.prog 10 #[.string y] w fun e w' => e = .returned (.tuple #[.string ty, .int .i64 12]) ∧ Below w.heap.size w w') (hr : ∀ w, Calls Tryd.prog 16 #[.string x] w fun e w' => e = .returned (.bool false) ∧ Below w.heap.size w w') (hx : ((T p).toList == x.toList) = false) (h1 : x.size ≤ 160) (h2 : y.size ≤ 160) : Calls Tryd.prog 4 #[.string x, .string y] w (Samed w true) := by
  have HX := Lib.hid hr
  clear hr
  have HB := Below.refl w.heap.size w
  have HH := Lib.hid (And.intro h1 h2); clear h1 h2
  replace nx := Lib.hid nx
  replace ny := Lib.hid ny
  go_enter Tryd.func4, Tryd.ntmps4
  go_wp2_with fail
  refine (rhead_any _).mono ?_
  rintro e w1 ⟨rfl, hb⟩
  replace HB := onto HB hb
  clear hb
  go_wp2_with fail
  refine (great_no _ HH.out.1 HH.out.2).mono ?_
  rintro e w2 ⟨rfl, hb⟩
  replace HB := onto HB hb
  clear hb
  go_wp2_with fail
  refine (nx.out _).mono ?_
  rintro e w3 ⟨rfl, hb⟩
  replace HB := onto HB hb
  clear hb
  go_wp2_with fail
  refine (ny.out _).mono ?_
  rintro e w4 ⟨rfl, hb⟩
  replace HB := onto HB hb
  clear hb
  go_wp2_with fail
  refine (HX.out _).mono ?_
  rintro e w5 ⟨rfl, hb⟩
  replace HB := onto HB hb
  clear hb
  go_wp2
  go_ret
  exact ⟨rfl, HB⟩

set_option maxRecDepth 100000 in
set_option maxHeartbeats 8000000 in
theorem rtext_bad1_f_21 {w : World} (x y : ByteArray) (ty : ByteArray) (p : Rat) (nx : ∀ w, Calls Tryd.prog 10 #[.string x] w fun e w' => e = .returned (.tuple #[.string (T p), .int .i64 0]) ∧ Below w.heap.size w w') (ny : ∀ w, Calls Tryd.prog 10 #[.string y] w fun e w' => e = .returned (.tuple #[.string ty, .int .i64 21]) ∧ Below w.heap.size w w') (hr : ∀ w, Calls Tryd.prog 16 #[.string x] w fun e w' => e = .returned (.bool false) ∧ Below w.heap.size w w') (hx : ((T p).toList == x.toList) = false) (h1 : x.size ≤ 160) (h2 : y.size ≤ 160) : Calls Tryd.prog 4 #[.string x, .string y] w (Samed w true) := by
  have HX := Lib.hid hr
  clear hr
  have HB := Below.refl w.heap.size w
  have HH := Lib.hid (And.intro h1 h2); clear h1 h2
  replace nx := Lib.hid nx
  replace ny := Lib.hid ny
  go_enter Tryd.func4, Tryd.ntmps4
  go_wp2_with fail
  refine (rhead_any _).mono ?_
  rintro e w1 ⟨rfl, hb⟩
  replace HB := onto HB hb
  clear hb
  go_wp2_with fail
  refine (great_no _ HH.out.1 HH.out.2).mono ?_
  rintro e w2 ⟨rfl, hb⟩
  replace HB := onto HB hb
  clear hb
  go_wp2_with fail
  refine (nx.out _).mono ?_
  rintro e w3 ⟨rfl, hb⟩
  replace HB := onto HB hb
  clear hb
  go_wp2_with fail
  refine (ny.out _).mono ?_
  rintro e w4 ⟨rfl, hb⟩
  replace HB := onto HB hb
  clear hb
  go_wp2_with fail
  refine (HX.out _).mono ?_
  rintro e w5 ⟨rfl, hb⟩
  replace HB := onto HB hb
  clear hb
  go_wp2
  go_ret
  exact ⟨rfl, HB⟩

set_option maxRecDepth 100000 in
set_option maxHeartbeats 8000000 in
theorem rtext_eq_t {w : World} (x y : ByteArray) (p q : Rat) (nx : ∀ w, Calls Tryd.prog 10 #[.string x] w fun e w' => e = .returned (.tuple #[.string (T p), .int .i64 0]) ∧ Below w.heap.size w w') (ny : ∀ w, Calls Tryd.prog 10 #[.string y] w fun e w' => e = .returned (.tuple #[.string (T q), .int .i64 0]) ∧ Below w.heap.size w w') (hp : Size p 160 160) (hq : Size q 160 160) (h0 : p = q) (hr : ∀ w, Calls Tryd.prog 16 #[.string x] w fun e w' => e = .returned (.bool true) ∧ Below w.heap.size w w') (hx : ((T p).toList == x.toList) = true) (h1 : x.size ≤ 160) (h2 : y.size ≤ 160) : Calls Tryd.prog 4 #[.string x, .string y] w (Samed w true) := by
  have hl := Lib.hid (show (T p).size ≤ 900 by have := hp.text (by decide) (by decide); rw [← by0_len, T_by0]; omega)
  have sp := hp
  have sq := hq
  have sd : Size (p - q) 321 320 := sp.sub sq (by decide) (by decide) (by decide)
  have sm : Size (p * q) 320 320 := sp.mul sq (by decide) (by decide)
  have gp := Lib.hid (sp.T (by decide) (by decide) (by decide))
  have gq := Lib.hid (sq.T (by decide) (by decide) (by decide))
  have gd := Lib.hid (sd.T (by decide) (by decide) (by decide))
  have gm := Lib.hid (sm.T (by decide) (by decide) (by decide))
  clear sp sq sd sm
  clear hp hq
  have HX := Lib.hid hr
  clear hr
  have G0 := Lib.hid nought_good
  have e0 := Lib.hid nought_worth
  have hpq := T_same p q
  rw [decide_eq_true h0] at hpq
  have HC := Lib.hid (cmp_zero.2 h0)
  have H0 := Lib.hid h0
  clear h0
  have HB := Below.refl w.heap.size w
  have HH := Lib.hid (And.intro h1 h2); clear h1 h2
  replace nx := Lib.hid nx
  replace ny := Lib.hid ny
  go_enter Tryd.func4, Tryd.ntmps4
  go_wp2_with fail
  refine (rhead_any _).mono ?_
  rintro e w1 ⟨rfl, hb⟩
  replace HB := onto HB hb
  clear hb
  go_wp2_with fail
  refine (great_no _ HH.out.1 HH.out.2).mono ?_
  rintro e w2 ⟨rfl, hb⟩
  replace HB := onto HB hb
  clear hb
  go_wp2_with fail
  refine (nx.out _).mono ?_
  rintro e w3 ⟨rfl, hb⟩
  replace HB := onto HB hb
  clear hb
  go_wp2_with fail
  refine (ny.out _).mono ?_
  rintro e w4 ⟨rfl, hb⟩
  replace HB := onto HB hb
  clear hb
  go_wp2_with fail
  refine (HX.out _).mono ?_
  rintro e w5 ⟨rfl, hb⟩
  replace HB := onto HB hb
  clear hb
  go_wp2_with fail
  refine (norm_to (a := T p) (u := T p) _ gp.out.formed hl.out gp.out.den gp.out rfl).mono ?_
  rintro e w6 ⟨rfl, hb⟩
  replace HB := onto HB hb
  clear hb
  go_wp2_with fail
  refine (sub_to (a := T p) (b := T q) (u := ⟨#[48]⟩) _ gp.out gq.out G0.out (by rw [T_worth, T_worth, H0.out]; refine Eq.trans ?_ e0.out.symm; grind)).mono ?_
  rintro e w7 ⟨rfl, hb⟩
  replace HB := onto HB hb
  clear hb
  go_wp2_with fail
  refine (right_to (T p) _ gp.out.short (b := true) (decide_eq_true gp.out)).mono ?_
  rintro e w8 ⟨rfl, hb⟩
  replace HB := onto HB hb
  clear hb
  go_wp2_with fail
  refine (cmp_to (a := T p) (b := T q) (c := 0) _ gp.out gq.out (by rw [T_worth, T_worth]; exact HC.out)).mono ?_
  rintro e w9 ⟨rfl, hb⟩
  replace HB := onto HB hb
  clear hb
  go_wp2_with fail
  refine (right_to ⟨#[48]⟩ _ G0.out.short (b := true) (decide_eq_true G0.out)).mono ?_
  rintro e w10 ⟨rfl, hb⟩
  replace HB := onto HB hb
  clear hb
  go_wp2_with fail
  refine (times_to (a := T p) (b := T q) (u := T (p * q)) _ gp.out gq.out gm.out (by simp only [T_worth])).mono ?_
  rintro e w11 ⟨rfl, hb⟩
  replace HB := onto HB hb
  clear hb
  go_wp2_with fail
  refine (right_to (T (p * q)) _ gm.out.short (b := true) (decide_eq_true gm.out)).mono ?_
  rintro e w12 ⟨rfl, hb⟩
  replace HB := onto HB hb
  clear hb
  go_wp2
  go_ret
  exact ⟨rfl, HB⟩

set_option maxRecDepth 100000 in
set_option maxHeartbeats 8000000 in
theorem rtext_eq_f {w : World} (x y : ByteArray) (p q : Rat) (nx : ∀ w, Calls Tryd.prog 10 #[.string x] w fun e w' => e = .returned (.tuple #[.string (T p), .int .i64 0]) ∧ Below w.heap.size w w') (ny : ∀ w, Calls Tryd.prog 10 #[.string y] w fun e w' => e = .returned (.tuple #[.string (T q), .int .i64 0]) ∧ Below w.heap.size w w') (hp : Size p 160 160) (hq : Size q 160 160) (h0 : p = q) (hr : ∀ w, Calls Tryd.prog 16 #[.string x] w fun e w' => e = .returned (.bool false) ∧ Below w.heap.size w w') (hx : ((T p).toList == x.toList) = false) (h1 : x.size ≤ 160) (h2 : y.size ≤ 160) : Calls Tryd.prog 4 #[.string x, .string y] w (Samed w true) := by
  have hl := Lib.hid (show (T p).size ≤ 900 by have := hp.text (by decide) (by decide); rw [← by0_len, T_by0]; omega)
  have sp := hp
  have sq := hq
  have sd : Size (p - q) 321 320 := sp.sub sq (by decide) (by decide) (by decide)
  have sm : Size (p * q) 320 320 := sp.mul sq (by decide) (by decide)
  have gp := Lib.hid (sp.T (by decide) (by decide) (by decide))
  have gq := Lib.hid (sq.T (by decide) (by decide) (by decide))
  have gd := Lib.hid (sd.T (by decide) (by decide) (by decide))
  have gm := Lib.hid (sm.T (by decide) (by decide) (by decide))
  clear sp sq sd sm
  clear hp hq
  have HX := Lib.hid hr
  clear hr
  have G0 := Lib.hid nought_good
  have e0 := Lib.hid nought_worth
  have hpq := T_same p q
  rw [decide_eq_true h0] at hpq
  have HC := Lib.hid (cmp_zero.2 h0)
  have H0 := Lib.hid h0
  clear h0
  have HB := Below.refl w.heap.size w
  have HH := Lib.hid (And.intro h1 h2); clear h1 h2
  replace nx := Lib.hid nx
  replace ny := Lib.hid ny
  go_enter Tryd.func4, Tryd.ntmps4
  go_wp2_with fail
  refine (rhead_any _).mono ?_
  rintro e w1 ⟨rfl, hb⟩
  replace HB := onto HB hb
  clear hb
  go_wp2_with fail
  refine (great_no _ HH.out.1 HH.out.2).mono ?_
  rintro e w2 ⟨rfl, hb⟩
  replace HB := onto HB hb
  clear hb
  go_wp2_with fail
  refine (nx.out _).mono ?_
  rintro e w3 ⟨rfl, hb⟩
  replace HB := onto HB hb
  clear hb
  go_wp2_with fail
  refine (ny.out _).mono ?_
  rintro e w4 ⟨rfl, hb⟩
  replace HB := onto HB hb
  clear hb
  go_wp2_with fail
  refine (HX.out _).mono ?_
  rintro e w5 ⟨rfl, hb⟩
  replace HB := onto HB hb
  clear hb
  go_wp2_with fail
  refine (norm_to (a := T p) (u := T p) _ gp.out.formed hl.out gp.out.den gp.out rfl).mono ?_
  rintro e w6 ⟨rfl, hb⟩
  replace HB := onto HB hb
  clear hb
  go_wp2_with fail
  refine (sub_to (a := T p) (b := T q) (u := ⟨#[48]⟩) _ gp.out gq.out G0.out (by rw [T_worth, T_worth, H0.out]; refine Eq.trans ?_ e0.out.symm; grind)).mono ?_
  rintro e w7 ⟨rfl, hb⟩
  replace HB := onto HB hb
  clear hb
  go_wp2_with fail
  refine (right_to (T p) _ gp.out.short (b := true) (decide_eq_true gp.out)).mono ?_
  rintro e w8 ⟨rfl, hb⟩
  replace HB := onto HB hb
  clear hb
  go_wp2_with fail
  refine (cmp_to (a := T p) (b := T q) (c := 0) _ gp.out gq.out (by rw [T_worth, T_worth]; exact HC.out)).mono ?_
  rintro e w9 ⟨rfl, hb⟩
  replace HB := onto HB hb
  clear hb
  go_wp2_with fail
  refine (right_to ⟨#[48]⟩ _ G0.out.short (b := true) (decide_eq_true G0.out)).mono ?_
  rintro e w10 ⟨rfl, hb⟩
  replace HB := onto HB hb
  clear hb
  go_wp2_with fail
  refine (times_to (a := T p) (b := T q) (u := T (p * q)) _ gp.out gq.out gm.out (by simp only [T_worth])).mono ?_
  rintro e w11 ⟨rfl, hb⟩
  replace HB := onto HB hb
  clear hb
  go_wp2_with fail
  refine (right_to (T (p * q)) _ gm.out.short (b := true) (decide_eq_true gm.out)).mono ?_
  rintro e w12 ⟨rfl, hb⟩
  replace HB := onto HB hb
  clear hb
  go_wp2
  go_ret
  exact ⟨rfl, HB⟩

set_option maxRecDepth 100000 in
set_option maxHeartbeats 8000000 in
theorem rtext_nm_t {w : World} (x y : ByteArray) (p q : Rat) (nx : ∀ w, Calls Tryd.prog 10 #[.string x] w fun e w' => e = .returned (.tuple #[.string (T p), .int .i64 0]) ∧ Below w.heap.size w w') (ny : ∀ w, Calls Tryd.prog 10 #[.string y] w fun e w' => e = .returned (.tuple #[.string (T q), .int .i64 0]) ∧ Below w.heap.size w w') (hp : Size p 160 160) (hq : Size q 160 160) (h0 : p ≠ q) (hc : cmpQ p q = -1) (hr : ∀ w, Calls Tryd.prog 16 #[.string x] w fun e w' => e = .returned (.bool true) ∧ Below w.heap.size w w') (hx : ((T p).toList == x.toList) = true) (h1 : x.size ≤ 160) (h2 : y.size ≤ 160) : Calls Tryd.prog 4 #[.string x, .string y] w (Samed w true) := by
  have hl := Lib.hid (show (T p).size ≤ 900 by have := hp.text (by decide) (by decide); rw [← by0_len, T_by0]; omega)
  have sp := hp
  have sq := hq
  have sd : Size (p - q) 321 320 := sp.sub sq (by decide) (by decide) (by decide)
  have sm : Size (p * q) 320 320 := sp.mul sq (by decide) (by decide)
  have gp := Lib.hid (sp.T (by decide) (by decide) (by decide))
  have gq := Lib.hid (sq.T (by decide) (by decide) (by decide))
  have gd := Lib.hid (sd.T (by decide) (by decide) (by decide))
  have gm := Lib.hid (sm.T (by decide) (by decide) (by decide))
  clear sp sq sd sm
  clear hp hq
  have HX := Lib.hid hr
  clear hr
  have G0 := Lib.hid nought_good
  have e0 := Lib.hid nought_worth
  have hpq := T_same p q
  rw [decide_eq_false h0] at hpq
  have HC := Lib.hid hc; clear hc
  have hd := T_nought (p - q)
  rw [decide_eq_false (fun e => h0 (by grind))] at hd
  clear h0
  have HB := Below.refl w.heap.size w
  have HH := Lib.hid (And.intro h1 h2); clear h1 h2
  replace nx := Lib.hid nx
  replace ny := Lib.hid ny
  go_enter Tryd.func4, Tryd.ntmps4
  go_wp2_with fail
  refine (rhead_any _).mono ?_
  rintro e w1 ⟨rfl, hb⟩
  replace HB := onto HB hb
  clear hb
  go_wp2_with fail
  refine (great_no _ HH.out.1 HH.out.2).mono ?_
  rintro e w2 ⟨rfl, hb⟩
  replace HB := onto HB hb
  clear hb
  go_wp2_with fail
  refine (nx.out _).mono ?_
  rintro e w3 ⟨rfl, hb⟩
  replace HB := onto HB hb
  clear hb
  go_wp2_with fail
  refine (ny.out _).mono ?_
  rintro e w4 ⟨rfl, hb⟩
  replace HB := onto HB hb
  clear hb
  go_wp2_with fail
  refine (HX.out _).mono ?_
  rintro e w5 ⟨rfl, hb⟩
  replace HB := onto HB hb
  clear hb
  go_wp2_with fail
  refine (norm_to (a := T p) (u := T p) _ gp.out.formed hl.out gp.out.den gp.out rfl).mono ?_
  rintro e w6 ⟨rfl, hb⟩
  replace HB := onto HB hb
  clear hb
  go_wp2_with fail
  refine (sub_to (a := T p) (b := T q) (u := T (p - q)) _ gp.out gq.out gd.out (by simp only [T_worth])).mono ?_
  rintro e w7 ⟨rfl, hb⟩
  replace HB := onto HB hb
  clear hb
  go_wp2_with fail
  refine (right_to (T p) _ gp.out.short (b := true) (decide_eq_true gp.out)).mono ?_
  rintro e w8 ⟨rfl, hb⟩
  replace HB := onto HB hb
  clear hb
  go_wp2_with fail
  refine (cmp_to (a := T p) (b := T q) (c := -1) _ gp.out gq.out (by rw [T_worth, T_worth]; exact HC.out)).mono ?_
  rintro e w9 ⟨rfl, hb⟩
  replace HB := onto HB hb
  clear hb
  go_wp2_with fail
  refine (right_to (T (p - q)) _ gd.out.short (b := true) (decide_eq_true gd.out)).mono ?_
  rintro e w10 ⟨rfl, hb⟩
  replace HB := onto HB hb
  clear hb
  go_wp2_with fail
  refine (times_to (a := T p) (b := T q) (u := T (p * q)) _ gp.out gq.out gm.out (by simp only [T_worth])).mono ?_
  rintro e w11 ⟨rfl, hb⟩
  replace HB := onto HB hb
  clear hb
  go_wp2_with fail
  refine (right_to (T (p * q)) _ gm.out.short (b := true) (decide_eq_true gm.out)).mono ?_
  rintro e w12 ⟨rfl, hb⟩
  replace HB := onto HB hb
  clear hb
  go_wp2
  go_ret
  exact ⟨rfl, HB⟩

set_option maxRecDepth 100000 in
set_option maxHeartbeats 8000000 in
theorem rtext_nm_f {w : World} (x y : ByteArray) (p q : Rat) (nx : ∀ w, Calls Tryd.prog 10 #[.string x] w fun e w' => e = .returned (.tuple #[.string (T p), .int .i64 0]) ∧ Below w.heap.size w w') (ny : ∀ w, Calls Tryd.prog 10 #[.string y] w fun e w' => e = .returned (.tuple #[.string (T q), .int .i64 0]) ∧ Below w.heap.size w w') (hp : Size p 160 160) (hq : Size q 160 160) (h0 : p ≠ q) (hc : cmpQ p q = -1) (hr : ∀ w, Calls Tryd.prog 16 #[.string x] w fun e w' => e = .returned (.bool false) ∧ Below w.heap.size w w') (hx : ((T p).toList == x.toList) = false) (h1 : x.size ≤ 160) (h2 : y.size ≤ 160) : Calls Tryd.prog 4 #[.string x, .string y] w (Samed w true) := by
  have hl := Lib.hid (show (T p).size ≤ 900 by have := hp.text (by decide) (by decide); rw [← by0_len, T_by0]; omega)
  have sp := hp
  have sq := hq
  have sd : Size (p - q) 321 320 := sp.sub sq (by decide) (by decide) (by decide)
  have sm : Size (p * q) 320 320 := sp.mul sq (by decide) (by decide)
  have gp := Lib.hid (sp.T (by decide) (by decide) (by decide))
  have gq := Lib.hid (sq.T (by decide) (by decide) (by decide))
  have gd := Lib.hid (sd.T (by decide) (by decide) (by decide))
  have gm := Lib.hid (sm.T (by decide) (by decide) (by decide))
  clear sp sq sd sm
  clear hp hq
  have HX := Lib.hid hr
  clear hr
  have G0 := Lib.hid nought_good
  have e0 := Lib.hid nought_worth
  have hpq := T_same p q
  rw [decide_eq_false h0] at hpq
  have HC := Lib.hid hc; clear hc
  have hd := T_nought (p - q)
  rw [decide_eq_false (fun e => h0 (by grind))] at hd
  clear h0
  have HB := Below.refl w.heap.size w
  have HH := Lib.hid (And.intro h1 h2); clear h1 h2
  replace nx := Lib.hid nx
  replace ny := Lib.hid ny
  go_enter Tryd.func4, Tryd.ntmps4
  go_wp2_with fail
  refine (rhead_any _).mono ?_
  rintro e w1 ⟨rfl, hb⟩
  replace HB := onto HB hb
  clear hb
  go_wp2_with fail
  refine (great_no _ HH.out.1 HH.out.2).mono ?_
  rintro e w2 ⟨rfl, hb⟩
  replace HB := onto HB hb
  clear hb
  go_wp2_with fail
  refine (nx.out _).mono ?_
  rintro e w3 ⟨rfl, hb⟩
  replace HB := onto HB hb
  clear hb
  go_wp2_with fail
  refine (ny.out _).mono ?_
  rintro e w4 ⟨rfl, hb⟩
  replace HB := onto HB hb
  clear hb
  go_wp2_with fail
  refine (HX.out _).mono ?_
  rintro e w5 ⟨rfl, hb⟩
  replace HB := onto HB hb
  clear hb
  go_wp2_with fail
  refine (norm_to (a := T p) (u := T p) _ gp.out.formed hl.out gp.out.den gp.out rfl).mono ?_
  rintro e w6 ⟨rfl, hb⟩
  replace HB := onto HB hb
  clear hb
  go_wp2_with fail
  refine (sub_to (a := T p) (b := T q) (u := T (p - q)) _ gp.out gq.out gd.out (by simp only [T_worth])).mono ?_
  rintro e w7 ⟨rfl, hb⟩
  replace HB := onto HB hb
  clear hb
  go_wp2_with fail
  refine (right_to (T p) _ gp.out.short (b := true) (decide_eq_true gp.out)).mono ?_
  rintro e w8 ⟨rfl, hb⟩
  replace HB := onto HB hb
  clear hb
  go_wp2_with fail
  refine (cmp_to (a := T p) (b := T q) (c := -1) _ gp.out gq.out (by rw [T_worth, T_worth]; exact HC.out)).mono ?_
  rintro e w9 ⟨rfl, hb⟩
  replace HB := onto HB hb
  clear hb
  go_wp2_with fail
  refine (right_to (T (p - q)) _ gd.out.short (b := true) (decide_eq_true gd.out)).mono ?_
  rintro e w10 ⟨rfl, hb⟩
  replace HB := onto HB hb
  clear hb
  go_wp2_with fail
  refine (times_to (a := T p) (b := T q) (u := T (p * q)) _ gp.out gq.out gm.out (by simp only [T_worth])).mono ?_
  rintro e w11 ⟨rfl, hb⟩
  replace HB := onto HB hb
  clear hb
  go_wp2_with fail
  refine (right_to (T (p * q)) _ gm.out.short (b := true) (decide_eq_true gm.out)).mono ?_
  rintro e w12 ⟨rfl, hb⟩
  replace HB := onto HB hb
  clear hb
  go_wp2
  go_ret
  exact ⟨rfl, HB⟩

set_option maxRecDepth 100000 in
set_option maxHeartbeats 8000000 in
theorem rtext_np_t {w : World} (x y : ByteArray) (p q : Rat) (nx : ∀ w, Calls Tryd.prog 10 #[.string x] w fun e w' => e = .returned (.tuple #[.string (T p), .int .i64 0]) ∧ Below w.heap.size w w') (ny : ∀ w, Calls Tryd.prog 10 #[.string y] w fun e w' => e = .returned (.tuple #[.string (T q), .int .i64 0]) ∧ Below w.heap.size w w') (hp : Size p 160 160) (hq : Size q 160 160) (h0 : p ≠ q) (hc : cmpQ p q = 1) (hr : ∀ w, Calls Tryd.prog 16 #[.string x] w fun e w' => e = .returned (.bool true) ∧ Below w.heap.size w w') (hx : ((T p).toList == x.toList) = true) (h1 : x.size ≤ 160) (h2 : y.size ≤ 160) : Calls Tryd.prog 4 #[.string x, .string y] w (Samed w true) := by
  have hl := Lib.hid (show (T p).size ≤ 900 by have := hp.text (by decide) (by decide); rw [← by0_len, T_by0]; omega)
  have sp := hp
  have sq := hq
  have sd : Size (p - q) 321 320 := sp.sub sq (by decide) (by decide) (by decide)
  have sm : Size (p * q) 320 320 := sp.mul sq (by decide) (by decide)
  have gp := Lib.hid (sp.T (by decide) (by decide) (by decide))
  have gq := Lib.hid (sq.T (by decide) (by decide) (by decide))
  have gd := Lib.hid (sd.T (by decide) (by decide) (by decide))
  have gm := Lib.hid (sm.T (by decide) (by decide) (by decide))
  clear sp sq sd sm
  clear hp hq
  have HX := Lib.hid hr
  clear hr
  have G0 := Lib.hid nought_good
  have e0 := Lib.hid nought_worth
  have hpq := T_same p q
  rw [decide_eq_false h0] at hpq
  have HC := Lib.hid hc; clear hc
  have hd := T_nought (p - q)
  rw [decide_eq_false (fun e => h0 (by grind))] at hd
  clear h0
  have HB := Below.refl w.heap.size w
  have HH := Lib.hid (And.intro h1 h2); clear h1 h2
  replace nx := Lib.hid nx
  replace ny := Lib.hid ny
  go_enter Tryd.func4, Tryd.ntmps4
  go_wp2_with fail
  refine (rhead_any _).mono ?_
  rintro e w1 ⟨rfl, hb⟩
  replace HB := onto HB hb
  clear hb
  go_wp2_with fail
  refine (great_no _ HH.out.1 HH.out.2).mono ?_
  rintro e w2 ⟨rfl, hb⟩
  replace HB := onto HB hb
  clear hb
  go_wp2_with fail
  refine (nx.out _).mono ?_
  rintro e w3 ⟨rfl, hb⟩
  replace HB := onto HB hb
  clear hb
  go_wp2_with fail
  refine (ny.out _).mono ?_
  rintro e w4 ⟨rfl, hb⟩
  replace HB := onto HB hb
  clear hb
  go_wp2_with fail
  refine (HX.out _).mono ?_
  rintro e w5 ⟨rfl, hb⟩
  replace HB := onto HB hb
  clear hb
  go_wp2_with fail
  refine (norm_to (a := T p) (u := T p) _ gp.out.formed hl.out gp.out.den gp.out rfl).mono ?_
  rintro e w6 ⟨rfl, hb⟩
  replace HB := onto HB hb
  clear hb
  go_wp2_with fail
  refine (sub_to (a := T p) (b := T q) (u := T (p - q)) _ gp.out gq.out gd.out (by simp only [T_worth])).mono ?_
  rintro e w7 ⟨rfl, hb⟩
  replace HB := onto HB hb
  clear hb
  go_wp2_with fail
  refine (right_to (T p) _ gp.out.short (b := true) (decide_eq_true gp.out)).mono ?_
  rintro e w8 ⟨rfl, hb⟩
  replace HB := onto HB hb
  clear hb
  go_wp2_with fail
  refine (cmp_to (a := T p) (b := T q) (c := 1) _ gp.out gq.out (by rw [T_worth, T_worth]; exact HC.out)).mono ?_
  rintro e w9 ⟨rfl, hb⟩
  replace HB := onto HB hb
  clear hb
  go_wp2_with fail
  refine (right_to (T (p - q)) _ gd.out.short (b := true) (decide_eq_true gd.out)).mono ?_
  rintro e w10 ⟨rfl, hb⟩
  replace HB := onto HB hb
  clear hb
  go_wp2_with fail
  refine (times_to (a := T p) (b := T q) (u := T (p * q)) _ gp.out gq.out gm.out (by simp only [T_worth])).mono ?_
  rintro e w11 ⟨rfl, hb⟩
  replace HB := onto HB hb
  clear hb
  go_wp2_with fail
  refine (right_to (T (p * q)) _ gm.out.short (b := true) (decide_eq_true gm.out)).mono ?_
  rintro e w12 ⟨rfl, hb⟩
  replace HB := onto HB hb
  clear hb
  go_wp2
  go_ret
  exact ⟨rfl, HB⟩

set_option maxRecDepth 100000 in
set_option maxHeartbeats 8000000 in
theorem rtext_np_f {w : World} (x y : ByteArray) (p q : Rat) (nx : ∀ w, Calls Tryd.prog 10 #[.string x] w fun e w' => e = .returned (.tuple #[.string (T p), .int .i64 0]) ∧ Below w.heap.size w w') (ny : ∀ w, Calls Tryd.prog 10 #[.string y] w fun e w' => e = .returned (.tuple #[.string (T q), .int .i64 0]) ∧ Below w.heap.size w w') (hp : Size p 160 160) (hq : Size q 160 160) (h0 : p ≠ q) (hc : cmpQ p q = 1) (hr : ∀ w, Calls Tryd.prog 16 #[.string x] w fun e w' => e = .returned (.bool false) ∧ Below w.heap.size w w') (hx : ((T p).toList == x.toList) = false) (h1 : x.size ≤ 160) (h2 : y.size ≤ 160) : Calls Tryd.prog 4 #[.string x, .string y] w (Samed w true) := by
  have hl := Lib.hid (show (T p).size ≤ 900 by have := hp.text (by decide) (by decide); rw [← by0_len, T_by0]; omega)
  have sp := hp
  have sq := hq
  have sd : Size (p - q) 321 320 := sp.sub sq (by decide) (by decide) (by decide)
  have sm : Size (p * q) 320 320 := sp.mul sq (by decide) (by decide)
  have gp := Lib.hid (sp.T (by decide) (by decide) (by decide))
  have gq := Lib.hid (sq.T (by decide) (by decide) (by decide))
  have gd := Lib.hid (sd.T (by decide) (by decide) (by decide))
  have gm := Lib.hid (sm.T (by decide) (by decide) (by decide))
  clear sp sq sd sm
  clear hp hq
  have HX := Lib.hid hr
  clear hr
  have G0 := Lib.hid nought_good
  have e0 := Lib.hid nought_worth
  have hpq := T_same p q
  rw [decide_eq_false h0] at hpq
  have HC := Lib.hid hc; clear hc
  have hd := T_nought (p - q)
  rw [decide_eq_false (fun e => h0 (by grind))] at hd
  clear h0
  have HB := Below.refl w.heap.size w
  have HH := Lib.hid (And.intro h1 h2); clear h1 h2
  replace nx := Lib.hid nx
  replace ny := Lib.hid ny
  go_enter Tryd.func4, Tryd.ntmps4
  go_wp2_with fail
  refine (rhead_any _).mono ?_
  rintro e w1 ⟨rfl, hb⟩
  replace HB := onto HB hb
  clear hb
  go_wp2_with fail
  refine (great_no _ HH.out.1 HH.out.2).mono ?_
  rintro e w2 ⟨rfl, hb⟩
  replace HB := onto HB hb
  clear hb
  go_wp2_with fail
  refine (nx.out _).mono ?_
  rintro e w3 ⟨rfl, hb⟩
  replace HB := onto HB hb
  clear hb
  go_wp2_with fail
  refine (ny.out _).mono ?_
  rintro e w4 ⟨rfl, hb⟩
  replace HB := onto HB hb
  clear hb
  go_wp2_with fail
  refine (HX.out _).mono ?_
  rintro e w5 ⟨rfl, hb⟩
  replace HB := onto HB hb
  clear hb
  go_wp2_with fail
  refine (norm_to (a := T p) (u := T p) _ gp.out.formed hl.out gp.out.den gp.out rfl).mono ?_
  rintro e w6 ⟨rfl, hb⟩
  replace HB := onto HB hb
  clear hb
  go_wp2_with fail
  refine (sub_to (a := T p) (b := T q) (u := T (p - q)) _ gp.out gq.out gd.out (by simp only [T_worth])).mono ?_
  rintro e w7 ⟨rfl, hb⟩
  replace HB := onto HB hb
  clear hb
  go_wp2_with fail
  refine (right_to (T p) _ gp.out.short (b := true) (decide_eq_true gp.out)).mono ?_
  rintro e w8 ⟨rfl, hb⟩
  replace HB := onto HB hb
  clear hb
  go_wp2_with fail
  refine (cmp_to (a := T p) (b := T q) (c := 1) _ gp.out gq.out (by rw [T_worth, T_worth]; exact HC.out)).mono ?_
  rintro e w9 ⟨rfl, hb⟩
  replace HB := onto HB hb
  clear hb
  go_wp2_with fail
  refine (right_to (T (p - q)) _ gd.out.short (b := true) (decide_eq_true gd.out)).mono ?_
  rintro e w10 ⟨rfl, hb⟩
  replace HB := onto HB hb
  clear hb
  go_wp2_with fail
  refine (times_to (a := T p) (b := T q) (u := T (p * q)) _ gp.out gq.out gm.out (by simp only [T_worth])).mono ?_
  rintro e w11 ⟨rfl, hb⟩
  replace HB := onto HB hb
  clear hb
  go_wp2_with fail
  refine (right_to (T (p * q)) _ gm.out.short (b := true) (decide_eq_true gm.out)).mono ?_
  rintro e w12 ⟨rfl, hb⟩
  replace HB := onto HB hb
  clear hb
  go_wp2
  go_ret
  exact ⟨rfl, HB⟩

theorem rtext_law {w : World} (x y : ByteArray) : Calls Tryd.prog 4 #[.string x, .string y] w (Samed w true) := by
  by_cases h : 160 < x.size ∨ 160 < y.size
  · exact rtext_great x y h
  · have h1 : x.size ≤ 160 := by omega
    have h2 : y.size ≤ 160 := by omega
    obtain ⟨tx, gx, nx, hx⟩ := norm_short h1
    obtain ⟨ty, gy, ny, hy⟩ := norm_short h2
    rcases hx with ⟨bx, rfl, nb⟩ | ⟨rfl, rfl, sx, -, -⟩
    · have hng : ¬ Good (by0 x) := fun g => by
        rcases nb with nb | nb
        · exact nb g.formed
        · exact g.den nb
      rcases bx with rfl | rfl
      · exact rtext_bad0_12 x y ty gy nx ny hng h1 h2
      · exact rtext_bad0_21 x y ty gy nx ny hng h1 h2
    · have hR := T_right h1
      have hr := fun w => right_text x w (show x.size ≤ 1000000 by omega)
      by_cases hg : Good (by0 x)
      · rw [decide_eq_true hg] at hR hr
        rcases hy with ⟨by1, -, -⟩ | ⟨rfl, rfl, sy, -, -⟩
        · rcases by1 with rfl | rfl
          · exact rtext_bad1_t_12 x y ty _ nx ny hr hR h1 h2
          · exact rtext_bad1_t_21 x y ty _ nx ny hr hR h1 h2
        · by_cases h0 : worth (by0 x) = worth (by0 y)
          · exact rtext_eq_t x y _ _ nx ny sx sy h0 hr hR h1 h2
          · have hc1 := cmp_range2 (worth (by0 x)) (worth (by0 y))
            rcases (show cmpQ (worth (by0 x)) (worth (by0 y)) = -1 ∨ cmpQ (worth (by0 x)) (worth (by0 y)) = 1 by have := mt cmp_zero.1 h0; omega) with hc | hc
            · exact rtext_nm_t x y _ _ nx ny sx sy h0 hc hr hR h1 h2
            · exact rtext_np_t x y _ _ nx ny sx sy h0 hc hr hR h1 h2
      · rw [decide_eq_false hg] at hR hr
        rcases hy with ⟨by1, -, -⟩ | ⟨rfl, rfl, sy, -, -⟩
        · rcases by1 with rfl | rfl
          · exact rtext_bad1_f_12 x y ty _ nx ny hr hR h1 h2
          · exact rtext_bad1_f_21 x y ty _ nx ny hr hR h1 h2
        · by_cases h0 : worth (by0 x) = worth (by0 y)
          · exact rtext_eq_f x y _ _ nx ny sx sy h0 hr hR h1 h2
          · have hc1 := cmp_range2 (worth (by0 x)) (worth (by0 y))
            rcases (show cmpQ (worth (by0 x)) (worth (by0 y)) = -1 ∨ cmpQ (worth (by0 x)) (worth (by0 y)) = 1 by have := mt cmp_zero.1 h0; omega) with hc | hc
            · exact rtext_nm_f x y _ _ nx ny sx sy h0 hc hr hR h1 h2
            · exact rtext_np_f x y _ _ nx ny sx sy h0 hc hr hR h1 h2

end Go.Proofs.YtepacminjfeliaaDoor
