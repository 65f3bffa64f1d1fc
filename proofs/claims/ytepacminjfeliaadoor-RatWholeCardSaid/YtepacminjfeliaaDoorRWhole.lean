/-
  RatWhole: the law's body answers true of any two numbers.
-/
import Derived.Test.YtepacminjfeliaaDoorPartsNum
namespace Go.Proofs.YtepacminjfeliaaDoor
open Go.RowKit

/-- One byte's slice as a string. -/
theorem one_string (W : World) (B : Nat) (c : UInt8) {y : Int} (hy : y = (c.toNat : Int)) (h : W.cell? ⟨B, 0, none⟩ = some (.int .u8 y)) : (convert 51 9 (.slice (some ⟨B, 0, none⟩) 1 1)).run Tryd.prog W = .ok (.string ⟨#[c]⟩) W := by
  subst hy
  have hlt : B < W.heap.size := World.block_lt_of_cell? W ⟨B, 0, none⟩ h
  exact string_of (l := [c]) (.inr ⟨B, 0, 1, 1, rfl, rfl, hlt, fun i x hi => by
    match i, hi with
    | 0, hi => obtain rfl : c = x := by simpa using hi
               exact h⟩)

/-- What the loop has made of a number's digits. -/
def Tail (N m : Nat) (S : List UInt8) : Prop := (m ≠ 0 → dec m ++ S = dec N) ∧ (m = 0 → S = dec N)

theorem Tail.step {N m : Nat} {S : List UInt8} (h : Tail N m S) (hm : m ≠ 0) : Tail N (m / 10) (digit (m % 10) :: S) := by
  have h1 := h.1 hm
  have hd : digit (m % 10) = digit m := by unfold digit; rw [Nat.mod_mod]
  rw [hd]
  refine ⟨fun h2 => ?_, fun h2 => ?_⟩
  · rw [dec, if_neg (by omega), List.append_assoc] at h1
    exact h1
  · rw [dec, if_pos (by omega)] at h1
    exact h1

theorem Tail.len {N m : Nat} {S : List UInt8} (h : Tail N m S) : S.length ≤ (dec N).length := by
  by_cases hm : m = 0
  · rw [h.2 hm]; exact Nat.le_refl _
  · rw [← h.1 hm, List.length_append]; omega

set_option maxRecDepth 100000 in
set_option maxHeartbeats 8000000 in
theorem whole_plus (N : Nat) (w : World) (hN : N ≤ 4611686018427387904) (h0 : N ≠ 0) : Calls Tryd.prog 18 #[.int .i64 (N : Int)] w fun e w' => e = .returned (.string (T (((N : Int) : Int) : Rat))) ∧ Below w.heap.size w w' := by
  have hlen := Lib.hid (show (dec N).length ≤ 20 from dec_len (Nat.lt_of_le_of_lt hN (by decide)) (by decide))
  have hT := Lib.hid (whole_text' (N : Int))
  have n0 : ((N : Int) == 0) = false := by rw [beq_eq_false_iff_ne]; omega
  have ns : decide ((N : Int) < 0) = false := decide_eq_false (by omega)
  go_enter Tryd.func18, Tryd.ntmps18
  go_wp2
  go_loopw [3, 4] (fun s k wr => ∃ (S : ByteArray) (m : Nat), s = .string S ∧ k = .int .i64 (m : Int) ∧ m ≤ N ∧ S.size ≤ 20 ∧ Hid (Tail N m (by0 S)) ∧ Below w.heap.size w wr) (fun _ k _ => (intOf k).natAbs)
  case atStart => exact ⟨⟨#[]⟩, N, rfl, rfl, Nat.le_refl _, by decide, Lib.hid ⟨fun _ => List.append_nil _, fun h => absurd h h0⟩, Below.refl _ _⟩
  case round =>
    obtain ⟨S, m, rfl, rfl, hm, hS, ht, hb⟩ := hrel
    by_cases hz : m = 0
    · subst hz
      have hfin := Lib.hid (ht.out.2 rfl)
      clear ht
      go_wp2
      go_ret
      refine ⟨?_, hb⟩
      rw [show T (((N : Int) : Int) : Rat) = S from bytes_eq (by rw [T_by0, hT.out, if_neg (by omega), List.nil_append, hfin.out, Int.natAbs_natCast])]
      rfl
    · have hn0 : ((m : Int) == 0) = false := by rw [beq_eq_false_iff_ne]; omega
      obtain ⟨r, hr⟩ : ∃ r, r = m % 10 := ⟨_, rfl⟩
      obtain ⟨q, hq⟩ : ∃ q, q = m / 10 := ⟨_, rfl⟩
      have hstep := Lib.hid (ht.out.step hz)
      rw [← hr, ← hq] at hstep
      have r9 : r < 10 := by omega
      have e1p : (m : Int).tmod 10 = (r : Int) := by rw [hr, Int.tmod_eq_emod_of_nonneg (by omega)]; omega
      have e2p : (m : Int).tdiv 10 = (q : Int) := by rw [hq, Int.tdiv_eq_ediv_of_nonneg (by omega)]; omega
      have dr : decide ((r : Int) < 0) = false := decide_eq_false (by omega)
      have hdk : 48 + (r : Int) = ((digit r).toNat : Int) := by rw [digit_nat]; omega
      have HDK := Lib.hid hdk
      have hm1 := Lib.hid (show q < m by omega)
      have wq : wrap64 (q : Int) = (q : Int) := by unfold wrap64; omega
      have wq2 : wrap64 (-(q : Int)) = -(q : Int) := by unfold wrap64; omega
      have hlast := Lib.hid (show q ≤ N by omega)
      clear hdk ht hr hq
      have hconv := fun W B h => one_string W B (digit r) HDK.out h
      go_wp2
      go_roundw
      case rel =>
        refine ⟨⟨#[digit r]⟩ ++ S, q, by first | rfl | go_num, by first | rfl | go_num, hlast.out, ?_, ?_, by first | exact hb.alloc hb.size _ | exact bel_drew (hb.alloc hb.size _)⟩
        · have h1 := hstep.out.len
          have h2 := hlen.out
          rw [← by0_len, by0_append]
          simp only [List.length_append]
          simp only [List.length_cons] at h1
          show 1 + (by0 S).length ≤ 20
          omega
        · rw [by0_append]; exact hstep
      case measure => have := hm1.out; rw [wq]; show Int.natAbs (q : Int) < Int.natAbs (m : Int); omega

set_option maxRecDepth 100000 in
set_option maxHeartbeats 8000000 in
theorem whole_minus (N : Nat) (w : World) (hN : N ≤ 4611686018427387904) (h0 : N ≠ 0) : Calls Tryd.prog 18 #[.int .i64 (-(N : Int))] w fun e w' => e = .returned (.string (T (((-(N : Int)) : Int) : Rat))) ∧ Below w.heap.size w w' := by
  have hlen := Lib.hid (show (dec N).length ≤ 20 from dec_len (Nat.lt_of_le_of_lt hN (by decide)) (by decide))
  have hT := Lib.hid (whole_text' (-(N : Int)))
  have n0 : ((-(N : Int)) == 0) = false := by rw [beq_eq_false_iff_ne]; omega
  have ns : decide ((-(N : Int)) < 0) = true := decide_eq_true (by omega)
  go_enter Tryd.func18, Tryd.ntmps18
  go_wp2
  go_loopw [3, 4] (fun s k wr => ∃ (S : ByteArray) (m : Nat), s = .string S ∧ k = .int .i64 (-(m : Int)) ∧ m ≤ N ∧ S.size ≤ 20 ∧ Hid (Tail N m (by0 S)) ∧ Below w.heap.size w wr) (fun _ k _ => (intOf k).natAbs)
  case atStart => exact ⟨⟨#[]⟩, N, rfl, rfl, Nat.le_refl _, by decide, Lib.hid ⟨fun _ => List.append_nil _, fun h => absurd h h0⟩, Below.refl _ _⟩
  case round =>
    obtain ⟨S, m, rfl, rfl, hm, hS, ht, hb⟩ := hrel
    by_cases hz : m = 0
    · subst hz
      have hfin := Lib.hid (ht.out.2 rfl)
      clear ht
      go_wp2
      go_ret
      refine ⟨?_, hb⟩
      rw [show T (((-(N : Int)) : Int) : Rat) = (⟨#[45]⟩ ++ S : ByteArray) from bytes_eq (by rw [T_by0, hT.out, if_pos (by omega), by0_append, hfin.out, Int.natAbs_neg, Int.natAbs_natCast])]
      rfl
    · have hn0 : ((-(m : Int)) == 0) = false := by rw [beq_eq_false_iff_ne]; omega
      obtain ⟨r, hr⟩ : ∃ r, r = m % 10 := ⟨_, rfl⟩
      obtain ⟨q, hq⟩ : ∃ q, q = m / 10 := ⟨_, rfl⟩
      have hstep := Lib.hid (ht.out.step hz)
      rw [← hr, ← hq] at hstep
      have r9 : r < 10 := by omega
      have e1p : (m : Int).tmod 10 = (r : Int) := by rw [hr, Int.tmod_eq_emod_of_nonneg (by omega)]; omega
      have e2p : (m : Int).tdiv 10 = (q : Int) := by rw [hq, Int.tdiv_eq_ediv_of_nonneg (by omega)]; omega
      have e1 : (-(m : Int)).tmod 10 = -(r : Int) := by rw [Int.neg_tmod, e1p]
      have e2 : (-(m : Int)).tdiv 10 = -(q : Int) := by rw [Int.neg_tdiv, e2p]
      clear e1p e2p
      by_cases hr0 : r = 0
      · subst hr0
        have hdk : (48 : Int) = ((digit 0).toNat : Int) := by rw [digit_nat]; omega
        have HDK := Lib.hid hdk
        have hm1 := Lib.hid (show q < m by omega)
        have wq : wrap64 (q : Int) = (q : Int) := by unfold wrap64; omega
        have wq2 : wrap64 (-(q : Int)) = -(q : Int) := by unfold wrap64; omega
        have hlast := Lib.hid (show q ≤ N by omega)
        clear hdk ht hr hq
        have hconv := fun W B h => one_string W B (digit 0) HDK.out h
        go_wp2
        go_roundw
        case rel =>
          refine ⟨⟨#[digit 0]⟩ ++ S, q, by first | rfl | go_num, by first | rfl | go_num, hlast.out, ?_, ?_, by first | exact hb.alloc hb.size _ | exact bel_drew (hb.alloc hb.size _)⟩
          · have h1 := hstep.out.len
            have h2 := hlen.out
            rw [← by0_len, by0_append]
            simp only [List.length_append]
            simp only [List.length_cons] at h1
            show 1 + (by0 S).length ≤ 20
            omega
          · rw [by0_append]; exact hstep
        case measure => have := hm1.out; rw [wq2]; show Int.natAbs (-(q : Int)) < Int.natAbs (-(m : Int)); omega
      · have dr : decide (-(r : Int) < 0) = true := decide_eq_true (by omega)
        have hdk : 48 + (r : Int) = ((digit r).toNat : Int) := by rw [digit_nat]; omega
        have HDK := Lib.hid hdk
        have hm1 := Lib.hid (show q < m by omega)
        have wq : wrap64 (q : Int) = (q : Int) := by unfold wrap64; omega
        have wq2 : wrap64 (-(q : Int)) = -(q : Int) := by unfold wrap64; omega
        have hlast := Lib.hid (show q ≤ N by omega)
        clear hdk ht hr hq
        have hconv := fun W B h => one_string W B (digit r) HDK.out h
        go_wp2
        go_roundw
        case rel =>
          refine ⟨⟨#[digit r]⟩ ++ S, q, by first | rfl | go_num, by first | rfl | go_num, hlast.out, ?_, ?_, by first | exact hb.alloc hb.size _ | exact bel_drew (hb.alloc hb.size _)⟩
          · have h1 := hstep.out.len
            have h2 := hlen.out
            rw [← by0_len, by0_append]
            simp only [List.length_append]
            simp only [List.length_cons] at h1
            show 1 + (by0 S).length ≤ 20
            omega
          · rw [by0_append]; exact hstep
        case measure => have := hm1.out; rw [wq2]; show Int.natAbs (-(q : Int)) < Int.natAbs (-(m : Int)); omega

theorem whole_any (n : Int) (w : World) (hn : n.natAbs ≤ 4611686018427387904) : Calls Tryd.prog 18 #[.int .i64 n] w fun e w' => e = .returned (.string (T (n : Rat))) ∧ Below w.heap.size w w' := by
  by_cases h0 : n = 0
  · subst h0
    have hT : T ((0 : Int) : Rat) = ⟨#[48]⟩ := T_zero
    rw [hT]
    go_enter Tryd.func18, Tryd.ntmps18
    go_wp2
    go_ret
    exact ⟨rfl, Below.refl _ _⟩
  · rcases Int.natAbs_eq n with h | h
    · have := whole_plus n.natAbs w hn (by omega)
      rwa [← h] at this
    · have := whole_minus n.natAbs w hn (by omega)
      rwa [← h] at this

set_option maxRecDepth 100000 in
set_option maxHeartbeats 8000000 in
theorem rwhole_lt {w : World} (x y : Int) (hx : -2147483648 ≤ x ∧ x ≤ 2147483647) (hy : -2147483648 ≤ y ∧ y ≤ 2147483647) (h : x < y) : Calls Tryd.prog 6 #[.int .i32 x, .int .i32 y] w (Samed w true) := by
  have HB := Below.refl w.heap.size w
  obtain ⟨p, hp⟩ : ∃ p : Int, p = x * y := ⟨_, rfl⟩
  have hpb : p.natAbs ≤ 4611686018427387904 := by
    rw [hp, Int.natAbs_mul]
    exact Nat.le_trans (Nat.mul_le_mul (show x.natAbs ≤ 2147483648 by omega) (show y.natAbs ≤ 2147483648 by omega)) (by decide)
  have wx := Lib.hid (fun w => whole_any x w (by omega))
  have wy := Lib.hid (fun w => whole_any y w (by omega))
  have ws := Lib.hid (fun w => whole_any (x + y) w (by omega))
  have wp := Lib.hid (fun w => whole_any p w hpb)
  have gx := Lib.hid ((whole_size x (by have : (10 : Nat) ^ 20 = 100000000000000000000 := by decide
                                        omega)).T (by decide) (by decide) (by decide))
  have gy := Lib.hid ((whole_size y (by have : (10 : Nat) ^ 20 = 100000000000000000000 := by decide
                                        omega)).T (by decide) (by decide) (by decide))
  have gs := Lib.hid ((whole_size (x + y) (by have : (10 : Nat) ^ 20 = 100000000000000000000 := by decide
                                              omega)).T (by decide) (by decide) (by decide))
  have gp := Lib.hid ((whole_size p (by have : (10 : Nat) ^ 20 = 100000000000000000000 := by decide
                                        omega)).T (by decide) (by decide) (by decide))
  have hc : cmpQ (x : Rat) (y : Rat) = -1 := by
    unfold cmpQ
    simp only [Rat.intCast_lt_intCast]
    split <;> (try split) <;> omega
  have HC := Lib.hid hc; clear hc
  have HP := Lib.hid hp
  have hpw : x * y = p := hp.symm
  have hpl : -4611686018427387904 ≤ p ∧ p ≤ 4611686018427387904 := by omega
  clear hp hpb
  go_enter Tryd.func6, Tryd.ntmps6
  go_wp2_with fail
  refine (rhead_any _).mono ?_
  rintro e w1 ⟨rfl, hb⟩
  replace HB := onto HB hb
  clear hb
  go_wp2_with fail
  refine (wx.out _).mono ?_
  rintro e w2 ⟨rfl, hb⟩
  replace HB := onto HB hb
  clear hb
  go_wp2_with fail
  refine (wy.out _).mono ?_
  rintro e w3 ⟨rfl, hb⟩
  replace HB := onto HB hb
  clear hb
  go_wp2_with fail
  refine (plus_to (a := T (x : Rat)) (b := T (y : Rat)) (u := T ((x + y : Int) : Rat)) _ gx.out gy.out gs.out (by simp only [T_worth]; exact (Rat.intCast_add _ _).symm)).mono ?_
  rintro e w4 ⟨rfl, hb⟩
  replace HB := onto HB hb
  clear hb
  go_wp2_with fail
  refine (ws.out _).mono ?_
  rintro e w5 ⟨rfl, hb⟩
  replace HB := onto HB hb
  clear hb
  go_wp2_with fail
  refine (times_to (a := T (x : Rat)) (b := T (y : Rat)) (u := T ((p : Int) : Rat)) _ gx.out gy.out gp.out (by simp only [T_worth, HP.out]; exact (Rat.intCast_mul _ _).symm)).mono ?_
  rintro e w6 ⟨rfl, hb⟩
  replace HB := onto HB hb
  clear hb
  go_wp2_with fail
  refine (wp.out _).mono ?_
  rintro e w7 ⟨rfl, hb⟩
  replace HB := onto HB hb
  clear hb
  go_wp2_with fail
  refine (cmp_to (a := T (x : Rat)) (b := T (y : Rat)) (c := -1) _ gx.out gy.out (by simp only [T_worth]; exact HC.out)).mono ?_
  rintro e w8 ⟨rfl, hb⟩
  replace HB := onto HB hb
  clear hb
  go_wp2_with fail
  refine (right_to (T (x : Rat)) _ gx.out.short (b := true) (decide_eq_true gx.out)).mono ?_
  rintro e w9 ⟨rfl, hb⟩
  replace HB := onto HB hb
  clear hb
  go_wp2
  go_ret
  exact ⟨rfl, HB⟩

set_option maxRecDepth 100000 in
set_option maxHeartbeats 8000000 in
theorem rwhole_eq {w : World} (x y : Int) (hx : -2147483648 ≤ x ∧ x ≤ 2147483647) (hy : -2147483648 ≤ y ∧ y ≤ 2147483647) (h : x = y) : Calls Tryd.prog 6 #[.int .i32 x, .int .i32 y] w (Samed w true) := by
  have HB := Below.refl w.heap.size w
  obtain ⟨p, hp⟩ : ∃ p : Int, p = x * y := ⟨_, rfl⟩
  have hpb : p.natAbs ≤ 4611686018427387904 := by
    rw [hp, Int.natAbs_mul]
    exact Nat.le_trans (Nat.mul_le_mul (show x.natAbs ≤ 2147483648 by omega) (show y.natAbs ≤ 2147483648 by omega)) (by decide)
  have wx := Lib.hid (fun w => whole_any x w (by omega))
  have wy := Lib.hid (fun w => whole_any y w (by omega))
  have ws := Lib.hid (fun w => whole_any (x + y) w (by omega))
  have wp := Lib.hid (fun w => whole_any p w hpb)
  have gx := Lib.hid ((whole_size x (by have : (10 : Nat) ^ 20 = 100000000000000000000 := by decide
                                        omega)).T (by decide) (by decide) (by decide))
  have gy := Lib.hid ((whole_size y (by have : (10 : Nat) ^ 20 = 100000000000000000000 := by decide
                                        omega)).T (by decide) (by decide) (by decide))
  have gs := Lib.hid ((whole_size (x + y) (by have : (10 : Nat) ^ 20 = 100000000000000000000 := by decide
                                              omega)).T (by decide) (by decide) (by decide))
  have gp := Lib.hid ((whole_size p (by have : (10 : Nat) ^ 20 = 100000000000000000000 := by decide
                                        omega)).T (by decide) (by decide) (by decide))
  have hc : cmpQ (x : Rat) (y : Rat) = 0 := by
    unfold cmpQ
    simp only [Rat.intCast_lt_intCast]
    split <;> (try split) <;> omega
  have HC := Lib.hid hc; clear hc
  have HP := Lib.hid hp
  have hpw : x * y = p := hp.symm
  have hpl : -4611686018427387904 ≤ p ∧ p ≤ 4611686018427387904 := by omega
  clear hp hpb
  subst h
  go_enter Tryd.func6, Tryd.ntmps6
  go_wp2_with fail
  refine (rhead_any _).mono ?_
  rintro e w1 ⟨rfl, hb⟩
  replace HB := onto HB hb
  clear hb
  go_wp2_with fail
  refine (wx.out _).mono ?_
  rintro e w2 ⟨rfl, hb⟩
  replace HB := onto HB hb
  clear hb
  go_wp2_with fail
  refine (wy.out _).mono ?_
  rintro e w3 ⟨rfl, hb⟩
  replace HB := onto HB hb
  clear hb
  go_wp2_with fail
  refine (plus_to (a := T (x : Rat)) (b := T (x : Rat)) (u := T ((x + x : Int) : Rat)) _ gx.out gy.out gs.out (by simp only [T_worth]; exact (Rat.intCast_add _ _).symm)).mono ?_
  rintro e w4 ⟨rfl, hb⟩
  replace HB := onto HB hb
  clear hb
  go_wp2_with fail
  refine (ws.out _).mono ?_
  rintro e w5 ⟨rfl, hb⟩
  replace HB := onto HB hb
  clear hb
  go_wp2_with fail
  refine (times_to (a := T (x : Rat)) (b := T (x : Rat)) (u := T ((p : Int) : Rat)) _ gx.out gy.out gp.out (by simp only [T_worth, HP.out]; exact (Rat.intCast_mul _ _).symm)).mono ?_
  rintro e w6 ⟨rfl, hb⟩
  replace HB := onto HB hb
  clear hb
  go_wp2_with fail
  refine (wp.out _).mono ?_
  rintro e w7 ⟨rfl, hb⟩
  replace HB := onto HB hb
  clear hb
  go_wp2_with fail
  refine (cmp_to (a := T (x : Rat)) (b := T (x : Rat)) (c := 0) _ gx.out gy.out (by simp only [T_worth]; exact HC.out)).mono ?_
  rintro e w8 ⟨rfl, hb⟩
  replace HB := onto HB hb
  clear hb
  go_wp2_with fail
  refine (right_to (T (x : Rat)) _ gx.out.short (b := true) (decide_eq_true gx.out)).mono ?_
  rintro e w9 ⟨rfl, hb⟩
  replace HB := onto HB hb
  clear hb
  go_wp2
  go_ret
  exact ⟨rfl, HB⟩

set_option maxRecDepth 100000 in
set_option maxHeartbeats 8000000 in
theorem rwhole_gt {w : World} (x y : Int) (hx : -2147483648 ≤ x ∧ x ≤ 2147483647) (hy : -2147483648 ≤ y ∧ y ≤ 2147483647) (h : y < x) : Calls Tryd.prog 6 #[.int .i32 x, .int .i32 y] w (Samed w true) := by
  have HB := Below.refl w.heap.size w
  obtain ⟨p, hp⟩ : ∃ p : Int, p = x * y := ⟨_, rfl⟩
  have hpb : p.natAbs ≤ 4611686018427387904 := by
    rw [hp, Int.natAbs_mul]
    exact Nat.le_trans (Nat.mul_le_mul (show x.natAbs ≤ 2147483648 by omega) (show y.natAbs ≤ 2147483648 by omega)) (by decide)
  have wx := Lib.hid (fun w => whole_any x w (by omega))
  have wy := Lib.hid (fun w => whole_any y w (by omega))
  have ws := Lib.hid (fun w => whole_any (x + y) w (by omega))
  have wp := Lib.hid (fun w => whole_any p w hpb)
  have gx := Lib.hid ((whole_size x (by have : (10 : Nat) ^ 20 = 100000000000000000000 := by decide
                                        omega)).T (by decide) (by decide) (by decide))
  have gy := Lib.hid ((whole_size y (by have : (10 : Nat) ^ 20 = 100000000000000000000 := by decide
                                        omega)).T (by decide) (by decide) (by decide))
  have gs := Lib.hid ((whole_size (x + y) (by have : (10 : Nat) ^ 20 = 100000000000000000000 := by decide
                                              omega)).T (by decide) (by decide) (by decide))
  have gp := Lib.hid ((whole_size p (by have : (10 : Nat) ^ 20 = 100000000000000000000 := by decide
                                        omega)).T (by decide) (by decide) (by decide))
  have hc : cmpQ (x : Rat) (y : Rat) = 1 := by
    unfold cmpQ
    simp only [Rat.intCast_lt_intCast]
    split <;> (try split) <;> omega
  have HC := Lib.hid hc; clear hc
  have HP := Lib.hid hp
  have hpw : x * y = p := hp.symm
  have hpl : -4611686018427387904 ≤ p ∧ p ≤ 4611686018427387904 := by omega
  clear hp hpb
  go_enter Tryd.func6, Tryd.ntmps6
  go_wp2_with fail
  refine (rhead_any _).mono ?_
  rintro e w1 ⟨rfl, hb⟩
  replace HB := onto HB hb
  clear hb
  go_wp2_with fail
  refine (wx.out _).mono ?_
  rintro e w2 ⟨rfl, hb⟩
  replace HB := onto HB hb
  clear hb
  go_wp2_with fail
  refine (wy.out _).mono ?_
  rintro e w3 ⟨rfl, hb⟩
  replace HB := onto HB hb
  clear hb
  go_wp2_with fail
  refine (plus_to (a := T (x : Rat)) (b := T (y : Rat)) (u := T ((x + y : Int) : Rat)) _ gx.out gy.out gs.out (by simp only [T_worth]; exact (Rat.intCast_add _ _).symm)).mono ?_
  rintro e w4 ⟨rfl, hb⟩
  replace HB := onto HB hb
  clear hb
  go_wp2_with fail
  refine (ws.out _).mono ?_
  rintro e w5 ⟨rfl, hb⟩
  replace HB := onto HB hb
  clear hb
  go_wp2_with fail
  refine (times_to (a := T (x : Rat)) (b := T (y : Rat)) (u := T ((p : Int) : Rat)) _ gx.out gy.out gp.out (by simp only [T_worth, HP.out]; exact (Rat.intCast_mul _ _).symm)).mono ?_
  rintro e w6 ⟨rfl, hb⟩
  replace HB := onto HB hb
  clear hb
  go_wp2_with fail
  refine (wp.out _).mono ?_
  rintro e w7 ⟨rfl, hb⟩
  replace HB := onto HB hb
  clear hb
  go_wp2_with fail
  refine (cmp_to (a := T (x : Rat)) (b := T (y : Rat)) (c := 1) _ gx.out gy.out (by simp only [T_worth]; exact HC.out)).mono ?_
  rintro e w8 ⟨rfl, hb⟩
  replace HB := onto HB hb
  clear hb
  go_wp2_with fail
  refine (right_to (T (x : Rat)) _ gx.out.short (b := true) (decide_eq_true gx.out)).mono ?_
  rintro e w9 ⟨rfl, hb⟩
  replace HB := onto HB hb
  clear hb
  go_wp2
  go_ret
  exact ⟨rfl, HB⟩

theorem rwhole_law {w : World} (x y : Int) (hx : -2147483648 ≤ x ∧ x ≤ 2147483647) (hy : -2147483648 ≤ y ∧ y ≤ 2147483647) : Calls Tryd.prog 6 #[.int .i32 x, .int .i32 y] w (Samed w true) := by
  rcases Int.lt_trichotomy x y with h | h | h
  · exact rwhole_lt x y hx hy h
  · exact rwhole_eq x y hx hy h
  · exact rwhole_gt x y hx hy h

end Go.Proofs.YtepacminjfeliaaDoor
