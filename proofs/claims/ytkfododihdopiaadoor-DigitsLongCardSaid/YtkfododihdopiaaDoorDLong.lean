/-
  DigitsLong: the law's body answers true of any length that it draws.
-/
import Derived.Test.YtkfododihdopiaaDoorDWrong
namespace Go.Proofs.YtkfododihdopiaaDoor
open Go.RowKit

/-- A one, and noughts behind it. -/
def hundred (j : Nat) : List UInt8 := 49 :: List.replicate j 48

theorem hundred_dec (j : Nat) : Dec (hundred j) := by
  refine ⟨fun b hb => ?_, by simp [hundred], fun _ h => by simp [hundred] at h⟩
  rcases List.mem_cons.1 hb with rfl | h
  · decide
  · rw [List.eq_of_mem_replicate h]; decide

theorem hundred_more (j m : Nat) (hm : m ≤ 10) : hundred j ++ (List.replicate 10 (48 : UInt8)).take m = hundred (j + m) := by
  unfold hundred
  rw [List.take_replicate, Nat.min_eq_left hm, List.cons_append, List.replicate_append_replicate]

theorem hundred_len (j : Nat) : (hundred j).length = j + 1 := by simp [hundred]

theorem noughts_by0 : by0 ⟨#[48, 48, 48, 48, 48, 48, 48, 48, 48, 48]⟩ = List.replicate 10 48 := rfl

set_option maxRecDepth 100000 in
set_option maxHeartbeats 4000000 in
theorem dlong_law (w : World) (n : Nat) (hn : n < 65536) : Calls Tryd.prog 8 #[.int .u16 (n : Int)] w (Samed w true) := by
  obtain ⟨k, hk⟩ : ∃ k, k = n % 2500 := ⟨_, rfl⟩
  have k25 : k < 2500 := by omega
  have e1 : (n : Int) % 2500 = (k : Int) := by omega
  have e2 : (n : Int).tmod 2500 = (k : Int) := by rw [Int.tmod_eq_emod_of_nonneg (by omega)]; omega
  clear hk
  go_enter Tryd.func8, Tryd.ntmps8
  go_wp2_with fail
  refine (dhead_any w).mono ?_
  rintro e w1 ⟨rfl, hb⟩
  go_wp2
  go_loopw [5] (fun v wr => ∃ (t : ByteArray) (j : Nat), v = .string t ∧ wr = w1 ∧ by0 t = hundred j ∧ t.size = j + 1 ∧ j ≤ k) (fun v _ => k + 1 - strLen v)
  case atStart => exact ⟨⟨#[49]⟩, 0, rfl, rfl, rfl, rfl, by omega⟩
  case round =>
    obtain ⟨t, j, rfl, rfl, ht, hs, hj⟩ := hrel
    have HT := Lib.hid ht; clear ht
    by_cases hlt : j < k
    · obtain ⟨m, em, m1, m2, m3⟩ : ∃ m : Nat, (min 10 (1 + (k : Int) - ((j : Int) + 1))).toNat = m ∧ 1 ≤ m ∧ m ≤ 10 ∧ j + m ≤ k := ⟨_, rfl, by omega, by omega, by omega⟩
      have z1 : 0 ≤ min 10 (1 + (k : Int) - ((j : Int) + 1)) := by omega
      have z2 : min 10 (1 + (k : Int) - ((j : Int) + 1)) ≤ 10 := by omega
      have hby : by0 (t ++ (⟨#[48, 48, 48, 48, 48, 48, 48, 48, 48, 48]⟩ : ByteArray).extract 0 m) = hundred (j + m) := by
        rw [by0_append, by0_extract, HT.out, List.drop_zero, Nat.sub_zero, noughts_by0, hundred_more j m m2]
      have hsz : (t ++ (⟨#[48, 48, 48, 48, 48, 48, 48, 48, 48, 48]⟩ : ByteArray).extract 0 m).size = j + m + 1 := by
        rw [← by0_len, hby, hundred_len]
      have HBY := Lib.hid hby
      have HSZ := Lib.hid hsz
      clear hby hsz
      go_wp2
      go_roundw
      case rel => exact ⟨_, j + m, rfl, trivial, HBY.out, HSZ.out, m3⟩
      case measure =>
        show k + 1 - (t ++ (⟨#[48, 48, 48, 48, 48, 48, 48, 48, 48, 48]⟩ : ByteArray).extract 0 m).size < k + 1 - t.size
        rw [HSZ.out]
        omega
    · obtain rfl : j = k := by omega
      have hdec : Dec (by0 t) := by rw [HT.out]; exact hundred_dec j
      have HDEC := Lib.hid hdec; clear hdec
      have z4 : decide ((t.size : Int) < 1 + (j : Int)) = false := decide_eq_false (by omega)
      by_cases h19 : 1900 < j + 1
      · have z5 : decide ((1900 : Int) < 1 + (j : Int)) = true := decide_eq_true (by omega)
        have hmil := Lib.hid (show t.size ≤ 1000000 by omega)
        have hbig := Lib.hid (show 1900 < t.size by omega)
        go_wp2_with fail
        refine (parse_long t _ hmil.out HDEC.out hbig.out).mono ?_
        rintro e w2 ⟨rfl, hb2⟩
        go_wp2_with fail
        refine (right_is t _ (b := true) (decide_eq_true HDEC.out)).mono ?_
        rintro e w3 ⟨rfl, hb3⟩
        go_wp2
        go_ret
        exact ⟨rfl, onto hb (onto hb2 hb3)⟩
      · have z5 : decide ((1900 : Int) < 1 + (j : Int)) = false := decide_eq_false (by omega)
        have hlen := Lib.hid (show t.size ≤ 1900 by omega)
        go_wp2_with fail
        refine (parse_ok t _ HDEC.out hlen.out).mono ?_
        rintro e w2 ⟨ady, ny, cy, ly, rfl, ry, ky, vy, hb2⟩
        have bly : ly.length ≤ 200 := few_limbs HDEC.out.1 (by rw [by0_len]; exact hlen.out) ky (by rw [vy]; exact Nat.le_refl _)
        have VY := Lib.hid vy; clear vy
        go_wp2_with fail
        refine (text_is ry bly HDEC.out VY.out.symm).mono ?_
        rintro e w3 ⟨rfl, hb3⟩
        go_wp2
        go_ret
        exact ⟨rfl, onto hb (onto hb2 hb3)⟩

end Go.Proofs.YtkfododihdopiaaDoor
