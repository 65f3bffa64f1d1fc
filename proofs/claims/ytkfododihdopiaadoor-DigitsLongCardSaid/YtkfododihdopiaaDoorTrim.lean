/-
  strings.TrimLeft with the nought alone: the noughts ahead fall.
-/
import Derived.Test.YtkfododihdopiaaDoorNines
namespace Go.Proofs.YtkfododihdopiaaDoor
open Go.RowKit

/-- How long a string's value is. -/
def strLen : Value → Nat
  | .string t => t.size
  | _ => 0

theorem extract_one (t : ByteArray) : by0 (t.extract 1 t.size) = (by0 t).drop 1 := by
  unfold by0
  rw [Lib.extract_data, List.take_of_length_le]
  rw [List.length_drop, ← Lib.size_eq]
  exact Nat.le_refl _

theorem mk_by0 (t : ByteArray) : (⟨(by0 t).toArray⟩ : ByteArray) = t := Lib.mk_data t

set_option maxRecDepth 100000 in
set_option maxHeartbeats 2000000 in
theorem trimByte_any (s : ByteArray) (w : World) :
    Calls Tryd.prog 41 #[.string s, .int .u8 48] w fun e w' => e = .returned (.string ⟨((by0 s).dropWhile (· == 48)).toArray⟩) ∧ w = w' := by
  go_enter Tryd.func41, Tryd.ntmps41
  go_wp2
  go_loopw [0] (fun v wr => ∃ t : ByteArray, v = .string t ∧ wr = w ∧ t.size ≤ s.size ∧ (by0 t).dropWhile (· == 48) = (by0 s).dropWhile (· == 48)) (fun v _ => strLen v)
  case atStart => exact ⟨s, rfl, rfl, Nat.le_refl _, rfl⟩
  case round =>
    obtain ⟨t, rfl, rfl, hle, hd⟩ := hrel
    have HD := Lib.hid hd
    clear hd
    by_cases hz : 0 < t.size
    · have hb := by0_at t 0 hz
      obtain ⟨x, hx⟩ : ∃ x, x = t[0]'hz := ⟨_, rfl⟩
      by_cases h0 : x = 48
      · have e1 : ((t[0]'hz).toNat : Int) = 48 := by rw [← hx, h0]; rfl
        have hext := extract_one t
        have hdrop : ((by0 t).drop 1).dropWhile (· == 48) = (by0 t).dropWhile (· == 48) := by
          cases h : by0 t with
          | nil => rfl
          | cons c l =>
            rw [h] at hb
            simp at hb
            rw [← hx, h0] at hb
            subst hb
            rw [List.dropWhile_cons_of_pos (by decide)]; rfl
        have hsz : (t.extract 1 t.size).size = t.size - 1 := by simp
        have HX := Lib.hid hext
        have HDR := Lib.hid hdrop
        have HSZ := Lib.hid hsz
        clear hext hdrop hb hx hsz
        go_wp2
        go_roundw
        case rel => exact ⟨_, rfl, by first | trivial | rfl, by have := HSZ.out; omega, by rw [HX.out, HDR.out]; exact HD.out⟩
        case measure => show (t.extract 1 t.size).size < t.size; have := HSZ.out; omega
      · have e1 : ¬ (((t[0]'hz).toNat : Int) = 48) := by
          rw [← hx]; intro h; exact h0 (UInt8.toNat_inj.1 (by show x.toNat = 48; omega))
        have hdw : (⟨((by0 s).dropWhile (· == 48)).toArray⟩ : ByteArray) = t := by
          rw [← HD.out, ← mk_by0 t]
          congr 2
          rw [by0_mk]
          cases h : by0 t with
          | nil => rfl
          | cons c l =>
            rw [h] at hb
            simp at hb
            rw [List.dropWhile_cons_of_neg (by rw [hb, ← hx]; simpa using h0)]
        have HDW := Lib.hid hdw
        clear hdw hb hx
        go_wp2
        go_ret
        exact ⟨by rw [HDW.out]; rfl, by first | trivial | rfl⟩
    · have hdw : (⟨((by0 s).dropWhile (· == 48)).toArray⟩ : ByteArray) = t := by
        have hn : by0 t = [] := List.eq_nil_of_length_eq_zero (by rw [by0_len]; omega)
        rw [← HD.out, hn, ← mk_by0 t, hn]; rfl
      have HDW := Lib.hid hdw
      clear hdw
      go_wp2
      go_ret
      exact ⟨by rw [HDW.out]; rfl, by first | trivial | rfl⟩

set_option maxRecDepth 100000 in
set_option maxHeartbeats 2000000 in
theorem trim_any (s : ByteArray) (w : World) :
    Calls Tryd.prog 28 #[.string s, .string ⟨#[48]⟩] w fun e w' => e = .returned (.string ⟨((by0 s).dropWhile (· == 48)).toArray⟩) ∧ w = w' := by
  have hl : s.toList = by0 s := Lib.toList_data s
  by_cases hz : s.size = 0
  · have hn : by0 s = [] := List.eq_nil_of_length_eq_zero (by rw [by0_len]; omega)
    have hN : s.toList = [] := by rw [hl, hn]
    have hE : (⟨((by0 s).dropWhile (· == 48)).toArray⟩ : ByteArray) = s := by rw [hn, ← mk_by0 s, hn]; rfl
    rw [hE]
    clear hl hn hE
    go_enter Tryd.func28, Tryd.ntmps28
    go_wp2
    go_ret
    exact ⟨rfl, rfl⟩
  · have hN : s.toList.isEmpty = false := by
      rw [hl]
      have := by0_len s
      cases h : by0 s with
      | nil => rw [h] at this; simp at this; omega
      | cons b l => rfl
    clear hl
    go_enter Tryd.func28, Tryd.ntmps28
    go_wp2_with fail
    refine (trimByte_any s w).mono ?_
    rintro e w' ⟨rfl, rfl⟩
    go_wp2
    go_ret
    exact ⟨rfl, rfl⟩

end Go.Proofs.YtkfododihdopiaaDoor
