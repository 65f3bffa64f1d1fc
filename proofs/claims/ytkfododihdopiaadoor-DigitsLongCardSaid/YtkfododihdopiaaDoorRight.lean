/-
  The program's Right and the document's: whether a string's bytes are right decimals. No condition.
-/
import Derived.Test.YtkfododihdopiaaDoorDecNum
import Derived.Laws.RangeAny
import Derived.Lib.OthersKept
import Derived.Lib.Strings
namespace Go.Proofs.YtkfododihdopiaaDoor
open Go.RowKit

/-- A string's bytes. -/
abbrev by0 (s : ByteArray) : List UInt8 := s.data.toList

theorem by0_len (s : ByteArray) : (by0 s).length = s.size := (Lib.size_eq s).symm

theorem by0_at (s : ByteArray) (i : Nat) (h : i < s.size) : (by0 s)[i]? = some (s[i]'h) := by
  have h' : i < s.data.toList.length := by rw [← Lib.size_eq]; exact h
  rw [show by0 s = s.data.toList from rfl, List.getElem?_eq_getElem h']
  rfl

theorem digs_take {l : List UInt8} {i : Nat} {b : UInt8} (h : Digs (l.take i)) (hb : l[i]? = some b) (h0 : 48 ≤ b.toNat) (h9 : b.toNat ≤ 57) : Digs (l.take (i + 1)) := by
  have e : l.take (i + 1) = l.take i ++ [b] := by
    rw [List.take_add_one, hb]; rfl
  rw [e]
  exact h.append (Digs.one h0 h9)

theorem not_dec {l : List UInt8} {i : Nat} {b : UInt8} (hb : l[i]? = some b) (h : b.toNat < 48 ∨ 57 < b.toNat) : decide (Dec l) = false := by
  refine decide_eq_false fun hd => ?_
  have := hd.1 b (List.mem_of_getElem? hb)
  omega

theorem told_bool {b c : Bool} (h : b = c) : Ending.returned (.bool c) = .returned (.bool b) := by rw [h]

theorem right_end {l : List UInt8} {b : UInt8} (h : Digs l) (hn : l ≠ [48]) (hb : l[0]? = some b) : decide (Dec l) = ((b.toNat : Int) != 48) := by
  cases l with
  | nil => simp at hb
  | cons c l =>
    obtain rfl : c = b := by simpa using hb
    by_cases e : c = 48
    · subst e
      rw [show (((48 : UInt8).toNat : Int) != 48) = false by decide]
      refine decide_eq_false fun hd => ?_
      cases l with
      | nil => exact hn rfl
      | cons d l => exact hd.2.2 (by simp) rfl
    · have e2 : ((c.toNat : Int) != 48) = true := by
        simp only [bne_iff_ne, ne_eq]
        intro h2
        exact e (UInt8.toNat_inj.1 (by show c.toNat = 48; omega))
      rw [e2]
      exact decide_eq_true ⟨h, by simp, fun _ h2 => e (by simpa using h2)⟩

set_option maxRecDepth 100000 in
set_option maxHeartbeats 2000000 in
theorem right_any (s : ByteArray) (w : World) : Calls Tryd.prog 16 #[.string s] w (Samed w (decide (Dec (by0 s)))) := by
  go_enter Tryd.func16, Tryd.ntmps16
  go_wp2
  go_loopw [4] (fun _ wr => ∃ pos, wr = w.iter s pos ∧ pos ≤ s.size ∧ Digs ((by0 s).take pos)) (fun _ wr => s.size - wr.iterPos w.heap.size)
  case atStart => exact ⟨0, rfl, by omega, by simpa using Digs.nil⟩
  case round =>
    obtain ⟨pos, rfl, hle, hd⟩ := hrel
    by_cases hp : pos < s.size
    · have hb := by0_at s pos hp
      have hnx : ∀ ty, (Instr.next (.pointer (some ⟨w.heap.size, 0, none⟩)) true ty).run Tryd.prog (w.iter s pos) = _ := fun ty => run_next_any w s pos ty hp
      by_cases ha : (s[pos]'hp).toNat < 128
      · rw [decode_ascii s pos hp ha] at hnx
        by_cases h0 : (s[pos]'hp).toNat < 48
        · have hdn := not_dec hb (.inl h0)
          go_wp2
          go_ret
          exact ⟨rfl, (Below.refl _ _).alloc (Nat.le_refl _) _⟩
        · by_cases h9 : 57 < (s[pos]'hp).toNat
          · have hdn := not_dec hb (.inr h9)
            have z0 : ¬ (((s[pos]'hp).toNat : Int) < 48) := by omega
            have z9 : 57 < ((s[pos]'hp).toNat : Int) := by omega
            go_wp2
            go_ret
            exact ⟨rfl, (Below.refl _ _).alloc (Nat.le_refl _) _⟩
          · have z0 : ¬ (((s[pos]'hp).toNat : Int) < 48) := by omega
            have z9 : ¬ (57 < ((s[pos]'hp).toNat : Int)) := by omega
            go_wp2
            go_roundw
            case rel => exact ⟨pos + 1, rfl, by omega, digs_take hd hb (by omega) (by omega)⟩
            case measure => simp; omega
      · have h128 := (decode_high s pos hp (by omega)).1
        have hdn := not_dec hb (.inr (by omega))
        have h48 : ¬ (((Utf8.decode s pos).1 : Int) < 48) := by omega
        have h57 : 57 < ((Utf8.decode s pos).1 : Int) := by omega
        go_wp2
        go_ret
        exact ⟨rfl, (Below.refl _ _).alloc (Nat.le_refl _) _⟩
    · have hnx : ∀ ty, (Instr.next (.pointer (some ⟨w.heap.size, 0, none⟩)) true ty).run Tryd.prog (w.iter s pos) = _ := fun ty => run_next_end w s pos ty hp
      obtain rfl : pos = s.size := by omega
      rw [List.take_of_length_le (by rw [by0_len]; exact Nat.le_refl _)] at hd
      have HB := (Below.refl w.heap.size w).alloc (Nat.le_refl _) (.stringIter s s.size)
      have HB' := Lib.hid HB; clear HB
      have hl : s.toList = by0 s := Lib.toList_data s
      by_cases hE : s.toList = [48]
      · have hD : decide (Dec (by0 s)) = true := by rw [← hl, hE]; decide
        have HD := Lib.hid hD
        clear hd hl hD
        go_wp2
        go_ret
        exact ⟨told_bool HD.out, HB'.out⟩
      · by_cases hZ : 0 < s.size
        · have hN : s.toList.isEmpty = false := by rw [hl]; have := by0_len s; cases h : by0 s with
            | nil => rw [h] at this; simp at this; omega
            | cons b l => rfl
          have hD : decide (Dec (by0 s)) = _ := right_end hd (by rw [← hl]; exact hE) (by0_at s 0 hZ)
          have HD := Lib.hid hD
          clear hd hl hD
          go_wp2
          go_ret
          exact ⟨told_bool HD.out, HB'.out⟩
        · have hN : s.toList = [] := by rw [hl]; exact List.eq_nil_of_length_eq_zero (by rw [by0_len]; omega)
          have hD : decide (Dec (by0 s)) = false := by rw [← hl, hN]; decide
          have HD := Lib.hid hD
          clear hd hl hD
          go_wp2
          go_ret
          exact ⟨told_bool HD.out, HB'.out⟩

set_option maxRecDepth 100000 in
set_option maxHeartbeats 2000000 in
theorem rright_any (s : ByteArray) (w : World) (hs : s.size ≤ 1000000) : Calls Tryd.prog 17 #[.string s] w (Samed w (decide (Dec (by0 s)))) := by
  have HB' := Lib.hid (Below.refl w.heap.size w)
  go_enter Tryd.func17, Tryd.ntmps17
  go_wp2
  go_loopw [3] (fun i wr => ∃ pos : Nat, i = .int .i64 pos ∧ wr = w ∧ pos ≤ s.size ∧ Digs ((by0 s).take pos)) (fun i _ => s.size - (intOf i).toNat)
  case atStart => exact ⟨0, rfl, rfl, by omega, by simpa using Digs.nil⟩
  case round =>
    obtain ⟨pos, rfl, rfl, hle, hd⟩ := hrel
    by_cases hp : pos < s.size
    · have hb := by0_at s pos hp
      by_cases h0 : (s[pos]'hp).toNat < 48
      · have HD := Lib.hid (not_dec hb (.inl h0))
        clear hd
        go_wp2
        all_goals
          go_ret
          exact ⟨told_bool HD.out, HB'.out⟩
      · by_cases h9 : 57 < (s[pos]'hp).toNat
        · have HD := Lib.hid (not_dec hb (.inr h9))
          have z0 : ¬ (((s[pos]'hp).toNat : Int) < 48) := by omega
          have z9 : 57 < ((s[pos]'hp).toNat : Int) := by omega
          clear hd
          go_wp2
          go_ret
          exact ⟨told_bool HD.out, HB'.out⟩
        · have z0 : ¬ (((s[pos]'hp).toNat : Int) < 48) := by omega
          have z9 : ¬ (57 < ((s[pos]'hp).toNat : Int)) := by omega
          go_wp2
          go_roundw
          case rel => exact ⟨pos + 1, by go_num, by first | trivial | rfl, by omega, digs_take hd hb (by omega) (by omega)⟩
          case measure => simp [intOf]; omega
    · obtain rfl : pos = s.size := by omega
      rw [List.take_of_length_le (by rw [by0_len]; exact Nat.le_refl _)] at hd
      rcases Nat.lt_trichotomy s.size 1 with h1 | h1 | h1
      · have hD : decide (Dec (by0 s)) = false := decide_eq_false fun h => by
          have := h.pos
          rw [by0_len] at this
          omega
        have HD := Lib.hid hD
        have hz : s.size = 0 := by omega
        clear hd hD h1
        go_wp2
        go_ret
        exact ⟨told_bool HD.out, HB'.out⟩
      · have hD : decide (Dec (by0 s)) = true := decide_eq_true ⟨hd, by intro h; have := by0_len s; rw [h] at this; simp at this; omega, by rw [by0_len]; omega⟩
        have HD := Lib.hid hD
        clear hd hD
        go_wp2
        go_ret
        exact ⟨told_bool HD.out, HB'.out⟩
      · have hD : decide (Dec (by0 s)) = _ := right_end hd (by intro h; have := by0_len s; rw [h] at this; simp at this; omega) (by0_at s 0 (by omega))
        have HD := Lib.hid hD
        have z1 : ¬ ((s.size : Int) = 1) := by omega
        have z0 : 1 < (s.size : Int) := by omega
        have z3 : 0 < s.size := by omega
        clear hd hD
        go_wp2
        go_ret
        exact ⟨told_bool HD.out, HB'.out⟩

end Go.Proofs.YtkfododihdopiaaDoor
