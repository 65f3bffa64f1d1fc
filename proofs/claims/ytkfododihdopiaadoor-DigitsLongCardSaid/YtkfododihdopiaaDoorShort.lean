/-
  nat.short: the slice without the limbs 0 at its end, in the same memory. No condition but that it has at most a million limbs.
-/
import Derived.Test.YtkfododihdopiaaDoorNum
import Derived.BigGuardPart
namespace Go.Proofs.YtkfododihdopiaaDoor
open Go.RowKit

set_option maxHeartbeats 1000000 in
theorem short_some (b o n cap : Nat) (l : List Nat) (w : World) (hn : n ≤ 1000000) (hcap : n ≤ cap) (hc : ∀ i, i < n → w.cell? ⟨b, o + i, none⟩ = some (.int .u32 (at0 l i : Int))) :
    Calls Tryd.prog 35 #[.slice (some ⟨b, o, none⟩) n cap] w fun e w' => (∃ k, e = .returned (.slice (some ⟨b, o, none⟩) k cap) ∧ k ≤ n ∧ (∀ j, k ≤ j → j < n → at0 l j = 0) ∧ (0 < k → at0 l (k - 1) ≠ 0)) ∧ w = w' := by
  go_enter Tryd.func35, Tryd.ntmps35
  go_wp2
  go_loop [3] (fun s => ∃ k : Nat, s = .int .i64 k ∧ k ≤ n ∧ ∀ j, k ≤ j → j < n → at0 l j = 0) (fun s => (intOf s).toNat)
  case atStart => exact ⟨n, rfl, Nat.le_refl _, fun j h1 h2 => absurd h1 (by omega)⟩
  case round =>
    obtain ⟨k, rfl, hk, hz⟩ := hrel
    by_cases h0 : 0 < k
    · obtain ⟨k', rfl⟩ : ∃ k', k = k' + 1 := ⟨k - 1, by omega⟩
      have hcell := hc k' (by omega)
      obtain ⟨x, hx⟩ : ∃ x : Nat, x = at0 l k' := ⟨_, rfl⟩
      rw [← hx] at hcell
      have Hc := Lib.hid hc; clear hc
      have Hz := Lib.hid hz; clear hz
      have Hx := Lib.hid hx; clear hx
      by_cases hx0 : x = 0
      · subst hx0
        go_wp2
        go_round
        case rel =>
          refine ⟨k', by go_num, by omega, fun j h1 h2 => ?_⟩
          by_cases e : j = k'
          · subst e; exact Hx.out.symm
          · exact Hz.out j (by omega) h2
        case measure => simp [intOf]
      · have hx1 : ((x : Int) == 0) = false := by simp; omega
        go_wp2
        go_ret
        exact ⟨⟨k' + 1, rfl, hk, Hz.out, fun _ => by show at0 l (k' + 1 - 1) ≠ 0; rw [Nat.add_sub_cancel, ← Hx.out]; exact hx0⟩, rfl⟩
    · obtain rfl : k = 0 := by omega
      have Hc := Lib.hid hc; clear hc
      have Hz := Lib.hid hz; clear hz
      go_wp2
      go_ret
      exact ⟨⟨0, rfl, hk, Hz.out, fun h => absurd h (by omega)⟩, rfl⟩

set_option maxHeartbeats 1000000 in
theorem short_none (ad : Option Addr) (cap : Nat) (w : World) :
    Calls Tryd.prog 35 #[.slice ad 0 cap] w fun e w' => e = .returned (.slice ad 0 cap) ∧ w = w' := by
  go_enter Tryd.func35, Tryd.ntmps35
  go_wp2
  go_loop [3] (fun s => s = .int .i64 0) (fun _ => 0)
  case atStart => rfl
  case round =>
    obtain rfl := hrel
    go_wp2
    go_ret
    exact ⟨rfl, rfl⟩

/-- What short answers: the same memory, read in short. -/
def Shorted (w : World) (l : List Nat) (e : Ending) (w' : World) : Prop :=
  (∃ ad k cap l', e = .returned (.slice ad k cap) ∧ Rd w (.slice ad k cap) l' ∧ Can l' ∧ val l' = val l) ∧ w = w'

theorem short_any {w : World} {v : Value} {l : List Nat} (h : Rd w v l) (hl : l.length ≤ 1000000) : Calls Tryd.prog 35 #[v] w (Shorted w l) := by
  obtain ⟨ad, n, cap, rfl, hn, hcap, hx, hr⟩ := h
  by_cases h0 : 0 < n
  · obtain ⟨b, o, rfl, hb, hcell⟩ := hr h0
    refine (short_some b o n cap l w (by omega) hcap fun i hi => hcell i _ ?_).mono ?_
    · unfold at0; rw [List.getD_eq_getElem?_getD, List.getElem?_eq_getElem (by omega)]; rfl
    · rintro e w' ⟨⟨k, rfl, hk, hz, hl0⟩, rfl⟩
      obtain ⟨c1, c2, c3⟩ := cut_can hn hx hk hz hl0
      refine ⟨⟨_, k, cap, l.take k, rfl, ⟨_, k, cap, rfl, c3.symm, by omega, c1.1, fun _ => ⟨b, o, rfl, hb, fun i x hi => hcell i x ?_⟩⟩, c1, c2⟩, rfl⟩
      have : i < k := by
        have := (List.getElem?_eq_some_iff.1 hi).1
        omega
      rwa [List.getElem?_take_of_lt this] at hi
  · obtain rfl : n = 0 := by omega
    refine (short_none ad cap w).mono ?_
    rintro e w' ⟨rfl, rfl⟩
    obtain rfl : l = [] := List.eq_nil_of_length_eq_zero hn.symm
    exact ⟨⟨_, 0, cap, [], rfl, ⟨ad, 0, cap, rfl, rfl, Nat.zero_le _, hx, fun h => absurd h (by omega)⟩, Can.nil, rfl⟩, rfl⟩

end Go.Proofs.YtkfododihdopiaaDoor
