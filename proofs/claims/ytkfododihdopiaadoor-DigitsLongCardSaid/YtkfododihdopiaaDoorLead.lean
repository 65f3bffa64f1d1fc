/-
  bits.LeadingZeros32 of a number that is not 0: so many places up its topmost bit is the 32nd.
-/
import Derived.Test.YtkfododihdopiaaDoorMul
import Derived.Test.YtkfododihdopiaaDoorShelf
namespace Go.Proofs.YtkfododihdopiaaDoor
open Go.RowKit

theorem bitLen_room (x : Nat) (h : x < 4294967296) (h0 : 0 < x) : 1 ≤ Lib.bitLen x ∧ Lib.bitLen x ≤ 32 ∧ 2 ^ (Lib.bitLen x - 1) ≤ x ∧ x < 2 ^ Lib.bitLen x := by
  have gen : ∀ n x : Nat, x < 2 ^ n → n ≤ 32 → 0 < x → 1 ≤ Lib.bitLen x ∧ Lib.bitLen x ≤ n ∧ 2 ^ (Lib.bitLen x - 1) ≤ x ∧ x < 2 ^ Lib.bitLen x := by
    intro n
    induction n with
    | zero => intro x hx _ h0; simp at hx; omega
    | succ n ih =>
      intro x hx hn h0
      have h64 : (2 : Nat) ^ (n + 1) ≤ 2 ^ 64 := Nat.pow_le_pow_right (by decide) (by omega)
      rw [Lib.bitLen_half x (by omega) (by omega)]
      rw [Nat.pow_succ] at hx
      by_cases h1 : x / 2 = 0
      · have : x = 1 := by omega
        subst this
        have e : Lib.bitLen (1 / 2) = 0 := by decide +kernel
        rw [e]; simp
      · obtain ⟨a, b, c, d⟩ := ih (x / 2) (by omega) (by omega) (by omega)
        obtain ⟨m, hm⟩ : ∃ m, Lib.bitLen (x / 2) = m + 1 := ⟨Lib.bitLen (x / 2) - 1, by omega⟩
        rw [hm] at c d b ⊢
        rw [Nat.pow_succ] at d
        refine ⟨by omega, by omega, ?_, ?_⟩
        · rw [show 1 + (m + 1) - 1 = m + 1 from by omega, Nat.pow_succ]
          simp only [Nat.add_sub_cancel] at c
          omega
        · rw [show 1 + (m + 1) = m + 1 + 1 from by omega, Nat.pow_succ, Nat.pow_succ]
          omega
  exact gen 32 x h (by decide) h0

/-- How far up x may go. -/
def Up (x s : Nat) : Prop := s ≤ 31 ∧ 2147483648 ≤ 2 ^ s * x ∧ 2 ^ s * x < 4294967296

theorem lead_any (x : Nat) (w : World) (h : x < 4294967296) (h0 : 0 < x) :
    Calls Tryd.prog 47 #[.int .u32 (x : Int)] w fun e w' => (∃ s : Nat, e = .returned (.int .i64 (s : Int)) ∧ Up x s) ∧ w = w' := by
  refine (Tryd.bits_LeadingZeros32 (x : Int) w (by omega) (by omega)).mono ?_
  rintro e w' ⟨rfl, rfl⟩
  obtain ⟨h1, h2, h3, h4⟩ := bitLen_room x h h0
  rw [Int.toNat_natCast]
  refine ⟨⟨32 - Lib.bitLen x, ?_, by omega, ?_, ?_⟩, rfl⟩
  · rw [Int.ofNat_sub h2]; rfl
  · have := Nat.mul_le_mul_left (2 ^ (32 - Lib.bitLen x)) h3
    rw [← Nat.pow_add, show 32 - Lib.bitLen x + (Lib.bitLen x - 1) = 31 from by omega] at this
    exact this
  · have := Nat.mul_lt_mul_of_pos_left h4 (Nat.two_pow_pos (32 - Lib.bitLen x))
    rw [← Nat.pow_add, show 32 - Lib.bitLen x + Lib.bitLen x = 32 from by omega] at this
    exact this

end Go.Proofs.YtkfododihdopiaaDoor
