/-
  nat.heads: the topmost 62 bits of a number of three limbs at least, and what a number that is not greater has at the same places.
-/
import Derived.Test.YtpijjpjpedcbhaaAhead
namespace Go.Proofs.Ytpijjpjpedcbhaa
open Go.RowKit

/-- What stands from a limb and some bits on: the three topmost limbs. -/
theorem head_val {l : List Nat} {m s : Nat} (hl : Lim l) (hlen : l.length ≤ m + 3) (hs : s ≤ 31) (hfit : at0 l (m + 2) * 2 ^ s < 4294967296) :
    (at0 l (m + 2) * 4294967296 + at0 l (m + 1)) * 2 ^ s + at0 l m / 2 ^ (32 - s) < 18446744073709551616 ∧
    ((at0 l (m + 2) * 4294967296 + at0 l (m + 1)) * 2 ^ s + at0 l m / 2 ^ (32 - s)) / 4 = val l / (2 ^ (34 - s) * pw m) ∧
    (at0 l m / 2 ^ (32 - s) < 2 ^ s) := by
  have a0 := at0_lt hl m
  have a1 := at0_lt hl (m + 1)
  have a2 := at0_lt hl (m + 2)
  have d1 : 2 ^ s * 2 ^ (32 - s) = 4294967296 := by rw [← Nat.pow_add, show s + (32 - s) = 32 from by omega]
  have hlow : at0 l m / 2 ^ (32 - s) < 2 ^ s := by
    rw [Nat.div_lt_iff_lt_mul (Nat.two_pow_pos _), d1]; exact a0
  have hval : val l = sm (at0 l) m + pw m * (at0 l m + 4294967296 * at0 l (m + 1) + 18446744073709551616 * at0 l (m + 2)) := by
    rw [← sm_all l hlen]
    show sm (at0 l) m + pw m * at0 l m + pw (m + 1) * at0 l (m + 1) + pw (m + 2) * at0 l (m + 2) = _
    rw [show pw (m + 2) = 4294967296 * pw (m + 1) from rfl, show pw (m + 1) = 4294967296 * pw m from rfl, Nat.mul_add, Nat.mul_add]
    have e1 : pw m * (4294967296 * at0 l (m + 1)) = 4294967296 * pw m * at0 l (m + 1) := by rw [Nat.mul_left_comm, Nat.mul_assoc]
    have e2 : pw m * (18446744073709551616 * at0 l (m + 2)) = 4294967296 * (4294967296 * pw m) * at0 l (m + 2) := by
      rw [Nat.mul_left_comm, Nat.mul_assoc, Nat.mul_assoc, ← Nat.mul_assoc 4294967296 4294967296]
    omega
  have hsm := sm_lt (x := at0 l) (fun j => at0_lt hl j) m
  have ediv : val l / (2 ^ (34 - s) * pw m) = (at0 l m + 4294967296 * at0 l (m + 1) + 18446744073709551616 * at0 l (m + 2)) / 2 ^ (34 - s) := by
    rw [Nat.mul_comm, ← Nat.div_div_eq_div_mul, hval, Nat.add_mul_div_left _ _ (pw_pos m), Nat.div_eq_of_lt hsm, Nat.zero_add]
  have e34 : 2 ^ (34 - s) = 2 ^ (32 - s) * 4 := by rw [show 34 - s = (32 - s) + 2 from by omega, Nat.pow_add]
  have key : (at0 l m + 4294967296 * at0 l (m + 1) + 18446744073709551616 * at0 l (m + 2)) / 2 ^ (32 - s) = (at0 l (m + 2) * 4294967296 + at0 l (m + 1)) * 2 ^ s + at0 l m / 2 ^ (32 - s) := by
    have e : at0 l m + 4294967296 * at0 l (m + 1) + 18446744073709551616 * at0 l (m + 2) = at0 l m + 2 ^ (32 - s) * ((at0 l (m + 2) * 4294967296 + at0 l (m + 1)) * 2 ^ s) := by
      rw [Nat.mul_left_comm, Nat.mul_comm (2 ^ (32 - s)), d1]; omega
    rw [e, Nat.add_mul_div_left _ _ (Nat.two_pow_pos _)]; omega
  refine ⟨?_, ?_, hlow⟩
  · rw [Nat.add_mul]
    have h1 : at0 l (m + 2) * 4294967296 * 2 ^ s = at0 l (m + 2) * 2 ^ s * 4294967296 := Nat.mul_right_comm _ _ _
    have h2 : at0 l (m + 1) * 2 ^ s ≤ 4294967295 * 2 ^ s := Nat.mul_le_mul_right _ (by omega)
    -- the topmost limb leaves room for 2^s
    have h3 : at0 l (m + 2) * 2 ^ s + 2 ^ s ≤ 4294967296 := by
      have : at0 l (m + 2) < 2 ^ (32 - s) := by
        rw [← d1, Nat.mul_comm] at hfit
        exact Nat.lt_of_mul_lt_mul_left hfit
      have := Nat.mul_le_mul_right (2 ^ s) this
      rw [Nat.mul_comm (2 ^ (32 - s)), d1, Nat.succ_mul] at this
      exact this
    omega
  · rw [ediv, e34, ← Nat.div_div_eq_div_mul, key]

end Go.Proofs.Ytpijjpjpedcbhaa
