/-
  Plain numbers: division bit by bit; a limb of a list that is written over. Nothing of the program is in here. No condition.
-/
import Derived.Test.YtpijjpjpedcbhaaRefMul
namespace Go.Proofs.Ytpijjpjpedcbhaa
open Go.RowKit

theorem at0_set_val {l : List Nat} {q : Nat} (hq : q < l.length) (d : Nat) : val (l.set q (at0 l q + d)) = val l + pw q * d := by
  induction l generalizing q with
  | nil => simp at hq
  | cons x l ih =>
    cases q with
    | zero => simp [at0, val, pw]; omega
    | succ q =>
      have h := ih (q := q) (by simpa using hq)
      have e : at0 (x :: l) (q + 1) = at0 l q := by simp [at0]
      rw [e, List.set_cons_succ]
      simp only [val]
      rw [h, pw_succ, Nat.mul_add, Nat.mul_assoc]; omega

theorem lim_set {l : List Nat} (h : Lim l) {x : Nat} (hx : x < 4294967296) (q : Nat) : Lim (l.set q x) := by
  intro y hy
  rcases List.mem_or_eq_of_mem_set hy with h1 | h1
  · exact h y h1
  · rw [h1]; exact hx

theorem limb_room {x s : Nat} (hx : x < 4294967296) (hs : s < 32) (hb : x / 2 ^ s % 2 = 0) : x + 2 ^ s < 4294967296 := by
  obtain ⟨t, ht⟩ : ∃ t, 32 = s + (t + 1) := ⟨31 - s, by omega⟩
  have e : (4294967296 : Nat) = 2 ^ s * (2 ^ t * 2) := by
    rw [show (4294967296 : Nat) = 2 ^ 32 from rfl, ht, Nat.pow_add, Nat.pow_succ]
  have h1 : x / 2 ^ s < 2 ^ t * 2 := by
    rw [Nat.div_lt_iff_lt_mul (Nat.two_pow_pos s), Nat.mul_comm, ← e]; exact hx
  have h2 := Nat.lt_mul_div_succ x (Nat.two_pow_pos s)
  have h3 : x / 2 ^ s + 2 ≤ 2 ^ t * 2 := by omega
  have h4 := Nat.mul_le_mul_left (2 ^ s) h3
  rw [← e, Nat.mul_add] at h4
  rw [Nat.mul_add] at h2
  omega

/-- The bit of an answer that has still to be found is 0. -/
theorem bit_still {l : List Nat} (h : Lim l) {q s m : Nat} (hs : s < 32) (hv : val l = m * 2 ^ (32 * q + s + 1)) : at0 l q + 2 ^ s < 4294967296 := by
  refine limb_room (at0_lt h q) hs ?_
  rw [← val_bit h q s hs, hv, Nat.pow_succ, ← Nat.mul_assoc, Nat.mul_right_comm, Nat.mul_div_cancel _ (Nat.two_pow_pos _)]
  omega

theorem div_bit {A B k : Nat} (hB : 0 < B) (t : Nat) (h : A / 2 ^ k = 2 * (A / 2 ^ (k + 1)) + t) (ht : t ≤ 1) :
    (B ≤ 2 * (A / 2 ^ (k + 1) % B) + t ∧ A / 2 ^ k / B = 2 * (A / 2 ^ (k + 1) / B) + 1 ∧ A / 2 ^ k % B = 2 * (A / 2 ^ (k + 1) % B) + t - B) ∨
    (2 * (A / 2 ^ (k + 1) % B) + t < B ∧ A / 2 ^ k / B = 2 * (A / 2 ^ (k + 1) / B) ∧ A / 2 ^ k % B = 2 * (A / 2 ^ (k + 1) % B) + t) := by
  generalize A / 2 ^ k = n' at h
  generalize A / 2 ^ (k + 1) = n at h
  have h1 := Nat.div_add_mod n B
  have h2 := Nat.mod_lt n hB
  generalize hq : n / B = q at h1
  generalize hr : n % B = r at h1 h2
  have e : n' = (2 * r + t) + B * (2 * q) := by rw [h, ← h1, Nat.mul_left_comm]; omega
  subst e
  rw [Nat.add_mul_div_left _ _ hB, Nat.add_mul_mod_self_left]
  by_cases hc : B ≤ 2 * r + t
  · have h3 : (2 * r + t) / B = 1 := by
      rw [Nat.div_eq_sub_div hB hc, Nat.div_eq_of_lt (by omega)]
    have h4 : (2 * r + t) % B = 2 * r + t - B := by
      rw [Nat.mod_eq_sub_mod hc, Nat.mod_eq_of_lt (by omega)]
    exact .inl ⟨hc, by omega, h4⟩
  · exact .inr ⟨by omega, by rw [Nat.div_eq_of_lt (by omega)]; omega, Nat.mod_eq_of_lt (by omega)⟩

/-- With bits below k still to be found: the answer so far is row Q, the rest so far is worth R. -/
def BitDone (A B n k : Nat) (Q : List Nat) (R : Nat) : Prop := Q.length = n ∧ Lim Q ∧ val Q = A / 2 ^ k / B * 2 ^ k ∧ R = A / 2 ^ k % B

theorem BitDone.start {A B n : Nat} (hA : A < pw n) : BitDone A B n (32 * n) (List.replicate n 0) 0 :=
  ⟨by simp, lim_zeros n, by rw [val_zeros, ← pw_two, Nat.div_eq_of_lt hA, Nat.zero_div, Nat.zero_mul], by rw [← pw_two, Nat.div_eq_of_lt hA, Nat.zero_mod]⟩

theorem BitDone.no {A B n k : Nat} {Q : List Nat} {R : Nat} (h : BitDone A B n (k + 1) Q R) (hB : 0 < B) (hlt : 2 * R + (if bt A k then 1 else 0) < B) :
    BitDone A B n k Q (2 * R + (if bt A k then 1 else 0)) := by
  obtain ⟨h1, h2, h3, h4⟩ := h
  subst h4
  rcases div_bit (A := A) (k := k) hB _ (up_bit A k) (by split <;> omega) with ⟨h5, _⟩ | ⟨_, h6, h7⟩
  · omega
  · refine ⟨h1, h2, ?_, h7.symm⟩
    generalize A / 2 ^ (k + 1) / B = m at h3 h6
    rw [h3, h6, Nat.pow_succ, Nat.mul_comm (2 ^ k) 2, ← Nat.mul_assoc, Nat.mul_comm m 2]

theorem BitDone.room {A B n k q s : Nat} {Q : List Nat} {R : Nat} (h : BitDone A B n (k + 1) Q R) (hk : k = 32 * q + s) (hs : s < 32) : at0 Q q + 2 ^ s < 4294967296 := by
  obtain ⟨h1, h2, h3, h4⟩ := h
  exact bit_still h2 hs (by rw [h3, hk])

theorem BitDone.yes {A B n k q s : Nat} {Q : List Nat} {R : Nat} (h : BitDone A B n (k + 1) Q R) (hB : 0 < B) (hle : B ≤ 2 * R + (if bt A k then 1 else 0)) (hk : k = 32 * q + s) (hs : s < 32) (hq : q < n) :
    BitDone A B n k (Q.set q (at0 Q q + 2 ^ s)) (2 * R + (if bt A k then 1 else 0) - B) := by
  have hroom := h.room hk hs
  obtain ⟨h1, h2, h3, h4⟩ := h
  subst h4
  rcases div_bit (A := A) (k := k) hB _ (up_bit A k) (by split <;> omega) with ⟨_, h6, h7⟩ | ⟨h5, _⟩
  · refine ⟨by rw [List.length_set]; exact h1, lim_set h2 hroom q, ?_, h7.symm⟩
    generalize A / 2 ^ (k + 1) / B = m at h3 h6
    rw [at0_set_val (by omega), h3, h6, pw_two, ← Nat.pow_add, ← hk, Nat.pow_succ, Nat.add_mul, Nat.one_mul, Nat.mul_comm (2 ^ k) 2, ← Nat.mul_assoc, Nat.mul_comm m 2]
  · omega

theorem BitDone.end {A B n : Nat} {Q : List Nat} {R : Nat} (h : BitDone A B n 0 Q R) : val Q = A / B ∧ R = A % B := by
  obtain ⟨h1, h2, h3, h4⟩ := h
  rw [Nat.pow_zero, Nat.div_one] at h3 h4
  exact ⟨by rw [h3, Nat.mul_one], h4⟩

end Go.Proofs.Ytpijjpjpedcbhaa
