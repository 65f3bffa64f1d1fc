/-
  Numbers for decimals: limbs and digits, nine digits at once, ten to a power. No condition.
-/
import Derived.Test.YtkfododihdopiaaDoorDec
namespace Go.Proofs.YtkfododihdopiaaDoor

theorem pw_ten (k : Nat) : pw k ≤ 10 ^ (10 * k) := by
  induction k with
  | zero => decide
  | succ k ih =>
    rw [pw_succ, Nat.mul_add, Nat.pow_add, Nat.mul_comm]
    exact Nat.mul_le_mul ih (by decide)

theorem ten_pw (k : Nat) : 10 ^ (19 * k) ≤ pw (2 * k) := by
  induction k with
  | zero => decide
  | succ k ih =>
    rw [Nat.mul_add, Nat.pow_add, show 2 * (k + 1) = 2 * k + 1 + 1 by omega, pw_succ, pw_succ, ← Nat.mul_assoc, Nat.mul_comm]
    exact Nat.mul_le_mul (by decide) ih

/-- Right decimals of a number of k limbs are ten times as many at most. -/
theorem Dec.limbs {l : List UInt8} (h : Dec l) {k : Nat} (hk : num l < pw k) (h1 : 1 ≤ k) : l.length ≤ 10 * k :=
  h.len (Nat.lt_of_lt_of_le hk (pw_ten k)) (by omega)

/-- A number of 19 k digits has 2 k limbs at most. -/
theorem ten_limbs {n k : Nat} (h : n < 10 ^ (19 * k)) : n < pw (2 * k) := Nat.lt_of_lt_of_le h (ten_pw k)

/-- What numbers, nine digits in each, the lowest first, are worth together. -/
def bil : List Nat → Nat
  | [] => 0
  | x :: l => x + 1000000000 * bil l

theorem bil_snoc (l : List Nat) (x : Nat) : bil (l ++ [x]) = bil l + 1000000000 ^ l.length * x := by
  induction l with
  | nil => simp [bil]
  | cons y l ih =>
    rw [List.cons_append, bil, bil, ih, List.length_cons, Nat.pow_succ, Nat.mul_add, ← Nat.mul_assoc, Nat.mul_comm (1000000000 ^ l.length)]
    omega

theorem bil_lt {l : List Nat} (h : ∀ x ∈ l, x < 1000000000) : bil l < 1000000000 ^ l.length := by
  induction l with
  | nil => decide
  | cons y l ih =>
    rw [bil, List.length_cons, Nat.pow_succ]
    have := ih fun x hx => h x (List.mem_cons_of_mem _ hx)
    have := h y List.mem_cons_self
    omega

/-- .. read from the highest on. -/
def hib : List Nat → Nat := List.foldl (fun n x => n * 1000000000 + x) 0

theorem hib_snoc (l : List Nat) (x : Nat) : hib (l ++ [x]) = hib l * 1000000000 + x := by simp [hib, List.foldl_append]

theorem hib_reverse (l : List Nat) : hib l.reverse = bil l := by
  induction l with
  | nil => rfl
  | cons x l ih => rw [List.reverse_cons, hib_snoc, ih, bil]; omega

/-- One step of taking nine digits off a number. -/
theorem bil_step {N R : Nat} {l : List Nat} (h : N = bil l + 1000000000 ^ l.length * R) : N = bil (l ++ [R % 1000000000]) + 1000000000 ^ (l ++ [R % 1000000000]).length * (R / 1000000000) := by
  rw [bil_snoc, List.length_append, List.length_singleton, Nat.pow_succ, h, Nat.add_assoc, Nat.mul_assoc, ← Nat.mul_add]
  congr 2
  omega

theorem bil_count {N R k : Nat} {l : List Nat} (h : N = bil l + 1000000000 ^ l.length * R) (hR : 0 < R) (hN : N < 10 ^ k) : 9 * l.length < k := by
  rcases Nat.lt_or_ge (9 * l.length) k with h1 | h1
  · exact h1
  · have h2 := ten_le h1
    have e : 1000000000 ^ l.length = 10 ^ (9 * l.length) := by rw [Nat.pow_mul]
    rw [e] at h
    have : 10 ^ (9 * l.length) * 1 ≤ 10 ^ (9 * l.length) * R := Nat.mul_le_mul_left _ hR
    omega

/-- While a text's digits come, nine at once: A the number so far, p the digits since. -/
def Part (n i A p M : Nat) : Prop :=
  ∃ t, M = A * 10 ^ t + p ∧ p < 10 ^ t ∧ t ≤ 8 ∧ (A = 0 ∧ t = i ∧ i ≤ (n - 1) % 9 ∨ (t + (n - i)) % 9 = 0)

theorem Part.start (n : Nat) : Part n 0 0 0 0 := ⟨0, by simp, by simp, by omega, .inl ⟨rfl, rfl, by omega⟩⟩

theorem Part.lt {n i A p M : Nat} (h : Part n i A p M) : p < 100000000 := by
  obtain ⟨t, _, h2, h3, _⟩ := h
  have := ten_le h3
  have e : 10 ^ 8 = 100000000 := by decide
  omega

theorem Part.more {n i A p M d : Nat} (h : Part n i A p M) (hi : i < n) (hd : d ≤ 9) (h9 : (n - i - 1) % 9 ≠ 0) : Part n (i + 1) A (p * 10 + d) (10 * M + d) := by
  obtain ⟨t, h1, h2, h3, h4⟩ := h
  refine ⟨t + 1, ?_, by rw [Nat.pow_succ]; omega, ?_, ?_⟩
  · rw [h1, Nat.pow_succ, ← Nat.mul_assoc]; omega
  · rcases h4 with ⟨_, rfl, h5⟩ | h5
    · by_cases e : t = (n - 1) % 9
      · exfalso; omega
      · omega
    · omega
  · rcases h4 with ⟨rfl, rfl, h5⟩ | h5
    · by_cases e : t = (n - 1) % 9
      · exfalso; omega
      · exact .inl ⟨rfl, rfl, by omega⟩
    · exact .inr (by omega)

theorem Part.full {n i A p M d : Nat} (h : Part n i A p M) (hi : i < n) (_hd : d ≤ 9) (h9 : (n - i - 1) % 9 = 0) : Part n (i + 1) (A * 1000000000 + (p * 10 + d)) 0 (10 * M + d) := by
  obtain ⟨t, h1, h2, h3, h4⟩ := h
  refine ⟨0, ?_, by simp, by omega, .inr (by omega)⟩
  rcases h4 with ⟨rfl, rfl, h5⟩ | h5
  · simp only [Nat.zero_mul, Nat.zero_add] at h1 ⊢; rw [h1]; simp; omega
  · obtain rfl : t = 8 := by omega
    rw [h1]
    simp only [Nat.pow_zero, Nat.mul_one, Nat.add_zero]
    have e : 10 ^ 8 = 100000000 := by decide
    rw [e]
    omega

theorem Part.whole {n A p M : Nat} (h : Part n n A p M) (hn : 0 < n) : A = M := by
  obtain ⟨t, h1, h2, h3, h4⟩ := h
  rcases h4 with ⟨_, _, h5⟩ | h5
  · omega
  · obtain rfl : t = 0 := by omega
    simp at h1 h2
    omega

theorem Part.le {n i A p M : Nat} (h : Part n i A p M) : A ≤ M := by
  obtain ⟨t, h1, _, _, _⟩ := h
  have := Nat.mul_le_mul_left A (ten_pos t)
  omega

end Go.Proofs.YtkfododihdopiaaDoor
