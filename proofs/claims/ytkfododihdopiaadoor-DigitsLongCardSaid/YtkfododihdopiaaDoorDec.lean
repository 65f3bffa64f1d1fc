/-
  Decimals as lists of bytes: what they are worth, which ones are right, that right ones are one for each number, and how they stand in order. No condition.
-/
import Derived.Test.YtkfododihdopiaaDoorForms
namespace Go.Proofs.YtkfododihdopiaaDoor

/-- What a digit's byte is worth. -/
def dg (b : UInt8) : Nat := b.toNat - 48

/-- What decimals are worth. -/
def num (l : List UInt8) : Nat := l.foldl (fun n b => 10 * n + dg b) 0

/-- These bytes are digits. -/
def Digs (l : List UInt8) : Prop := ∀ b ∈ l, 48 ≤ b.toNat ∧ b.toNat ≤ 57

instance (l : List UInt8) : Decidable (Digs l) := inferInstanceAs (Decidable (∀ b ∈ l, 48 ≤ b.toNat ∧ b.toNat ≤ 57))

/-- These bytes are right decimals. -/
def Dec (l : List UInt8) : Prop := Digs l ∧ l ≠ [] ∧ (1 < l.length → l.head? ≠ some 48)

instance (l : List UInt8) : Decidable (Dec l) := inferInstanceAs (Decidable (_ ∧ _ ∧ _))

theorem num_nil : num [] = 0 := rfl

theorem num_snoc (l : List UInt8) (b : UInt8) : num (l ++ [b]) = 10 * num l + dg b := by simp [num, List.foldl_append]

theorem num_from (m : List UInt8) : ∀ n : Nat, m.foldl (fun n b => 10 * n + dg b) n = n * 10 ^ m.length + num m := by
  induction m with
  | nil => intro n; simp [num]
  | cons b m ih =>
    intro n
    unfold num
    rw [List.foldl_cons, List.foldl_cons, ih, ih, List.length_cons, Nat.pow_succ, Nat.add_mul]
    rw [show 10 * n * 10 ^ m.length = n * (10 ^ m.length * 10) by rw [Nat.mul_comm 10 n, Nat.mul_assoc, Nat.mul_comm 10], Nat.mul_zero, Nat.zero_add]
    omega

theorem num_append (l m : List UInt8) : num (l ++ m) = num l * 10 ^ m.length + num m := by
  rw [← num_from m (num l)]
  simp [num, List.foldl_append]

theorem num_one (b : UInt8) : num [b] = dg b := by simp [num]

theorem num_cons (b : UInt8) (l : List UInt8) : num (b :: l) = dg b * 10 ^ l.length + num l := by
  have := num_append [b] l
  rwa [num_one] at this

theorem Digs.nil : Digs [] := fun b hb => by simp at hb
theorem Digs.tail {b : UInt8} {l : List UInt8} (h : Digs (b :: l)) : Digs l := fun c hc => h c (List.mem_cons_of_mem _ hc)
theorem Digs.head {b : UInt8} {l : List UInt8} (h : Digs (b :: l)) : 48 ≤ b.toNat ∧ b.toNat ≤ 57 := h b List.mem_cons_self
theorem Digs.append {l m : List UInt8} (h : Digs l) (k : Digs m) : Digs (l ++ m) := fun b hb => (List.mem_append.1 hb).elim (h b) (k b)
theorem Digs.one {b : UInt8} (h : 48 ≤ b.toNat) (k : b.toNat ≤ 57) : Digs [b] := fun c hc => by simp at hc; subst hc; exact ⟨h, k⟩
theorem Digs.left {l m : List UInt8} (h : Digs (l ++ m)) : Digs l := fun b hb => h b (List.mem_append.2 (.inl hb))
theorem Digs.right {l m : List UInt8} (h : Digs (l ++ m)) : Digs m := fun b hb => h b (List.mem_append.2 (.inr hb))

theorem dg_le {b : UInt8} (h : b.toNat ≤ 57) : dg b ≤ 9 := by unfold dg; omega
theorem dg_inj {b c : UInt8} (hb : 48 ≤ b.toNat) (hc : 48 ≤ c.toNat) (h : dg b = dg c) : b = c := by
  unfold dg at h
  exact UInt8.toNat_inj.1 (by omega)

theorem ten_pos (k : Nat) : 0 < 10 ^ k := Nat.pow_pos (by decide)

theorem num_lt {l : List UInt8} (h : Digs l) : num l < 10 ^ l.length := by
  induction l with
  | nil => decide
  | cons b l ih =>
    rw [num_cons, List.length_cons, Nat.pow_succ]
    have h1 := ih h.tail
    have h2 := dg_le h.head.2
    have h3 : dg b * 10 ^ l.length ≤ 9 * 10 ^ l.length := Nat.mul_le_mul_right _ h2
    omega

theorem Dec.digs {l : List UInt8} (h : Dec l) : Digs l := h.1

theorem Dec.pos {l : List UInt8} (h : Dec l) : 0 < l.length := by
  have := h.2.1
  cases l with
  | nil => exact absurd rfl this
  | cons b l => simp

theorem Dec.ge {l : List UInt8} (h : Dec l) (hl : 1 < l.length) : 10 ^ (l.length - 1) ≤ num l := by
  cases l with
  | nil => simp at hl
  | cons b l =>
    rw [num_cons]
    have hb := h.2.2 hl
    have hd := h.1.head
    have : 1 ≤ dg b := by
      unfold dg
      have : b.toNat ≠ 48 := fun e => hb (by rw [List.head?_cons, show b = 48 from UInt8.toNat_inj.1 e])
      omega
    have h3 : 1 * 10 ^ l.length ≤ dg b * 10 ^ l.length := Nat.mul_le_mul_right _ this
    simp only [List.length_cons, Nat.add_sub_cancel]
    omega

theorem ten_le {i j : Nat} (h : i ≤ j) : 10 ^ i ≤ 10 ^ j := Nat.pow_le_pow_right (by decide) h

/-- Decimals of a number below 10 to the k are k at most. -/
theorem Dec.len {l : List UInt8} (h : Dec l) {k : Nat} (hk : num l < 10 ^ k) (h1 : 1 ≤ k) : l.length ≤ k := by
  by_cases hl : 1 < l.length
  · have h2 := h.ge hl
    rcases Nat.lt_or_ge k l.length with h3 | h3
    · have := ten_le (show k ≤ l.length - 1 by omega)
      omega
    · exact h3
  · omega

/-- The longer of two right decimals is the greater one. -/
theorem Dec.less {l m : List UInt8} (h : Dec l) (k : Dec m) (hl : l.length < m.length) : num l < num m := by
  have := h.pos
  have h1 := num_lt h.1
  have h2 := k.ge (by omega)
  have h3 := ten_le (show l.length ≤ m.length - 1 by omega)
  omega

theorem mul_split {a b p x y : Nat} (hx : x < p) (hy : y < p) (h : a * p + x = b * p + y) : a = b ∧ x = y := by
  have hp : 0 < p := by omega
  have h1 : (a * p + x) / p = a := by rw [Nat.mul_comm, Nat.mul_add_div hp, Nat.div_eq_of_lt hx, Nat.add_zero]
  have h2 : (b * p + y) / p = b := by rw [Nat.mul_comm, Nat.mul_add_div hp, Nat.div_eq_of_lt hy, Nat.add_zero]
  rw [h, h2] at h1
  subst h1
  exact ⟨rfl, by omega⟩

theorem digs_inj {l : List UInt8} : ∀ {m : List UInt8}, Digs l → Digs m → l.length = m.length → num l = num m → l = m := by
  induction l with
  | nil => intro m _ _ hl _; exact (List.length_eq_zero_iff.1 hl.symm).symm
  | cons b l ih =>
    intro m h k hl hn
    cases m with
    | nil => simp at hl
    | cons c m =>
      rw [num_cons, num_cons] at hn
      have e : l.length = m.length := by simpa using hl
      rw [e] at hn
      have h1 := num_lt h.tail
      rw [e] at h1
      obtain ⟨h2, h3⟩ := mul_split h1 (num_lt k.tail) hn
      rw [dg_inj h.head.1 k.head.1 h2, ih h.tail k.tail e h3]

/-- A number's right decimals are one. -/
theorem Dec.inj {l m : List UInt8} (h : Dec l) (k : Dec m) (hn : num l = num m) : l = m := by
  rcases Nat.lt_trichotomy l.length m.length with h1 | h1 | h1
  · have := h.less k h1; omega
  · exact digs_inj h.1 k.1 h1 hn
  · have := k.less h h1; omega

theorem Dec.zero : Dec [48] := by decide

/-- Noughts ahead are worth nothing; without them what is left is right, or nothing. -/
theorem num_drop (l : List UInt8) : num (l.dropWhile (· == 48)) = num l := by
  induction l with
  | nil => rfl
  | cons b l ih =>
    by_cases hb : b = 48
    · subst hb
      rw [List.dropWhile_cons_of_pos (by decide), ih, num_cons]
      show num l = 0 * _ + num l
      omega
    · rw [List.dropWhile_cons_of_neg (by simpa using hb)]

theorem drop_dec {l : List UInt8} (h : Digs l) (hn : l.dropWhile (· == 48) ≠ []) : Dec (l.dropWhile (· == 48)) := by
  refine ⟨fun b hb => h b ((List.dropWhile_sublist _).mem hb), hn, fun _ he => ?_⟩
  have := List.head?_dropWhile_not (· == (48 : UInt8)) l
  rw [he] at this
  simp at this

/-- The order of bytes and of numbers, of as many digits. -/
theorem num_order {l : List UInt8} : ∀ {m : List UInt8}, Digs l → Digs m → l.length = m.length → (num l < num m ↔ l < m) := by
  induction l with
  | nil =>
    intro m _ _ hl
    obtain rfl := List.length_eq_zero_iff.1 hl.symm
    simp
  | cons b l ih =>
    intro m h k hl
    cases m with
    | nil => simp at hl
    | cons c m =>
      have e : l.length = m.length := by simpa using hl
      rw [num_cons, num_cons, List.cons_lt_cons_iff, ← ih h.tail k.tail e, e]
      have h1 := num_lt h.tail
      rw [e] at h1
      have h2 := num_lt k.tail
      have hb := h.head
      have hc := k.head
      rcases Nat.lt_trichotomy b.toNat c.toNat with h3 | h3 | h3
      · have h4 : b < c := UInt8.lt_iff_toNat_lt.2 h3
        have h5 : dg b + 1 ≤ dg c := by unfold dg; omega
        have h6 : (dg b + 1) * 10 ^ m.length ≤ dg c * 10 ^ m.length := Nat.mul_le_mul_right _ h5
        rw [Nat.add_mul, Nat.one_mul] at h6
        exact ⟨fun _ => .inl h4, fun _ => by omega⟩
      · have h4 : b = c := UInt8.toNat_inj.1 h3
        subst h4
        refine ⟨fun h5 => .inr ⟨rfl, by omega⟩, fun h5 => ?_⟩
        rcases h5 with h5 | ⟨_, h5⟩
        · exact absurd h5 (UInt8.lt_irrefl b)
        · omega
      · have h5 : dg c + 1 ≤ dg b := by unfold dg; omega
        have h6 : (dg c + 1) * 10 ^ m.length ≤ dg b * 10 ^ m.length := Nat.mul_le_mul_right _ h5
        rw [Nat.add_mul, Nat.one_mul] at h6
        refine ⟨fun _ => by omega, fun h7 => ?_⟩
        rcases h7 with h7 | ⟨h7, _⟩
        · have := UInt8.lt_iff_toNat_lt.1 h7; omega
        · subst h7; omega

end Go.Proofs.YtkfododihdopiaaDoor
