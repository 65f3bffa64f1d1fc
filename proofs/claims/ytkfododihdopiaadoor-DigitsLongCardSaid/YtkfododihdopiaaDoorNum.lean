/-
  Plain numbers: what a list of 32-bit limbs is worth, lists in short, sums of limbs by their places. Nothing of the program is in here. No condition.
-/
import Derived.Test.YtkfododihdopiaaDoorMem
namespace Go.Proofs.YtkfododihdopiaaDoor

/-- 2^32 to the power of k. -/
def pw : Nat → Nat
  | 0 => 1
  | k + 1 => 4294967296 * pw k

theorem pw_succ (k : Nat) : pw (k + 1) = 4294967296 * pw k := rfl

theorem pw_pos (k : Nat) : 0 < pw k := by
  induction k with
  | zero => decide
  | succ k ih => unfold pw; omega

theorem pw_add (a b : Nat) : pw (a + b) = pw a * pw b := by
  induction a with
  | zero => simp [pw]
  | succ a ih => rw [Nat.succ_add]; simp only [pw]; rw [ih, Nat.mul_assoc]

theorem pw_le {a b : Nat} (h : a ≤ b) : pw a ≤ pw b := by
  obtain ⟨c, rfl⟩ := Nat.exists_eq_add_of_le h
  rw [pw_add]; exact Nat.le_mul_of_pos_right _ (pw_pos c)

/-- What a list is worth. -/
def val : List Nat → Nat
  | [] => 0
  | x :: l => x + 4294967296 * val l

theorem val_append (l m : List Nat) : val (l ++ m) = val l + pw l.length * val m := by
  induction l with
  | nil => simp [val, pw]
  | cons x l ih => simp only [List.cons_append, val, List.length_cons, pw, ih, Nat.mul_add, Nat.mul_assoc]; omega

def Lim (l : List Nat) : Prop := ∀ x ∈ l, x < 4294967296

theorem val_lt (l : List Nat) (h : Lim l) : val l < pw l.length := by
  induction l with
  | nil => simp [val, pw]
  | cons x l ih =>
    have h1 := ih fun y hy => h y (List.mem_cons_of_mem _ hy)
    have h2 := h x (List.mem_cons_self)
    simp only [val, List.length_cons, pw]; omega

/-- The sum of a row's limbs by their places, below place k. -/
def sm (x : Nat → Nat) : Nat → Nat
  | 0 => 0
  | k + 1 => sm x k + pw k * x k

theorem val_snoc (l : List Nat) (x : Nat) : val (l ++ [x]) = val l + pw l.length * x := by
  rw [val_append]; simp [val]

theorem sm_take (l : List Nat) : ∀ k, sm (at0 l) k = val (l.take k) := by
  intro k
  induction k with
  | zero => simp [sm, val]
  | succ k ih =>
    unfold sm
    rw [ih]
    by_cases hk : k < l.length
    · rw [List.take_succ_eq_append_getElem hk, val_snoc]
      have : at0 l k = l[k] := by unfold at0; simp [hk]
      rw [this, List.length_take, Nat.min_eq_left (by omega)]
    · have e : at0 l k = 0 := by unfold at0; rw [List.getD_eq_getElem?_getD, List.getElem?_eq_none (by omega)]; rfl
      rw [e, List.take_of_length_le (by omega), List.take_of_length_le (by omega)]; simp

theorem sm_all (l : List Nat) {k : Nat} (h : l.length ≤ k) : sm (at0 l) k = val l := by
  rw [sm_take, List.take_of_length_le h]

theorem sm_zeros {x : Nat → Nat} {k n : Nat} (hk : k ≤ n) (h : ∀ j, k ≤ j → j < n → x j = 0) : sm x n = sm x k := by
  obtain ⟨c, rfl⟩ := Nat.exists_eq_add_of_le hk
  induction c with
  | zero => rfl
  | succ c ih =>
    rw [← Nat.add_assoc]
    show sm x (k + c) + pw (k + c) * x (k + c) = sm x k
    rw [ih (by omega) fun j h1 h2 => h j h1 (by omega), h (k + c) (by omega) (by omega)]; omega

theorem sm_same {x y : Nat → Nat} {i n : Nat} (hi : i ≤ n) (h : ∀ j, i ≤ j → j < n → x j = y j) : sm x n + sm y i = sm y n + sm x i := by
  obtain ⟨c, rfl⟩ := Nat.exists_eq_add_of_le hi
  induction c with
  | zero => simp; omega
  | succ c ih =>
    have h1 := ih (by omega) fun j h1 h2 => h j h1 (by omega)
    have h2 := h (i + c) (by omega) (by omega)
    rw [← Nat.add_assoc]
    simp only [sm]
    rw [h2]; omega

theorem sm_lt {x : Nat → Nat} (h : ∀ j, x j < 4294967296) (k : Nat) : sm x k < pw k := by
  induction k with
  | zero => simp [sm, pw]
  | succ k ih =>
    simp only [sm, pw]
    have : pw k * x k ≤ pw k * 4294967295 := Nat.mul_le_mul_left _ (by have := h k; omega)
    omega

theorem sm_less {x y : Nat → Nat} (hx : ∀ j, x j < 4294967296) {i n : Nat} (hi : i < n) (h : ∀ j, i < j → j < n → x j = y j) (hl : x i < y i) : sm x n < sm y n := by
  have h1 := sm_same (x := x) (y := y) (i := i + 1) (n := n) (by omega) fun j a b => h j (by omega) b
  have h2 := sm_lt hx i
  simp only [sm] at h1
  have h3 : pw i * x i + pw i ≤ pw i * y i := by
    rw [← Nat.mul_succ]; exact Nat.mul_le_mul_left _ hl
  omega

/-- In short: each limb has 32 bits, and the last one is not 0. -/
def Can (l : List Nat) : Prop := Lim l ∧ (0 < l.length → at0 l (l.length - 1) ≠ 0)

theorem Can.nil : Can [] := ⟨fun x hx => by simp at hx, by simp⟩

theorem Can.tail {x : Nat} {l : List Nat} (h : Can (x :: l)) : Can l := by
  refine ⟨fun y hy => h.1 y (List.mem_cons_of_mem _ hy), fun h0 => ?_⟩
  have := h.2 (by simp)
  obtain ⟨n, hn⟩ : ∃ n, l.length = n + 1 := ⟨l.length - 1, by omega⟩
  simp only [List.length_cons, hn, Nat.add_sub_cancel] at this ⊢
  simpa [at0] using this

theorem Can.zero {l : List Nat} (h : Can l) (hv : val l = 0) : l = [] := by
  induction l with
  | nil => rfl
  | cons x l ih =>
    simp only [val] at hv
    have e := ih h.tail (by omega)
    subst e
    exact absurd (by omega : x = 0) (by simpa [at0] using h.2 (by simp))

theorem Can.inj {l m : List Nat} (hl : Can l) (hm : Can m) (h : val l = val m) : l = m := by
  induction l generalizing m with
  | nil => exact (hm.zero (by rw [← h]; rfl)).symm
  | cons x l ih =>
    cases m with
    | nil => exact hl.zero (by rw [h]; rfl)
    | cons y m =>
      simp only [val] at h
      have hx := hl.1 x (List.mem_cons_self)
      have hy := hm.1 y (List.mem_cons_self)
      obtain rfl : x = y := by omega
      rw [ih hl.tail hm.tail (by omega)]

theorem Can.le {l : List Nat} (h : Can l) (h0 : 0 < l.length) : pw (l.length - 1) ≤ val l := by
  have h1 := h.2 h0
  have e := sm_all l (k := l.length - 1 + 1) (by omega)
  simp only [sm] at e
  have : pw (l.length - 1) * 1 ≤ pw (l.length - 1) * at0 l (l.length - 1) := Nat.mul_le_mul_left _ (by omega)
  omega

theorem Can.len {l : List Nat} (h : Can l) {k : Nat} (hv : val l < pw k) : l.length ≤ k := by
  by_cases h0 : l.length ≤ k
  · exact h0
  · have h1 := h.le (by omega)
    have h2 := pw_le (show k ≤ l.length - 1 by omega)
    omega

/-- What is left of a list when the limbs 0 at its end are taken off. -/
theorem cut_can {l : List Nat} {n k : Nat} (hn : n = l.length) (hL : Lim l) (hk : k ≤ n) (hz : ∀ j, k ≤ j → j < n → at0 l j = 0) (h0 : 0 < k → at0 l (k - 1) ≠ 0) : Can (l.take k) ∧ val (l.take k) = val l ∧ (l.take k).length = k := by
  subst hn
  have hlen : (l.take k).length = k := by rw [List.length_take]; omega
  refine ⟨⟨fun x hx => hL x (List.mem_of_mem_take hx), fun h => ?_⟩, ?_, hlen⟩
  · rw [hlen] at h ⊢
    have : at0 (l.take k) (k - 1) = at0 l (k - 1) := by
      unfold at0; rw [List.getD_eq_getElem?_getD, List.getD_eq_getElem?_getD, List.getElem?_take_of_lt (by omega)]
    rw [this]; exact h0 h
  · rw [← sm_take, ← sm_all l (Nat.le_refl _), sm_zeros hk hz]

theorem at0_lt' {l : List Nat} (h : Lim l) (k : Nat) : at0 l k < 4294967296 := at0_lt h k

theorem val_small {l : List Nat} (h : Lim l) {k : Nat} (hk : l.length ≤ k) : val l < pw k := Nat.lt_of_lt_of_le (val_lt l h) (pw_le hk)

end Go.Proofs.YtkfododihdopiaaDoor
