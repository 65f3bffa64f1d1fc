/-
  Euclid's row of two numbers, gone along by their topmost bits: plain numbers. Nothing of the program is in here. No condition.
-/
import Derived.Test.YtpijjpjpedcbhaaForms
namespace Go.Proofs.Ytpijjpjpedcbhaa

/-- The factors of two numbers of Euclid's row, by their sizes; even: a and d are from 0 on, b and c are not above 0; odd: the other way round. -/
structure Near (even : Bool) (x0 y0 x y A B C D : Nat) : Prop where
  le : y ≤ x
  ex : x0 = D * x + B * y
  ey : y0 = C * x + A * y
  det : if even then A * D = B * C + 1 else B * C = A * D + 1
  pos : B ≠ 0 → 0 < C ∧ 0 < D
  good : B = 0 ∨ (if even then C ≤ y ∧ B + D + y < x else D ≤ y ∧ A + C + y < x)
  sA : A < 2147483648
  sB : B < 2147483648
  sC : C < 2147483648
  sD : D < 2147483648

theorem Near.zero {x0 y0 : Nat} (h : y0 ≤ x0) : Near true x0 y0 x0 y0 1 0 0 1 :=
  ⟨h, by omega, by omega, by decide, by simp, .inl rfl, by decide, by decide, by decide, by decide⟩

theorem small_of_sq {n m z : Nat} (h : n * m ≤ z) (hz : z < 4611686018427387904) (hm : n ≤ m) : n < 2147483648 := by
  rcases Nat.lt_or_ge n 2147483648 with c | c
  · exact c
  · have h1 := Nat.mul_le_mul c (Nat.le_trans c hm)
    omega

/-- One step on: the quotient is the same whatever stands below. -/
theorem Near.step {even : Bool} {x0 y0 x y A B C D q y' : Nat} (h : Near even x0 y0 x y A B C D) (h0 : x0 < 4611686018427387904) (h1 : y0 < 4611686018427387904) (hy : x = q * y + y')
    (lo : if even then B + q * (y + D) ≤ x else A + q * (y + C) ≤ x) (hi : if even then x + A + q * C + C < q * y + y else x + B + q * D + D < q * y + y) :
    Near (!even) x0 y0 y y' C D (A + q * C) (B + q * D) ∧ y' < y := by
  have hx := h.ex
  have hyy := h.ey
  have hdet := h.det
  have e1 : x0 = (B + q * D) * y + D * y' := by rw [hx, hy, Nat.mul_add, Nat.add_mul]; have : D * (q * y) = q * D * y := by rw [← Nat.mul_assoc, Nat.mul_comm D q]
                                                omega
  have e2 : y0 = (A + q * C) * y + C * y' := by rw [hyy, hy, Nat.mul_add, Nat.add_mul]; have : C * (q * y) = q * C * y := by rw [← Nat.mul_assoc, Nat.mul_comm C q]
                                                omega
  have b1 : (B + q * D) * y ≤ x0 := by omega
  have b2 : (A + q * C) * y ≤ y0 := by omega
  cases even with
  | true =>
    simp only [if_true, Bool.not_true] at lo hi hdet ⊢
    have l1 : B + q * D ≤ y' := by rw [Nat.mul_add] at lo; omega
    have l2 : A + q * C + C + y' < y := by omega
    have dd : (if false = true then C * (B + q * D) = D * (A + q * C) + 1 else D * (A + q * C) = C * (B + q * D) + 1) := by
      rw [if_neg (by decide), Nat.mul_add, Nat.mul_add, Nat.mul_comm D A, hdet, Nat.mul_comm C B, Nat.mul_left_comm D q C, Nat.mul_left_comm C q D, Nat.mul_comm D C]
      omega
    have hq : q ≠ 0 := by
      intro hq; subst hq
      have := h.le
      simp only [Nat.zero_mul] at hi hy
      omega
    have hA : A ≠ 0 := by intro hA; rw [hA, Nat.zero_mul] at hdet; omega
    have hD : D ≠ 0 := by intro hD; rw [hD, Nat.mul_zero] at hdet; omega
    have hqD : 0 < q * D := Nat.mul_pos (by omega) (by omega)
    exact ⟨⟨by omega, e1, e2, dd, fun _ => ⟨by omega, by omega⟩, .inr (by rw [if_neg (by decide)]; omega), h.sC, h.sD, small_of_sq b2 h1 (by omega), small_of_sq b1 h0 (by omega)⟩, by omega⟩
  | false =>
    simp only [Bool.false_eq_true, if_false, Bool.not_false] at lo hi hdet ⊢
    have l1 : A + q * C ≤ y' := by rw [Nat.mul_add] at lo; omega
    have l2 : B + q * D + D + y' < y := by omega
    have dd : (if true = true then C * (B + q * D) = D * (A + q * C) + 1 else D * (A + q * C) = C * (B + q * D) + 1) := by
      rw [if_pos rfl, Nat.mul_add, Nat.mul_add, Nat.mul_comm C B, hdet, Nat.mul_comm D A, Nat.mul_left_comm D q C, Nat.mul_left_comm C q D, Nat.mul_comm D C]
      omega
    have hq : q ≠ 0 := by
      intro hq; subst hq
      have := h.le
      simp only [Nat.zero_mul] at hi hy
      omega
    have hB : B ≠ 0 := by intro hB; rw [hB, Nat.zero_mul] at hdet; omega
    have hC : C ≠ 0 := by intro hC; rw [hC, Nat.mul_zero] at hdet; omega
    have hqC : 0 < q * C := Nat.mul_pos (by omega) (by omega)
    exact ⟨⟨by omega, e1, e2, dd, fun _ => ⟨by omega, by omega⟩, .inr (by rw [if_pos rfl]; omega), h.sC, h.sD, small_of_sq b2 h1 (by omega), small_of_sq b1 h0 (by omega)⟩, by omega⟩

/-- What the factors make of the whole numbers, of which x0 and y0 are the topmost bits. -/
theorem Near.whole {even : Bool} {x0 y0 x y A B C D T X Y : Nat} (h : Near even x0 y0 x y A B C D) (hB : B ≠ 0) (hT : 0 < T) (hx : x0 = X / T) (hy : y0 = Y / T) :
    ∃ X' Y' : Nat, Y' < X' ∧ (if even then X' + B * Y = A * X ∧ Y' + C * X = D * Y else X' + A * X = B * Y ∧ Y' + D * Y = C * X) := by
  have good := h.good.resolve_left hB
  have eX := Nat.div_add_mod X T
  have eY := Nat.div_add_mod Y T
  have lX := Nat.mod_lt X hT
  have lY := Nat.mod_lt Y hT
  rw [← hx] at eX
  rw [← hy] at eY
  generalize X % T = xl at eX lX
  generalize Y % T = yl at eY lY
  have ex := h.ex
  have ey := h.ey
  have det := h.det
  have hT1 : ∀ a b : Nat, b ≤ T → a * b ≤ a * T := fun a b hb => Nat.mul_le_mul_left a hb
  cases even with
  | true =>
    simp only [if_true] at good det ⊢
    obtain ⟨g1, g2⟩ := good
    -- A x0 = x + B y0, D y0 = y + C x0
    have p1 : A * x0 = x + B * y0 := by
      rw [ex, ey, Nat.mul_add, Nat.mul_add, ← Nat.mul_assoc, det, Nat.add_mul, Nat.one_mul, ← Nat.mul_assoc, ← Nat.mul_assoc, ← Nat.mul_assoc, Nat.mul_comm B A]; omega
    have p2 : D * y0 = y + C * x0 := by
      rw [ex, ey, Nat.mul_add, Nat.mul_add, ← Nat.mul_assoc, ← Nat.mul_assoc D A, Nat.mul_comm D A, det, Nat.add_mul, Nat.one_mul, ← Nat.mul_assoc, ← Nat.mul_assoc, Nat.mul_comm D C, Nat.mul_comm C B]; omega
    have q1 : A * X = T * x + B * (T * y0) + A * xl := by rw [← eX, Nat.mul_add, Nat.mul_left_comm, p1, Nat.mul_add, Nat.mul_left_comm T B]
    have q2 : D * Y = T * y + C * (T * x0) + D * yl := by rw [← eY, Nat.mul_add, Nat.mul_left_comm, p2, Nat.mul_add, Nat.mul_left_comm T C]
    have r1 : B * Y = B * (T * y0) + B * yl := by rw [← eY, Nat.mul_add]
    have r2 : C * X = C * (T * x0) + C * xl := by rw [← eX, Nat.mul_add]
    have s1 := hT1 B yl (by omega)
    have s2 := hT1 C xl (by omega)
    have s3 := hT1 D yl (by omega)
    have t1 : (B + D + y + 1) * T ≤ x * T := Nat.mul_le_mul_right _ g2
    have t2 : C * T ≤ y * T := Nat.mul_le_mul_right _ g1
    rw [Nat.add_mul, Nat.add_mul, Nat.add_mul, Nat.one_mul] at t1
    rw [Nat.mul_comm T x] at q1
    rw [Nat.mul_comm T y] at q2
    exact ⟨A * X - B * Y, D * Y - C * X, by omega, by omega, by omega⟩
  | false =>
    simp only [Bool.false_eq_true, if_false] at good det ⊢
    obtain ⟨g1, g2⟩ := good
    have p1 : B * y0 = x + A * x0 := by
      rw [ex, ey, Nat.mul_add, Nat.mul_add, ← Nat.mul_assoc, det, Nat.add_mul, Nat.one_mul, ← Nat.mul_assoc, ← Nat.mul_assoc, ← Nat.mul_assoc, Nat.mul_comm B A]; omega
    have p2 : C * x0 = y + D * y0 := by
      rw [ex, ey, Nat.mul_add, Nat.mul_add, ← Nat.mul_assoc, ← Nat.mul_assoc C B, Nat.mul_comm C B, det, Nat.add_mul, Nat.one_mul, ← Nat.mul_assoc, ← Nat.mul_assoc, Nat.mul_comm C D, Nat.mul_comm D A]; omega
    have q1 : B * Y = T * x + A * (T * x0) + B * yl := by rw [← eY, Nat.mul_add, Nat.mul_left_comm, p1, Nat.mul_add, Nat.mul_left_comm T A]
    have q2 : C * X = T * y + D * (T * y0) + C * xl := by rw [← eX, Nat.mul_add, Nat.mul_left_comm, p2, Nat.mul_add, Nat.mul_left_comm T D]
    have r1 : A * X = A * (T * x0) + A * xl := by rw [← eX, Nat.mul_add]
    have r2 : D * Y = D * (T * y0) + D * yl := by rw [← eY, Nat.mul_add]
    have s1 := hT1 A xl (by omega)
    have s2 := hT1 D yl (by omega)
    have s3 := hT1 C xl (by omega)
    have t1 : (A + C + y + 1) * T ≤ x * T := Nat.mul_le_mul_right _ g2
    have t2 : D * T ≤ y * T := Nat.mul_le_mul_right _ g1
    rw [Nat.add_mul, Nat.add_mul, Nat.add_mul, Nat.one_mul] at t1
    rw [Nat.mul_comm T x] at q1
    rw [Nat.mul_comm T y] at q2
    exact ⟨B * Y - A * X, C * X - D * Y, by omega, by omega, by omega⟩

/-- The whole numbers behind are smaller, and what divides both is the same. -/
theorem Near.gcd {even : Bool} {x0 y0 x y A B C D X Y X' Y' : Nat} (h : Near even x0 y0 x y A B C D)
    (he : if even then X' + B * Y = A * X ∧ Y' + C * X = D * Y else X' + A * X = B * Y ∧ Y' + D * Y = C * X) :
    X = D * X' + B * Y' ∧ Y = C * X' + A * Y' ∧ Nat.gcd X' Y' = Nat.gcd X Y := by
  have det := h.det
  have key : X = D * X' + B * Y' ∧ Y = C * X' + A * Y' := by
    cases even with
    | true =>
      simp only [if_true] at he det
      obtain ⟨e1, e2⟩ := he
      have f1 := congrArg (D * ·) e1
      have f2 := congrArg (B * ·) e2
      have f3 := congrArg (C * ·) e1
      have f4 := congrArg (A * ·) e2
      simp only [Nat.mul_add, ← Nat.mul_assoc] at f1 f2 f3 f4
      rw [Nat.mul_comm D A, det, Nat.add_mul, Nat.one_mul] at f1
      rw [det, Nat.add_mul, Nat.one_mul] at f4
      rw [Nat.mul_comm D B] at f1
      rw [Nat.mul_comm C B, Nat.mul_comm C A] at f3
      exact ⟨by omega, by omega⟩
    | false =>
      simp only [Bool.false_eq_true, if_false] at he det
      obtain ⟨e1, e2⟩ := he
      have f1 := congrArg (D * ·) e1
      have f2 := congrArg (B * ·) e2
      have f3 := congrArg (C * ·) e1
      have f4 := congrArg (A * ·) e2
      simp only [Nat.mul_add, ← Nat.mul_assoc] at f1 f2 f3 f4
      rw [Nat.mul_comm D A, Nat.mul_comm D B] at f1
      rw [det, Nat.add_mul, Nat.one_mul] at f2
      rw [Nat.mul_comm C B, det, Nat.add_mul, Nat.one_mul, Nat.mul_comm C A] at f3
      exact ⟨by omega, by omega⟩
  obtain ⟨k1, k2⟩ := key
  refine ⟨k1, k2, ?_⟩
  apply Nat.dvd_antisymm
  · apply Nat.dvd_gcd
    · rw [k1]; exact Nat.dvd_add (Nat.dvd_mul_left_of_dvd (Nat.gcd_dvd_left _ _) _) (Nat.dvd_mul_left_of_dvd (Nat.gcd_dvd_right _ _) _)
    · rw [k2]; exact Nat.dvd_add (Nat.dvd_mul_left_of_dvd (Nat.gcd_dvd_left _ _) _) (Nat.dvd_mul_left_of_dvd (Nat.gcd_dvd_right _ _) _)
  · have d1 : Nat.gcd X Y ∣ A * X := Nat.dvd_mul_left_of_dvd (Nat.gcd_dvd_left _ _) _
    have d2 : Nat.gcd X Y ∣ B * Y := Nat.dvd_mul_left_of_dvd (Nat.gcd_dvd_right _ _) _
    have d3 : Nat.gcd X Y ∣ C * X := Nat.dvd_mul_left_of_dvd (Nat.gcd_dvd_left _ _) _
    have d4 : Nat.gcd X Y ∣ D * Y := Nat.dvd_mul_left_of_dvd (Nat.gcd_dvd_right _ _) _
    cases even with
    | true =>
      simp only [if_true] at he
      apply Nat.dvd_gcd
      · exact (Nat.dvd_add_left d2).1 (he.1 ▸ d1)
      · exact (Nat.dvd_add_left d3).1 (he.2 ▸ d4)
    | false =>
      simp only [Bool.false_eq_true, if_false] at he
      apply Nat.dvd_gcd
      · exact (Nat.dvd_add_left d1).1 (he.1 ▸ d2)
      · exact (Nat.dvd_add_left d4).1 (he.2 ▸ d3)

end Go.Proofs.Ytpijjpjpedcbhaa
