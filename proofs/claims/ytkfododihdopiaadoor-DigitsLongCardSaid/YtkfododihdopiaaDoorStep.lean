/-
  The functions that are handed on to nat.along: bits.Add32, bits.Sub32, and the closures of plus, minus and shift: what each makes of a limb of each number and a carry.
-/
import Derived.Test.YtkfododihdopiaaDoorAlong
namespace Go.Proofs.YtkfododihdopiaaDoor
open Go.RowKit

theorem ret_two {k : IntKind} {a b a' b' : Int} (h1 : a = a') (h2 : b = b') : Ending.returned (.tuple #[.int k a, .int k b]) = .returned (.tuple #[.int k a', .int k b']) := by rw [h1, h2]

set_option maxHeartbeats 400000 in
theorem add32_any (x y c : Nat) (w : World) (hx : x < 4294967296) (hy : y < 4294967296) (hc : c < 4294967296) :
    Calls Tryd.prog 34 #[.int .u32 (x : Int), .int .u32 (y : Int), .int .u32 (c : Int)] w fun e w' =>
      e = .returned (.tuple #[.int .u32 (((x + y + c) % 4294967296 : Nat) : Int), .int .u32 (((x + y + c) / 4294967296 : Nat) : Int)]) ∧ w = w' := by
  go_enter Tryd.func34, Tryd.ntmps34
  go_wp2
  go_ret2
  exact ⟨ret_two (by show (_ : Int) = _; omega) (by show (_ : Int) = _; omega), rfl⟩

/-- What bits.Sub32 owes. -/
def bor (x y c : Nat) : Nat := if x < y + c then 1 else 0

theorem bor_eq (x y c : Nat) (hx : x < 4294967296) (hy : y < 4294967296) (hc : c ≤ 1) :
    bits .or .u32 (bits .and .u32 (bits .xor .u32 IntKind.u32.max x) y) (bits .and .u32 (bits .xor .u32 IntKind.u32.max (bits .xor .u32 x y)) (((x : Int) - y - c) % 4294967296)) / 2147483648 = (bor x y c : Int) := by
  obtain ⟨d, hd⟩ : ∃ d : Nat, d = (x + 4294967296 - y - c) % 4294967296 := ⟨_, rfl⟩
  have hd1 : d < 4294967296 := by omega
  have e0 : ((x : Int) - y - c) % 4294967296 = (d : Int) := by omega
  have em : IntKind.u32.max = ((4294967295 : Nat) : Int) := by decide
  have l1 : ∀ a b : Nat, a < 4294967296 → b < 4294967296 → a ^^^ b < 4294967296 := fun a b ha hb => Nat.xor_lt_two_pow (n := 32) ha hb
  have l2 : ∀ a b : Nat, a < 4294967296 → b < 4294967296 → a &&& b < 4294967296 := fun a b ha hb => Nat.and_lt_two_pow (n := 32) a hb
  have k1 := l1 4294967295 x (by decide) hx
  have k2 := l2 _ y k1 hy
  have k3 := l1 x y hx hy
  have k4 := l1 4294967295 _ (by decide) k3
  have k5 := l2 _ d k4 hd1
  rw [e0, em, u32_xor_nat _ _ (by decide) hx, u32_and_nat _ _ k1 hy, u32_xor_nat _ _ hx hy, u32_xor_nat _ _ (by decide) k3, u32_and_nat _ _ k4 hd1, u32_or_nat _ _ k2 k5]
  have e1 : ∀ a : Nat, a / 2147483648 = a >>> 31 := fun a => (Nat.shiftRight_eq_div_pow a 31).symm
  have e2 : ((((4294967295 ^^^ x) &&& y ||| (4294967295 ^^^ (x ^^^ y)) &&& d) : Nat) : Int) / 2147483648 = (((((4294967295 ^^^ x) &&& y ||| (4294967295 ^^^ (x ^^^ y)) &&& d)) / 2147483648 : Nat) : Int) := by omega
  rw [e2, e1]
  simp only [Nat.shiftRight_or_distrib, Nat.shiftRight_and_distrib, Nat.shiftRight_xor_distrib]
  have e3 : (4294967295 : Nat) >>> 31 = 1 := by decide
  have p1 : (x / 2147483648 = 0 ∧ x >>> 31 = 0) ∨ (x / 2147483648 = 1 ∧ x >>> 31 = 1) := by rw [← e1]; omega
  have p2 : (y / 2147483648 = 0 ∧ y >>> 31 = 0) ∨ (y / 2147483648 = 1 ∧ y >>> 31 = 1) := by rw [← e1]; omega
  have p3 : (d / 2147483648 = 0 ∧ d >>> 31 = 0) ∨ (d / 2147483648 = 1 ∧ d >>> 31 = 1) := by rw [← e1]; omega
  rw [e3]
  have hb : (x < y + c ∧ bor x y c = 1) ∨ (¬ x < y + c ∧ bor x y c = 0) := by
    unfold bor; by_cases h : x < y + c <;> simp [h]
  clear e0 em l1 l2 k1 k2 k3 k4 k5 e1 e2 e3
  rcases p1 with ⟨p1, q1⟩ | ⟨p1, q1⟩ <;> rcases p2 with ⟨p2, q2⟩ | ⟨p2, q2⟩ <;> rcases p3 with ⟨p3, q3⟩ | ⟨p3, q3⟩ <;> rw [q1, q2, q3] <;> rcases hb with ⟨h, hb⟩ | ⟨h, hb⟩ <;> rw [hb] <;> first | rfl | (exfalso; omega)

set_option maxHeartbeats 400000 in
theorem sub32_any (x y c : Nat) (w : World) (hx : x < 4294967296) (hy : y < 4294967296) (hc : c ≤ 1) :
    Calls Tryd.prog 60 #[.int .u32 (x : Int), .int .u32 (y : Int), .int .u32 (c : Int)] w fun e w' =>
      e = .returned (.tuple #[.int .u32 (((x + 4294967296 - y - c) % 4294967296 : Nat) : Int), .int .u32 (bor x y c : Int)]) ∧ w = w' := by
  go_enter Tryd.func60, Tryd.ntmps60
  go_wp2
  go_ret2
  exact ⟨ret_two (by show ((x : Int) - y - c) % 4294967296 = _; omega) (bor_eq x y c hx hy hc), rfl⟩

theorem mul_lt (t y : Nat) (ht : t < 4294967296) (hy : y < 4294967296) : t * y ≤ 18446744065119617025 := by
  have := Nat.mul_le_mul (show t ≤ 4294967295 by omega) (show y ≤ 4294967295 by omega)
  omega

theorem wide1 (t y : Nat) (ht : t < 4294967296) (hy : y < 4294967296) : IntKind.u64.wrap ((t : Int) * y) = ((t * y : Nat) : Int) := by
  have := mul_lt t y ht hy
  rw [← Int.natCast_mul]; exact IntWalk.u64_in _ (by omega)

theorem wide2 (m c : Nat) (hm : m ≤ 18446744065119617025) (hc : c < 4294967296) : IntKind.u64.wrap ((m : Int) + c) = ((m + c : Nat) : Int) := by
  rw [IntWalk.u64_in _ (by omega)]; rfl

theorem wide3 (m x c : Nat) (hm : m ≤ 18446744065119617025) (hx : x < 4294967296) (hc : c < 4294967296) : IntKind.u64.wrap (((m + x : Nat) : Int) + c) = ((m + x + c : Nat) : Int) := by
  rw [IntWalk.u64_in _ (by omega)]; rfl

theorem plus_wide (x y c t : Nat) (hx : x < 4294967296) (hy : y < 4294967296) (hc : c < 4294967296) (ht : t < 4294967296) :
    IntKind.u64.wrap (IntKind.u64.wrap (IntKind.u64.wrap ((t : Int) * y) + x) + c) = ((t * y + x + c : Nat) : Int) := by
  rw [wide1 t y ht hy, wide2 _ x (mul_lt t y ht hy) hx, wide3 _ x c (mul_lt t y ht hy) hx hc]

theorem plus_less (x y c t : Nat) (hx : x < 4294967296) (hy : y < 4294967296) (hc : c < 4294967296) (ht : t < 4294967296) : t * y + x + c < 18446744073709551616 := by
  have := mul_lt t y ht hy; omega

set_option maxHeartbeats 400000 in
theorem plus1_any (x y c t : Nat) (a : Addr) (w : World) (hx : x < 4294967296) (hy : y < 4294967296) (hc : c < 4294967296) (ht : t < 4294967296) (hcell : w.cell? a = some (.int .u32 (t : Int))) :
    Calls Tryd.prog 46 #[.int .u32 (x : Int), .int .u32 (y : Int), .int .u32 (c : Int), .pointer (some a)] w fun e w' =>
      e = .returned (.tuple #[.int .u32 (((t * y + x + c) % 4294967296 : Nat) : Int), .int .u32 (((t * y + x + c) / 4294967296 : Nat) : Int)]) ∧ w = w' := by
  go_enter Tryd.func46, Tryd.ntmps46
  go_wp2
  go_ret2
  have e := plus_wide x y c t hx hy hc ht
  have l := plus_less x y c t hx hy hc ht
  refine ⟨ret_two (a' := (((t * y + x + c) % 4294967296 : Nat) : Int)) ?_ ?_, rfl⟩
  · show IntKind.u64.wrap _ % 4294967296 = _
    rw [e]; rfl
  · show IntKind.u64.wrap _ / 4294967296 % 4294967296 = _
    rw [e]; generalize t * y + x + c = m at l; omega

/-- What shift makes of a limb: a wide sum. -/
theorem shift_wide (x c s : Nat) (hx : x < 4294967296) (hc : c < 2 ^ s) (hs : s ≤ 32) :
    bits .or .u64 (IntKind.u64.wrap ((x : Int) * 2 ^ s)) (IntKind.u64.wrap (c : Int)) = ((2 ^ s * x + c : Nat) : Int) ∧ 2 ^ s * x + c < 18446744073709551616 ∧ (2 ^ s * x + c) / 4294967296 < 2 ^ s := by
  have h2 : 2 ^ s ≤ 4294967296 := Nat.pow_le_pow_right (by decide) hs (n := 2)
  have h3 : 2 ^ s * x ≤ 2 ^ s * 4294967295 := Nat.mul_le_mul_left _ (by omega)
  have h4 : 2 ^ s * 4294967295 ≤ 4294967296 * 4294967295 := Nat.mul_le_mul_right _ h2
  have e : (x : Int) * 2 ^ s = ((2 ^ s * x : Nat) : Int) := by rw [Int.natCast_mul, Int.natCast_pow, Int.mul_comm]; rfl
  rw [e, IntWalk.u64_in _ (by omega), IntWalk.u64_in _ (by omega), u64_or_nat _ _ (by omega) (by omega), nat_join s _ _ (Nat.mul_mod_right _ _) hc]
  refine ⟨rfl, by omega, ?_⟩
  rw [Nat.div_lt_iff_lt_mul (by decide)]
  have : 2 ^ s * 4294967296 = 2 ^ s * 4294967295 + 2 ^ s := by rw [← Nat.mul_succ]
  omega

set_option maxHeartbeats 400000 in
theorem shift1_any (x y c s : Nat) (a : Addr) (w : World) (hx : x < 4294967296) (hc : c < 2 ^ s) (hs : s ≤ 32) (hcell : w.cell? a = some (.int .i64 (s : Int))) :
    Calls Tryd.prog 55 #[.int .u32 (x : Int), .int .u32 (y : Int), .int .u32 (c : Int), .pointer (some a)] w fun e w' =>
      e = .returned (.tuple #[.int .u32 (((2 ^ s * x + c) % 4294967296 : Nat) : Int), .int .u32 (((2 ^ s * x + c) / 4294967296 : Nat) : Int)]) ∧ w = w' := by
  have H := Lib.hid (shift_wide x c s hx hc hs)
  go_enter Tryd.func55, Tryd.ntmps55
  go_wp2
  go_ret2
  obtain ⟨e, l, _⟩ := H.out
  refine ⟨ret_two (a' := (((2 ^ s * x + c) % 4294967296 : Nat) : Int)) ?_ ?_, rfl⟩
  · show bits .or .u64 (IntKind.u64.wrap _) (IntKind.u64.wrap _) % 4294967296 = _
    rw [e]; rfl
  · show bits .or .u64 (IntKind.u64.wrap _) (IntKind.u64.wrap _) / 4294967296 % 4294967296 = _
    rw [e]; generalize 2 ^ s * x + c = m at l; omega

theorem sub32_zero (x y : Nat) (w : World) (hx : x < 4294967296) (hy : y < 4294967296) :
    Calls Tryd.prog 60 #[.int .u32 (x : Int), .int .u32 (y : Int), .int .u32 0] w fun e w' =>
      e = .returned (.tuple #[.int .u32 (((x + 4294967296 - y) % 4294967296 : Nat) : Int), .int .u32 (bor x y 0 : Int)]) ∧ w = w' :=
  sub32_any x y 0 w hx hy (by decide)

theorem bor_le (x y c : Nat) : bor x y c ≤ 1 := by unfold bor; split <;> omega

/-- What minus makes of a limb: no carry is lost. -/
theorem minus_wide (x y c t : Nat) (hx : x < 4294967296) (hy : y < 4294967296) (hc : c < 4294967296) (ht : t < 4294967296) :
    (t * y + c) / 4294967296 + bor x ((t * y + c) % 4294967296) 0 < 4294967296 ∧
    (x + 4294967296 - (t * y + c) % 4294967296) % 4294967296 + t * y + c = x + 4294967296 * ((t * y + c) / 4294967296 + bor x ((t * y + c) % 4294967296) 0) := by
  have hm := mul_lt t y ht hy
  generalize t * y = m at hm
  unfold bor
  split <;> omega

set_option maxHeartbeats 400000 in
theorem minus1_any (x y c t : Nat) (a : Addr) (w : World) (hx : x < 4294967296) (hy : y < 4294967296) (hc : c < 4294967296) (ht : t < 4294967296) (hcell : w.cell? a = some (.int .u32 (t : Int))) :
    Calls Tryd.prog 59 #[.int .u32 (x : Int), .int .u32 (y : Int), .int .u32 (c : Int), .pointer (some a)] w fun e w' =>
      e = .returned (.tuple #[.int .u32 (((x + 4294967296 - (t * y + c) % 4294967296) % 4294967296 : Nat) : Int), .int .u32 (((t * y + c) / 4294967296 + bor x ((t * y + c) % 4294967296) 0 : Nat) : Int)]) ∧ w = w' := by
  have hw := minus_wide x y c t hx hy hc ht
  have hm := mul_lt t y ht hy
  have e1 : IntKind.u64.wrap (IntKind.u64.wrap ((t : Int) * y) + c) = ((t * y + c : Nat) : Int) := by rw [wide1 t y ht hy, wide2 _ c hm hc]
  have hM : t * y + c < 18446744073709551616 := by omega
  generalize t * y + c = M at hM e1 hw
  obtain ⟨l, hl⟩ : ∃ l : Nat, l = M % 4294967296 := ⟨_, rfl⟩
  obtain ⟨h, hh⟩ : ∃ h : Nat, h = M / 4294967296 := ⟨_, rfl⟩
  have e2 : (M : Int) % 4294967296 = (l : Int) := by omega
  have e3 : (M : Int) / 4294967296 = (h : Int) := by omega
  have hl' : l < 4294967296 := by omega
  have hh' : h < 4294967296 := by omega
  rw [← hl, ← hh] at hw ⊢
  have hb := bor_le x l 0
  have hs : (h : Int) + (bor x l 0 : Int) < 4294967296 := by omega
  have Hl := Lib.hid hl; clear hl
  have Hh := Lib.hid hh; clear hh
  have HM := Lib.hid hM; clear hM
  have Hm := Lib.hid hm; clear hm
  have Hw := Lib.hid hw; clear hw
  go_enter Tryd.func59, Tryd.ntmps59
  go_wp2_with fail
  refine (sub32_zero x l w hx hl').mono ?_
  rintro e w' ⟨rfl, rfl⟩
  go_wp2
  go_ret2
  exact ⟨ret_two rfl rfl, rfl⟩

end Go.Proofs.YtkfododihdopiaaDoor
