/-
  nat.blend: so many times one number and so many times another, of other signs, where that is from 0 on and not above the first one.
-/
import Derived.Test.YtpijjpjpedcbhaaHeadOne
namespace Go.Proofs.Ytpijjpjpedcbhaa
open Go.RowKit

/-- A carry with its sign. -/
def sgn (c : Nat) : Int := if c < 2147483648 then (c : Int) else (c : Int) - 4294967296

/-- The wide sum of a place. -/
def wideSum (p q : Int) (x y c : Nat) : Int := p * (x : Int) + q * (y : Int) + sgn c

/-- Factors that leave room in 64 bits: of other signs, and below 2^31. -/
def Room (p q : Int) : Prop := (0 ≤ p ∧ p < 2147483648 ∧ q ≤ 0 ∧ -2147483648 < q) ∨ (p ≤ 0 ∧ -2147483648 < p ∧ 0 ≤ q ∧ q < 2147483648)

theorem prod_up {p : Int} {x : Nat} (h0 : 0 ≤ p) (h1 : p < 2147483648) (hx : x < 4294967296) : 0 ≤ p * (x : Int) ∧ p * (x : Int) ≤ 9223372030412324865 := by
  have a := Int.mul_nonneg h0 (Int.natCast_nonneg x)
  have b := Int.mul_le_mul (show p ≤ 2147483647 by omega) (show (x : Int) ≤ 4294967295 by omega) (Int.natCast_nonneg x) (by decide)
  exact ⟨a, by omega⟩

theorem prod_down {p : Int} {x : Nat} (h0 : p ≤ 0) (h1 : -2147483648 < p) (hx : x < 4294967296) : p * (x : Int) ≤ 0 ∧ -9223372030412324865 ≤ p * (x : Int) := by
  have h := prod_up (p := -p) (x := x) (by omega) (by omega) hx
  rw [Int.neg_mul] at h
  omega

theorem wide_fit {p q : Int} {x y c : Nat} (h : Room p q) (hx : x < 4294967296) (hy : y < 4294967296) (hc : c < 4294967296) :
    -9223372036854775808 ≤ wideSum p q x y c ∧ wideSum p q x y c ≤ 9223372036854775807 ∧ wrap64 (wrap64 (wrap64 (p * (x : Int)) + wrap64 (q * (y : Int))) + wrap64 (wrap32 (c : Int))) = wideSum p q x y c := by
  have e : wrap32 (c : Int) = sgn c ∧ -2147483648 ≤ sgn c ∧ sgn c ≤ 2147483647 := by
    unfold wrap32 sgn; split <;> omega
  obtain ⟨e, s1, s2⟩ := e
  unfold wideSum
  rw [e]
  rcases h with ⟨p0, p1, q0, q1⟩ | ⟨p0, p1, q0, q1⟩
  · have a := prod_up p0 p1 hx
    have b := prod_down q0 q1 hy
    generalize p * (x : Int) = P at a ⊢
    generalize q * (y : Int) = Q at b ⊢
    generalize sgn c = s at s1 s2 ⊢
    rw [IntWalk.wrap64_in P (by omega), IntWalk.wrap64_in Q (by omega), IntWalk.wrap64_in (P + Q) (by omega), IntWalk.wrap64_in s (by omega), IntWalk.wrap64_in _ (by omega)]
    omega
  · have a := prod_down p0 p1 hx
    have b := prod_up q0 q1 hy
    generalize p * (x : Int) = P at a ⊢
    generalize q * (y : Int) = Q at b ⊢
    generalize sgn c = s at s1 s2 ⊢
    rw [IntWalk.wrap64_in P (by omega), IntWalk.wrap64_in Q (by omega), IntWalk.wrap64_in (P + Q) (by omega), IntWalk.wrap64_in s (by omega), IntWalk.wrap64_in _ (by omega)]
    omega

set_option maxHeartbeats 400000 in
theorem blend1_any (x y c : Nat) (p q : Int) (a1 a2 : Addr) (w : World) (h : Room p q) (hx : x < 4294967296) (hy : y < 4294967296) (hc : c < 4294967296)
    (hp : w.cell? a1 = some (.int .i64 p)) (hq : w.cell? a2 = some (.int .i64 q)) :
    Calls Try.prog 57 #[.int .u32 (x : Int), .int .u32 (y : Int), .int .u32 (c : Int), .pointer (some a1), .pointer (some a2)] w fun e w' =>
      e = .returned (.tuple #[.int .u32 (wideSum p q x y c % 4294967296), .int .u32 (wideSum p q x y c / 4294967296 % 4294967296)]) ∧ w = w' := by
  have hf := (wide_fit h hx hy hc).2.2
  obtain ⟨S, hS⟩ : ∃ S, S = wideSum p q x y c := ⟨_, rfl⟩
  rw [← hS] at hf ⊢
  have HF := Lib.hid hf; clear hf
  clear hS h
  go_enter Try.func57, Try.ntmps57
  go_wp2
  go_ret2
  have e := HF.out
  exact ⟨ret_two (by show wrap64 _ % 4294967296 = _; rw [e]) (by show wrap64 _ / 4294967296 % 4294967296 = _; rw [e]), rfl⟩

/-- What has been blended so far. -/
def InvBlend (p q : Int) (a b : List Nat) (k : Nat) (l : List Nat) (c : Nat) : Prop := (val l : Int) + (pw k : Int) * sgn c = p * (sm (at0 a) k : Int) + q * (sm (at0 b) k : Int)

theorem blend_step (p q : Int) (h : Room p q) (a b : List Nat) (ha : Lim a) (hb : Lim b) (a1 a2 : Addr) (k : Nat) (l : List Nat) (c : Nat) (w : World) (hl : l.length = k) (hi : InvBlend p q a b k l c) (hc : c < 4294967296)
    (hp : w.cell? a1 = some (.int .i64 p)) (hq : w.cell? a2 = some (.int .i64 q)) :
    Calls Try.prog 57 (#[.int .u32 (at0 a k : Int), .int .u32 (at0 b k : Int), .int .u32 (c : Int)] ++ #[.pointer (some a1), .pointer (some a2)]) w (Stepped (InvBlend p q a b) k l w) := by
  have hx := at0_lt ha k
  have hy := at0_lt hb k
  obtain ⟨f1, f2, _⟩ := wide_fit h hx hy hc
  refine (blend1_any (at0 a k) (at0 b k) c p q a1 a2 w h hx hy hc hp hq).mono ?_
  rintro e w' ⟨rfl, rfl⟩
  have hS : wideSum p q (at0 a k) (at0 b k) c = p * (at0 a k : Int) + q * (at0 b k : Int) + sgn c := rfl
  generalize wideSum p q (at0 a k) (at0 b k) c = S at f1 f2 hS ⊢
  obtain ⟨o, ho⟩ : ∃ o : Nat, S % 4294967296 = (o : Int) := ⟨(S % 4294967296).toNat, by omega⟩
  obtain ⟨c', hc'⟩ : ∃ c' : Nat, S / 4294967296 % 4294967296 = (c' : Int) := ⟨(S / 4294967296 % 4294967296).toNat, by omega⟩
  refine ⟨⟨o, c', by rw [ho, hc'], by omega, by omega, ?_⟩, rfl⟩
  have hs : sgn c' = S / 4294967296 := by unfold sgn; split <;> omega
  have hSo : (o : Int) + 4294967296 * sgn c' = S := by rw [hs]; omega
  unfold InvBlend at hi ⊢
  rw [val_snoc, hl]
  have e1 : ((pw (k + 1) : Nat) : Int) = 4294967296 * (pw k : Int) := by rw [pw_succ, Int.natCast_mul]; rfl
  have e2 : ((sm (at0 a) (k + 1) : Nat) : Int) = (sm (at0 a) k : Int) + (pw k : Int) * (at0 a k : Int) := by
    show ((sm (at0 a) k + pw k * at0 a k : Nat) : Int) = _
    rw [Int.natCast_add, Int.natCast_mul]
  have e3 : ((sm (at0 b) (k + 1) : Nat) : Int) = (sm (at0 b) k : Int) + (pw k : Int) * (at0 b k : Int) := by
    show ((sm (at0 b) k + pw k * at0 b k : Nat) : Int) = _
    rw [Int.natCast_add, Int.natCast_mul]
  rw [e1, e2, e3, Int.natCast_add, Int.natCast_mul, Int.mul_add, Int.mul_add]
  have m := congrArg ((pw k : Int) * ·) hSo
  have m2 := congrArg ((pw k : Int) * ·) hS
  simp only [Int.mul_add] at m m2
  rw [Int.mul_left_comm (pw k : Int) p, Int.mul_left_comm (pw k : Int) q] at m2
  rw [Int.mul_left_comm (pw k : Int) 4294967296] at m
  rw [Int.mul_assoc]
  omega

end Go.Proofs.Ytpijjpjpedcbhaa
