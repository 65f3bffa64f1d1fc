/-
  nat.Sub: the difference of two lists, where the first one is not less; nothing and false otherwise. No condition but that each has at most ten thousand limbs.
-/
import Derived.Test.YtkfododihdopiaaDoorAdd
namespace Go.Proofs.YtkfododihdopiaaDoor
open Go.RowKit

/-- What has been taken away so far. -/
def InvSub (a b : List Nat) (k : Nat) (l : List Nat) (c : Nat) : Prop := val l + sm (at0 b) k = sm (at0 a) k + pw k * c ∧ c ≤ 1

theorem sub_limb (x y c : Nat) (hx : x < 4294967296) (hy : y < 4294967296) (hc : c ≤ 1) : (x + 4294967296 - y - c) % 4294967296 + y + c = x + 4294967296 * bor x y c := by
  unfold bor; split <;> omega

theorem InvSub.step {a b : List Nat} (ha : Lim a) (hb : Lim b) {k : Nat} {l : List Nat} {c : Nat} (h : InvSub a b k l c) (hl : l.length = k) :
    InvSub a b (k + 1) (l ++ [(at0 a k + 4294967296 - at0 b k - c) % 4294967296]) (bor (at0 a k) (at0 b k) c) := by
  obtain ⟨h, hc⟩ := h
  refine ⟨?_, bor_le _ _ _⟩
  have e := congrArg (pw k * ·) (sub_limb _ _ c (at0_lt ha k) (at0_lt hb k) hc)
  simp only [sm]
  rw [val_snoc, hl, pw_succ, Nat.mul_comm 4294967296 (pw k), Nat.mul_assoc]
  simp only [Nat.mul_add] at e
  omega

theorem sub32_step (a b : List Nat) (ha : Lim a) (hb : Lim b) (k : Nat) (l : List Nat) (c : Nat) (w : World) (hl : l.length = k) (h : InvSub a b k l c) :
    Calls Tryd.prog 60 (#[.int .u32 (at0 a k : Int), .int .u32 (at0 b k : Int), .int .u32 (c : Int)] ++ #[]) w (Stepped (InvSub a b) k l w) := by
  refine (sub32_any _ _ _ w (at0_lt ha k) (at0_lt hb k) h.2).mono ?_
  rintro e w' ⟨rfl, rfl⟩
  exact ⟨⟨_, _, rfl, Nat.mod_lt _ (by decide), by have := bor_le (at0 a k) (at0 b k) c; omega, h.step ha hb hl⟩, rfl⟩

/-- What Sub answers of numbers worth A and B. -/
def SubMade (w : World) (A B : Nat) (e : Ending) (w' : World) : Prop :=
  (B ≤ A ∧ ∃ ad n cap l, e = .returned (.tuple #[.slice ad n cap, .bool true]) ∧ Rd w' (.slice ad n cap) l ∧ Can l ∧ val l = A - B ∧ Below w.heap.size w w') ∨
  (A < B ∧ e = .returned (.tuple #[.slice none 0 0, .bool false]) ∧ Below w.heap.size w w')

end Go.Proofs.YtkfododihdopiaaDoor
