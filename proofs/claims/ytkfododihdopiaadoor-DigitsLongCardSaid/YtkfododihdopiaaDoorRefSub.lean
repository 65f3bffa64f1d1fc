/-
  The document's answer: its Sub. No condition but the lists' lengths.
-/
import Derived.Test.YtkfododihdopiaaDoorRefBit
namespace Go.Proofs.YtkfododihdopiaaDoor
open Go.RowKit

/-- What the document's Sub answers of numbers worth A and B. -/
def OSubMade (w : World) (A B : Nat) (e : Ending) (w' : World) : Prop :=
  (B ≤ A ∧ ∃ ad n cap l, e = .returned (.tuple #[.slice ad n cap, .bool true]) ∧ Owns w' w.heap.size (.slice ad n cap) l ∧ Rd w' (.slice ad n cap) l ∧ Can l ∧ val l = A - B ∧ Below w.heap.size w w') ∨
  (A < B ∧ e = .returned (.tuple #[.slice none 0 0, .bool false]) ∧ Below w.heap.size w w')

theorem sm_over {l : List Nat} {n : Nat} (hv : val l < pw n) : sm (at0 l) n = val l := by
  rw [sm_take]
  have h := val_append (l.take n) (l.drop n)
  rw [List.take_append_drop] at h
  by_cases h0 : n < l.length
  · have h1 : (l.take n).length = n := by rw [List.length_take]; omega
    rw [h1] at h
    rcases Nat.eq_zero_or_pos (val (l.drop n)) with h2 | h2
    · rw [h, h2]; simp
    · have := Nat.mul_le_mul_left (pw n) h2
      omega
  · rw [List.take_of_length_le (by omega)]

theorem sub_parts (x y c : Nat) (hx : x < 4294967296) (hy : y < 4294967296) (hc : c ≤ 1) :
    ∃ o d : Nat, o = (x + 4294967296 - y - c) % 4294967296 ∧ bor x y c + d = 1 ∧ o < 4294967296 ∧ ((4294967296 : Int) + (x : Int) - (y : Int) - (c : Int)) % 4294967296 = (o : Int) ∧ ((4294967296 : Int) + (x : Int) - (y : Int) - (c : Int)) / 4294967296 = (d : Int) := by
  refine ⟨_, 1 - bor x y c, rfl, ?_, Nat.mod_lt _ (by decide), by omega, ?_⟩
  · have := bor_le x y c; omega
  · unfold bor; split <;> omega

/-- In the loop of the document's Sub. -/
def RSubAt (w : World) (a b : List Nat) (k : Nat) (v : Value) (c : Nat) (wr : World) : Prop :=
  ∃ l, Owns wr w.heap.size v l ∧ l.length = k ∧ Lim l ∧ c ≤ 1 ∧ InvSub a b k l c ∧ Below w.heap.size w wr

end Go.Proofs.YtkfododihdopiaaDoor
