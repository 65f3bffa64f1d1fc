/-
  Of a number's text: which bytes it has, how many slashes; the text of the number the other way round; whole numbers' texts.
-/
import Derived.Test.YtepacminjfeliaaDoorBody3
namespace Go.Proofs.YtepacminjfeliaaDoor
open Go.RowKit

theorem dec_digs (n : Nat) : ∀ b ∈ dec n, 48 ≤ b.toNat ∧ b.toNat ≤ 57 := fun b hb => by
  have := (dec_dec n).1 b hb
  exact this

theorem rtxt_bytes (q : Rat) (i : Nat) (b : UInt8) (h : (rtxt q)[i]? = some b) : (48 ≤ b.toNat ∧ b.toNat ≤ 57) ∨ b = 47 ∨ (b = 45 ∧ i = 0) := by
  unfold rtxt at h
  have hrest : ∀ j : Nat, (dec q.num.natAbs ++ (if q.den = 1 then [] else 47 :: dec q.den) : List UInt8)[j]? = some b → (48 ≤ b.toNat ∧ b.toNat ≤ 57) ∨ b = 47 := by
    intro j hj
    have hm := List.mem_of_getElem? hj
    rcases List.mem_append.1 hm with h1 | h1
    · exact .inl (dec_digs _ b h1)
    · split at h1
      · simp at h1
      · rcases List.mem_cons.1 h1 with h1 | h1
        · exact .inr h1
        · exact .inl (dec_digs _ b h1)
  split at h
  · cases i with
    | zero => simp at h; exact .inr (.inr ⟨h.symm, rfl⟩)
    | succ i =>
      rw [List.singleton_append, List.getElem?_cons_succ] at h
      rcases hrest i h with h1 | h1
      · exact .inl h1
      · exact .inr (.inl h1)
  · rw [List.nil_append] at h
    rcases hrest i h with h1 | h1
    · exact .inl h1
    · exact .inr (.inl h1)

theorem dec_count (n : Nat) : (dec n).count 47 = 0 := by
  rw [List.count_eq_zero]
  intro h
  have := dec_digs n 47 h
  exact absurd this.1 (by decide)

theorem rtxt_count (q : Rat) : (rtxt q).count 47 ≤ 1 := by
  unfold rtxt
  rw [List.count_append, List.count_append, dec_count]
  have h1 : (if q.num < 0 then ([45] : List UInt8) else []).count 47 = 0 := by split <;> rfl
  rw [h1]
  split
  · simp
  · rw [List.count_cons, dec_count]; simp

theorem rtxt_pos (q : Rat) : 0 < (rtxt q).length := by
  have := (dec_dec q.num.natAbs).pos
  unfold rtxt
  simp only [List.length_append]
  omega

theorem rtxt_minus {q : Rat} (h : q.num < 0) : rtxt q = 45 :: rtxt (-q) := by
  unfold rtxt
  rw [if_pos h, Rat.neg_num, Rat.neg_den, Int.natAbs_neg, if_neg (show ¬ (-q.num < 0) by omega)]
  rfl

theorem rtxt_plus {q : Rat} (h : 0 < q.num) : rtxt (-q) = 45 :: rtxt q := by
  have := rtxt_minus (q := -q) (by rw [Rat.neg_num]; omega)
  rwa [Rat.neg_neg] at this

theorem T_at (q : Rat) (k : Nat) (h : k < (T q).size) : (rtxt q)[k]? = some ((T q)[k]'h) := by
  have := by0_at (T q) k h
  rwa [T_by0] at this

theorem whole_text' (n : Int) : rtxt (n : Rat) = (if n < 0 then [45] else []) ++ dec n.natAbs := by
  unfold rtxt
  rw [Rat.num_intCast, Rat.den_intCast, if_pos rfl, List.append_nil]

theorem whole_size (n : Int) (h : n.natAbs < 10 ^ 20) : Size (n : Rat) 20 1 := by
  refine ⟨decide (n < 0), n.natAbs, 1, ?_, by decide, h, by decide⟩
  unfold qv
  rw [sgn_abs]
  exact (Rat.mkRat_one n).symm

end Go.Proofs.YtepacminjfeliaaDoor
