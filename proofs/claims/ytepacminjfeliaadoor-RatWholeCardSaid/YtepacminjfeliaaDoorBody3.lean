/-
  What the bodies of layer 3's laws share: Norm of a short text, sizes, literals.
-/
import Derived.Test.YtepacminjfeliaaDoorG14
namespace Go.Proofs.YtepacminjfeliaaDoor
open Go.RowKit

/-- What Norm answers of a short text: a number's text, or an error. -/
theorem norm_short {s : ByteArray} (hs : s.size ≤ 160) : ∃ (t : ByteArray) (g : Int), (∀ w, Calls Tryd.prog 10 #[.string s] w fun e w' => e = .returned (.tuple #[.string t, .int .i64 g]) ∧ Below w.heap.size w w') ∧
    (((g = 12 ∨ g = 21) ∧ t = ⟨#[]⟩ ∧ (¬ Formed (by0 s) ∨ num (behind (by0 s)) = 0)) ∨ (g = 0 ∧ t = T (worth (by0 s)) ∧ Size (worth (by0 s)) 160 160 ∧ Formed (by0 s) ∧ num (behind (by0 s)) ≠ 0)) := by
  have hlen := by0_len s
  by_cases hf : Formed (by0 s)
  · by_cases h0 : num (behind (by0 s)) = 0
    · exact ⟨_, 21, fun w => norm_zero w hf (by omega) h0, .inl ⟨.inr rfl, rfl, .inr h0⟩⟩
    · have hz := size_of hf.1 hf.2 h0 (k := 160) (by omega) (by decide)
      have hg : Good (by0 (T (worth (by0 s)))) := by rw [T_by0]; exact hz.good (by decide) (by decide) (by decide)
      exact ⟨_, 0, fun w => norm_to w hf (by omega) h0 hg (by rw [T_worth]), .inr ⟨rfl, rfl, hz, hf, h0⟩⟩
  · exact ⟨_, 12, fun w => norm_form w (by omega) hf, .inl ⟨.inl rfl, rfl, .inl hf⟩⟩

theorem Size.T {q : Rat} {i j : Nat} (h : Size q i j) (hi : 1 ≤ i) (hj : 1 ≤ j) (hl : i + j + 2 ≤ 1900) : Good (by0 (T q)) := by rw [T_by0]; exact h.good hi hj hl

theorem one_good : Good [49] := good_of (by decide) (by decide) (by decide) (by decide)
theorem one_worth : worth [49] = 1 := by decide +kernel
theorem T_zero : T 0 = ⟨#[48]⟩ := by unfold T; rw [rtxt_zero]
theorem T_one : T 1 = ⟨#[49]⟩ := bytes_eq (by rw [T_by0, show (1 : Rat) = worth [49] from one_worth.symm, one_good.2])
theorem zero_size : Size 0 1 1 := ⟨false, 0, 1, by decide +kernel, by decide, by decide, by decide⟩
theorem one_size : Size 1 1 1 := ⟨false, 1, 1, by decide +kernel, by decide, by decide, by decide⟩
theorem T_nought (q : Rat) : ((T q).toList == [48]) = decide (q = 0) := by
  by_cases h : q = 0
  · rw [decide_eq_true h, h, T_zero, toList_by0]; rfl
  · rw [decide_eq_false h, beq_eq_false_iff_ne]
    intro e
    rw [toList_by0] at e
    exact h (by rw [← T_worth q, e, nought_worth])

end Go.Proofs.YtepacminjfeliaaDoor
