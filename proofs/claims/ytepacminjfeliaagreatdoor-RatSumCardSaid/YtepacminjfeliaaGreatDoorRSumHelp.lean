/-
  What the body of the law of sums needs: Norm of a short text, a sum so far, the sums of rows.
-/
import Derived.Test.YtepacminjfeliaaGreatDoorRowS
import Derived.Test.YtepacminjfeliaaGreatDoorQSumBad
import Derived.Test.YtepacminjfeliaaGreatDoorG14
namespace Go.Proofs.YtepacminjfeliaaGreatDoor
open Go.RowKit

/-- What Norm answers of a text of forty bytes at most. -/
theorem norm_forty {s : ByteArray} (hs : s.size ≤ 40) : ∃ (t : ByteArray) (g : Int), (∀ w, Calls Tryz.prog 7 #[.string s] w fun e w' => e = .returned (.tuple #[.string t, .int .i64 g]) ∧ Below w.heap.size w w') ∧
    ((g = 12 ∨ g = 21) ∨ (g = 0 ∧ Good (by0 t) ∧ Size (worth (by0 t)) 40 40)) := by
  have hlen := by0_len s
  by_cases hf : Formed (by0 s)
  · by_cases h0 : num (behind (by0 s)) = 0
    · exact ⟨_, 21, fun w => norm_zero w hf (by omega) h0, .inl (.inr rfl)⟩
    · have hz := size_of hf.1 hf.2 h0 (k := 40) (by omega) (by decide)
      have hg : Good (by0 (T (worth (by0 s)))) := by rw [T_by0]; exact hz.good (by decide) (by decide) (by decide)
      exact ⟨T (worth (by0 s)), 0, fun w => norm_to w hf (by omega) h0 hg (by rw [T_worth]), .inr ⟨rfl, hg, by rw [T_worth]; exact hz⟩⟩
  · exact ⟨_, 12, fun w => norm_form w (by omega) hf, .inl (.inl rfl)⟩

/-- The sum so far: its text, or nothing once it was too long. -/
def AllIs (all : ByteArray) (q : Rat) : Prop := (all = T q ∧ (rtxt q).length ≤ 1900) ∨ all = ⟨#[]⟩

theorem void_bad : ¬ Good (by0 ⟨#[]⟩) := fun h => absurd h.formed (by decide)

set_option maxRecDepth 100000 in
set_option maxHeartbeats 4000000 in
theorem plus_all {a b : ByteArray} {q : Rat} (w : World) (ha : AllIs a q) (hb : Good (by0 b)) :
    Calls Tryz.prog 23 #[.string a, .string b] w fun e w' => (∃ u, e = .returned (.string u) ∧ AllIs u (q + worth (by0 b))) ∧ Below w.heap.size w w' := by
  have hsz : a.size ≤ 1000000 := by
    rcases ha with ⟨rfl, h⟩ | rfl
    · rw [← by0_len, T_by0]; omega
    · decide
  have hc := Lib.hid (nadd_any a b w hsz hb.short)
  have HA := Lib.hid ha
  have HG := Lib.hid hb
  clear ha hb hsz
  go_enter Tryz.func23, Tryz.ntmps23
  go_wp2_with fail
  refine hc.out.mono ?_
  rintro e w1 ⟨HB, ⟨h1, rfl⟩ | ⟨h1, ⟨hl, t, rfl, ht⟩ | ⟨hl, rfl⟩⟩⟩
  · clear h1
    go_wp2
    go_ret
    exact ⟨⟨_, rfl, .inr rfl⟩, HB⟩
  · have HL := Lib.hid hl
    have HT := Lib.hid ht
    have H1 := Lib.hid h1
    clear hl ht h1
    go_wp2
    go_ret
    refine ⟨⟨_, rfl, .inl ?_⟩, HB⟩
    rcases HA.out with ⟨e, -⟩ | e
    · have e2 : worth (by0 a) = q := by rw [e, T_worth]
      have hl := HL.out
      have ht := HT.out
      rw [e2] at hl ht
      exact ⟨bytes_eq (by rw [ht, T_by0]), hl⟩
    · have := H1.out.1
      rw [e] at this
      exact absurd this void_bad
  · clear hl h1
    go_wp2
    go_ret
    exact ⟨⟨_, rfl, .inr rfl⟩, HB⟩

theorem sumW_cons (s : ByteArray) (S : List ByteArray) : sumW (s :: S) = worth (by0 s) + sumW S := rfl

theorem sumW_append (S R : List ByteArray) : sumW (S ++ R) = sumW S + sumW R := by
  unfold sumW
  rw [List.map_append, sumN_append]

theorem sumW_one (s : ByteArray) : sumW [s] = worth (by0 s) := by
  rw [sumW_cons]
  exact Rat.add_zero _

theorem sumW_perm {S R : List ByteArray} (h : S.Perm R) : sumW S = sumW R := sumN_perm (h.map _)

theorem neg_sum (a n : ByteArray) (h : worth (by0 n) = -worth (by0 a)) : sumW [a, n] = 0 := by
  rw [sumW_cons, sumW_one, h, Rat.add_neg_cancel]

/-- The other order: turned round, from a place on. -/
def turned (S : List ByteArray) (t : Nat) : List ByteArray := (S.take t).reverse ++ (S.drop t).reverse

theorem turned_perm (S : List ByteArray) (t : Nat) : (turned S t).Perm S := by
  unfold turned
  exact (List.Perm.append (List.reverse_perm _) (List.reverse_perm _)).trans (by rw [List.take_append_drop])

end Go.Proofs.YtepacminjfeliaaGreatDoor
