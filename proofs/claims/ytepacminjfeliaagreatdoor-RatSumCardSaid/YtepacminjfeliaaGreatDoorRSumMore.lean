/-
  The law of sums: what its body meets.
-/
import Derived.Test.YtepacminjfeliaaGreatDoorRSumHelp
namespace Go.Proofs.YtepacminjfeliaaGreatDoor
open Go.RowKit

theorem strs_new (W : World) (K : List ByteArray) (cs : Array Value) (t : TypeId) (e : cs = (K.map Value.string).toArray) : ∀ (j : Nat) (b : ByteArray), K[j]? = some b → (W.alloc (.cells cs t)).cell? ((⟨W.heap.size, 0, none⟩ : Addr).add j) = some (.string b) := by
  intro j b hj
  refine World.news_of_block (heap_alloc_new W (.cells cs t)) j _ ?_
  rw [e]
  simp [hj]

theorem turned_at (S : List ByteArray) (t i : Nat) (hi : i < S.length) : (turned S (t % S.length))[i]? = S[(S.length - 1 - i + t) % S.length]? := by
  have hm : 0 < S.length := by omega
  have hlt := Nat.mod_lt t hm
  have e : (S.length - 1 - i + t) % S.length = (S.length - 1 - i + t % S.length) % S.length := by rw [Nat.add_mod, Nat.add_mod (S.length - 1 - i) (t % S.length), Nat.mod_mod]
  rw [e]
  generalize t % S.length = r at hlt ⊢
  unfold turned
  by_cases h : i < r
  · rw [List.getElem?_append_left (by rw [List.length_reverse, List.length_take]; omega), List.getElem?_reverse (by rw [List.length_take]; omega), List.length_take, Nat.min_eq_left (by omega), List.getElem?_take_of_lt (by omega)]
    congr 1
    rw [Nat.mod_eq_sub_mod (by omega), Nat.mod_eq_of_lt (by omega)]
    omega
  · rw [List.getElem?_append_right (by rw [List.length_reverse, List.length_take]; omega), List.length_reverse, List.length_take, Nat.min_eq_left (by omega), List.getElem?_reverse (by rw [List.length_drop]; omega), List.length_drop, List.getElem?_drop]
    congr 1
    rw [Nat.mod_eq_of_lt (by omega)]
    omega

/-- What the first loop holds: the texts so far, and each with its other. -/
def Two (w wr : World) (vS vK : Value) (S K : List ByteArray) (all : ByteArray) (i : Nat) : Prop :=
  OwnS wr w.heap.size vS S ∧ OwnS wr w.heap.size vK K ∧ ApartS vS vK ∧ S.length ≤ i ∧ K.length ≤ 2 * i ∧ (∀ s ∈ S, Good (by0 s) ∧ Size (worth (by0 s)) 41 41) ∧ (∀ s ∈ K, Good (by0 s) ∧ Size (worth (by0 s)) 41 41) ∧ sumW K = 0 ∧ AllIs all (sumW S)

theorem Two.start (w : World) (wr : World) : Two w wr (.slice none 0 0) (.slice none 0 0) [] [] ⟨#[48]⟩ 0 :=
  ⟨OwnS.nil _ _, OwnS.nil _ _, .inl rfl, Nat.le_refl _, Nat.le_refl _, fun s hs => by simp at hs, fun s hs => by simp at hs, rfl, .inl ⟨(show T 0 = ⟨#[48]⟩ by unfold T; rw [rtxt_zero]).symm, by show (rtxt 0).length ≤ 1900; rw [rtxt_zero]; decide⟩⟩

theorem Two.below {w wr wr' : World} {vS vK : Value} {S K : List ByteArray} {all : ByteArray} {i : Nat} (h : Two w wr vS vK S K all i) (hb : Below wr.heap.size wr wr') : Two w wr' vS vK S K all i :=
  ⟨h.1.below hb, h.2.1.below hb, h.2.2⟩

theorem Two.up {w wr : World} {vS vK : Value} {S K : List ByteArray} {all : ByteArray} {i : Nat} (h : Two w wr vS vK S K all i) : Two w wr vS vK S K all (i + 1) :=
  ⟨h.1, h.2.1, h.2.2.1, by have := h.2.2.2.1; omega, by have := h.2.2.2.2.1; omega, h.2.2.2.2.2⟩

theorem turned_length (S : List ByteArray) (t : Nat) : (turned S t).length = S.length := (turned_perm S t).length_eq

/-- Sum's answer, the same for all rows of one sum. -/
theorem sum_same (q : Rat) : ∃ (u : ByteArray) (g : Int), ((g = 0 ∧ u = T q ∧ Good (by0 u)) ∨ (g = 2 ∧ u = ⟨#[]⟩)) ∧
    ∀ (w : World) (ad : Option Addr) (n cap : Nat) (S : List ByteArray), RdS w (.slice ad n cap) S → n ≤ 90 → (∀ s ∈ S, Good (by0 s) ∧ Size (worth (by0 s)) 41 41) → sumW S = q →
      Calls Tryz.prog 24 #[.slice ad n cap] w fun e w' => e = .returned (.tuple #[.string u, .int .i64 g]) ∧ Below w.heap.size w w' := by
  by_cases h : (rtxt q).length ≤ 1900
  · refine ⟨T q, 0, .inl ⟨rfl, rfl, T_good h⟩, fun w ad n cap S hr hn hg hq => (sum_any hr hn hg).mono ?_⟩
    rintro e w' ⟨hb, ⟨hl, t, rfl, ht⟩ | ⟨hl, rfl⟩⟩
    · rw [hq] at ht
      rw [show t = T q from bytes_eq (by rw [ht, T_by0])]
      exact ⟨rfl, hb⟩
    · rw [hq] at hl; omega
  · refine ⟨⟨#[]⟩, 2, .inr ⟨rfl, rfl⟩, fun w ad n cap S hr hn hg hq => (sum_any hr hn hg).mono ?_⟩
    rintro e w' ⟨hb, ⟨hl, t, rfl, ht⟩ | ⟨hl, rfl⟩⟩
    · rw [hq] at hl; omega
    · exact ⟨rfl, hb⟩

theorem nought_T : T 0 = ⟨#[48]⟩ := by unfold T; rw [rtxt_zero]

/-- The sum of a row that is worth nothing. -/
theorem sum_nought {w : World} {ad : Option Addr} {n cap : Nat} {S : List ByteArray} (hr : RdS w (.slice ad n cap) S) (hn : n ≤ 90) (hg : ∀ s ∈ S, Good (by0 s) ∧ Size (worth (by0 s)) 41 41) (h0 : sumW S = 0) :
    Calls Tryz.prog 24 #[.slice ad n cap] w fun e w' => e = .returned (.tuple #[.string ⟨#[48]⟩, .int .i64 0]) ∧ Below w.heap.size w w' := by
  refine (sum_any hr hn hg).mono ?_
  rintro e w' ⟨hb, ⟨hl, t, rfl, ht⟩ | ⟨hl, rfl⟩⟩
  · rw [h0] at ht
    rw [show t = T 0 from bytes_eq (by rw [ht, T_by0]), nought_T]
    exact ⟨rfl, hb⟩
  · rw [h0, rtxt_zero] at hl
    exact absurd hl (by decide)

/-- The sum of 1 and of a wrong text. -/
theorem sum_wrong (w : World) (t : TypeId) : Calls Tryz.prog 24 #[.slice (some ⟨w.heap.size, 0, none⟩) 2 2] (w.alloc (.cells #[.string ⟨#[49]⟩, .string ⟨#[50, 47, 49]⟩] t)) fun e w' => e = .returned (.tuple #[.string ⟨#[]⟩, .int .i64 1]) ∧ Below w.heap.size w w' := by
  have hr : RdS (w.alloc (.cells #[.string ⟨#[49]⟩, .string ⟨#[50, 47, 49]⟩] t)) (.slice (some ⟨w.heap.size, 0, none⟩) 2 2) [⟨#[49]⟩, ⟨#[50, 47, 49]⟩] := by
    refine ⟨some ⟨w.heap.size, 0, none⟩, 2, rfl, by decide, fun _ => ⟨w.heap.size, 0, rfl, by simp, fun i s hi => ?_⟩⟩
    have := strs_new w [⟨#[49]⟩, ⟨#[50, 47, 49]⟩] #[.string ⟨#[49]⟩, .string ⟨#[50, 47, 49]⟩] t rfl i s hi
    have e : ((⟨w.heap.size, 0, none⟩ : Addr).add i) = ⟨w.heap.size, 0 + i, none⟩ := by simp [Addr.add]; intro h; exact h.symm
    rwa [e] at this
  refine (sum_bad (z := 1) hr (by decide) (sz := ⟨#[50, 47, 49]⟩) rfl (fun h => absurd h.not_whole (by decide)) (by decide) (fun i s hi hs => ?_)).mono fun e w' k => ⟨k.1, onto (alb w _) k.2⟩
  obtain rfl : i = 0 := by omega
  have e : s = ⟨#[49]⟩ := by simpa using hs.symm
  subst e
  exact ⟨good_of (by decide) (by decide) (by decide) (by decide), ⟨false, 1, 1, by decide +kernel, by decide, by decide, by decide⟩⟩

end Go.Proofs.YtepacminjfeliaaGreatDoor
