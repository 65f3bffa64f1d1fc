/-
  A part of the proof: Law3.
-/
import Derived.Test.YtepacminjfeliaaGreatDoorG12
/-
  rat's calls by the text that is answered, and layer 3's live question.
-/
namespace Go.Proofs.YtepacminjfeliaaGreatDoor
open Go.RowKit

theorem Good.short {s : ByteArray} (h : Good (by0 s)) : s.size ≤ 1000000 := by have := h.1; rw [by0_len] at this; omega

theorem same_text {t u : ByteArray} {q : Rat} (hu : Good (by0 u)) (hq : q = worth (by0 u)) (ht : by0 t = rtxt q) : t = u := bytes_eq (by rw [ht, hq, hu.2])

theorem Ans.to {w w' : World} {ok : Prop} {q : Rat} {e : Ending} {u : ByteArray} (h : Ans w ok q e w') (ho : ok) (hu : Good (by0 u)) (hq : q = worth (by0 u)) :
    e = .returned (.tuple #[.string u, .int .i64 0]) ∧ Below w.heap.size w w' := by
  obtain ⟨hb, ⟨h1, -⟩ | ⟨-, ⟨-, t, rfl, ht⟩ | ⟨hl, -⟩⟩⟩ := h
  · exact absurd ho h1
  · rw [same_text hu hq ht]; exact ⟨rfl, hb⟩
  · rw [hq, hu.2] at hl
    have := hu.1
    omega

theorem add_to {a b u : ByteArray} (w : World) (ha : Good (by0 a)) (hb : Good (by0 b)) (hu : Good (by0 u)) (h : worth (by0 a) + worth (by0 b) = worth (by0 u)) :
    Calls Tryz.prog 9 #[.string a, .string b] w fun e w' => e = .returned (.tuple #[.string u, .int .i64 0]) ∧ Below w.heap.size w w' :=
  (nadd_any a b w ha.short hb.short).mono fun _ _ k => k.to ⟨ha, hb⟩ hu h

theorem sub_to {a b u : ByteArray} (w : World) (ha : Good (by0 a)) (hb : Good (by0 b)) (hu : Good (by0 u)) (h : worth (by0 a) - worth (by0 b) = worth (by0 u)) :
    Calls Tryz.prog 15 #[.string a, .string b] w fun e w' => e = .returned (.tuple #[.string u, .int .i64 0]) ∧ Below w.heap.size w w' :=
  (nsub_any a b w ha.short hb.short).mono fun _ _ k => k.to ⟨ha, hb⟩ hu h

theorem mul_to {a b u : ByteArray} (w : World) (ha : Good (by0 a)) (hb : Good (by0 b)) (hu : Good (by0 u)) (h : worth (by0 a) * worth (by0 b) = worth (by0 u)) :
    Calls Tryz.prog 17 #[.string a, .string b] w fun e w' => e = .returned (.tuple #[.string u, .int .i64 0]) ∧ Below w.heap.size w w' :=
  (nmul_any a b w ha.short hb.short).mono fun _ _ k => k.to ⟨ha, hb⟩ hu h

theorem neg_to {a u : ByteArray} (w : World) (ha : Good (by0 a)) (hu : Good (by0 u)) (h : -worth (by0 a) = worth (by0 u)) :
    Calls Tryz.prog 21 #[.string a] w fun e w' => e = .returned (.tuple #[.string u, .int .i64 0]) ∧ Below w.heap.size w w' :=
  (nneg_any a w ha.short).mono fun _ _ k => k.to ha hu h

theorem div_to {a b u : ByteArray} (w : World) (ha : Good (by0 a)) (hb : Good (by0 b)) (hu : Good (by0 u)) (h0 : worth (by0 b) ≠ 0) (h : worth (by0 a) / worth (by0 b) = worth (by0 u)) :
    Calls Tryz.prog 19 #[.string a, .string b] w fun e w' => e = .returned (.tuple #[.string u, .int .i64 0]) ∧ Below w.heap.size w w' :=
  (ndiv_any a b w ha.short hb.short).mono fun _ _ k => by
    obtain ⟨hb', ⟨h1, -⟩ | ⟨-, h1, -⟩ | ⟨-, k⟩⟩ := k
    · exact absurd ⟨ha, hb⟩ h1
    · exact absurd h1 h0
    · exact k.to ⟨ha, hb⟩ hu h

theorem div_zero {a b : ByteArray} (w : World) (ha : Good (by0 a)) (hb : Good (by0 b)) (h0 : worth (by0 b) = 0) :
    Calls Tryz.prog 19 #[.string a, .string b] w fun e w' => e = .returned (.tuple #[.string ⟨#[]⟩, .int .i64 21]) ∧ Below w.heap.size w w' :=
  (ndiv_any a b w ha.short hb.short).mono fun _ _ k => by
    obtain ⟨hb', ⟨h1, -⟩ | ⟨-, -, he⟩ | ⟨h1, -⟩⟩ := k
    · exact absurd ⟨ha, hb⟩ h1
    · exact ⟨he, hb'⟩
    · exact absurd h0 h1

theorem mul_no {a b : ByteArray} (w : World) (ha : a.size ≤ 1000000) (hb : b.size ≤ 1000000) (h : ¬ (Good (by0 a) ∧ Good (by0 b))) :
    Calls Tryz.prog 17 #[.string a, .string b] w fun e w' => e = .returned (.tuple #[.string ⟨#[]⟩, .int .i64 1]) ∧ Below w.heap.size w w' :=
  (nmul_any a b w ha hb).mono fun _ _ k => by
    obtain ⟨hb', ⟨-, he⟩ | ⟨h1, -⟩⟩ := k
    · exact ⟨he, hb'⟩
    · exact absurd h1 h

theorem cmp_to {a b : ByteArray} (w : World) (ha : Good (by0 a)) (hb : Good (by0 b)) {c : Int} (h : cmpQ (worth (by0 a)) (worth (by0 b)) = c) :
    Calls Tryz.prog 13 #[.string a, .string b] w fun e w' => e = .returned (.int .i64 c) ∧ Below w.heap.size w w' :=
  (cmp_text a b w ha.short hb.short).mono fun _ _ k => by
    obtain ⟨hb', ⟨h1, -⟩ | ⟨-, he⟩⟩ := k
    · exact absurd ⟨ha, hb⟩ h1
    · rw [← h]; exact ⟨he, hb'⟩

theorem right_to (s : ByteArray) (w : World) (hs : s.size ≤ 1000000) {b : Bool} (h : decide (Good (by0 s)) = b) : Calls Tryz.prog 11 #[.string s] w fun e w' => e = .returned (.bool b) ∧ Below w.heap.size w w' := h ▸ right_text s w hs

theorem norm_to {a u : ByteArray} (w : World) (hf : Formed (by0 a)) (hl : a.size ≤ 900) (h0 : num (behind (by0 a)) ≠ 0) (hu : Good (by0 u)) (h : worth (by0 a) = worth (by0 u)) :
    Calls Tryz.prog 7 #[.string a] w fun e w' => e = .returned (.tuple #[.string u, .int .i64 0]) ∧ Below w.heap.size w w' :=
  (norm_text a w (by omega)).mono fun _ _ k => by
    have hlen := by0_len a
    obtain ⟨hb', ⟨h1, -⟩ | ⟨-, ⟨h1, -⟩ | ⟨-, h1, -⟩ | ⟨-, -, t, rfl, ht⟩⟩⟩ := k
    · exact absurd hf h1
    · omega
    · exact absurd h1 h0
    · rw [same_text hu h ht]; exact ⟨rfl, hb'⟩

theorem norm_zero {a : ByteArray} (w : World) (hf : Formed (by0 a)) (hl : a.size ≤ 900) (h0 : num (behind (by0 a)) = 0) :
    Calls Tryz.prog 7 #[.string a] w fun e w' => e = .returned (.tuple #[.string ⟨#[]⟩, .int .i64 21]) ∧ Below w.heap.size w w' :=
  (norm_text a w (by omega)).mono fun _ _ k => by
    have hlen := by0_len a
    obtain ⟨hb', ⟨h1, -⟩ | ⟨-, ⟨h1, -⟩ | ⟨-, -, he⟩ | ⟨-, h1, -⟩⟩⟩ := k
    · exact absurd hf h1
    · omega
    · exact ⟨he, hb'⟩
    · exact absurd h0 h1

theorem norm_form {a : ByteArray} (w : World) (hs : a.size ≤ 1000000) (hf : ¬ Formed (by0 a)) :
    Calls Tryz.prog 7 #[.string a] w fun e w' => e = .returned (.tuple #[.string ⟨#[]⟩, .int .i64 12]) ∧ Below w.heap.size w w' :=
  (norm_text a w hs).mono fun _ _ k => by
    obtain ⟨hb', ⟨-, he⟩ | ⟨h1, -⟩⟩ := k
    · exact ⟨he, hb'⟩
    · exact absurd h1 hf

/-- The text of a number, as a string. -/
def T (q : Rat) : ByteArray := ⟨(rtxt q).toArray⟩

theorem T_by0 (q : Rat) : by0 (T q) = rtxt q := by0_mk _
theorem T_worth (q : Rat) : worth (by0 (T q)) = q := by rw [T_by0, worth_rtxt]
theorem T_good {q : Rat} (h : (rtxt q).length ≤ 1900) : Good (by0 (T q)) := by rw [T_by0]; exact good_rtxt h
theorem T_eq {s : ByteArray} (h : Good (by0 s)) : T (worth (by0 s)) = s := bytes_eq (by rw [T_by0, h.2])
theorem T_inj {p q : Rat} (h : T p = T q) : p = q := by rw [← T_worth p, h, T_worth]

set_option maxRecDepth 100000 in
set_option maxHeartbeats 4000000 in
theorem rhead_any (w : World) : Calls Tryz.prog 5 #[] w (Samed w true) := by
  have HB := Below.refl w.heap.size w
  have g1 := Lib.hid (show Good (by0 ⟨#[45, 51, 47, 50]⟩) from (good_of (by decide) (by decide) (by decide) (by decide)))
  have g2 := Lib.hid (show Good (by0 ⟨#[49, 47, 50]⟩) from (good_of (by decide) (by decide) (by decide) (by decide)))
  have g3 := Lib.hid (show Good (by0 ⟨#[45, 49, 47, 51]⟩) from (good_of (by decide) (by decide) (by decide) (by decide)))
  have g4 := Lib.hid (show Good (by0 ⟨#[49, 47, 54]⟩) from (good_of (by decide) (by decide) (by decide) (by decide)))
  have g5 := Lib.hid (show Good (by0 ⟨#[51]⟩) from (good_of (by decide) (by decide) (by decide) (by decide)))
  have g6 := Lib.hid (show Good (by0 ⟨#[45, 54]⟩) from (good_of (by decide) (by decide) (by decide) (by decide)))
  have g7 := Lib.hid (show Good (by0 ⟨#[45, 49, 47, 50]⟩) from (good_of (by decide) (by decide) (by decide) (by decide)))
  have g8 := Lib.hid (show Good (by0 ⟨#[48]⟩) from (good_of (by decide) (by decide) (by decide) (by decide)))
  have g9 := Lib.hid (show Good (by0 ⟨#[49, 47, 51]⟩) from (good_of (by decide) (by decide) (by decide) (by decide)))
  have n1 := Lib.hid (show ¬ Good (by0 ⟨#[54, 47, 50]⟩) from fun h => absurd h.not_whole (by decide))
  have n2 := Lib.hid (show ¬ Good (by0 ⟨#[45, 48]⟩) from fun h => absurd h.not_minus (by decide))
  have n3 := Lib.hid (show ¬ Good (by0 ⟨#[50, 47, 49]⟩) from fun h => absurd h.not_whole (by decide))
  have e1 := Lib.hid (show worth (by0 ⟨#[45, 54, 47, 52]⟩) = worth (by0 ⟨#[45, 51, 47, 50]⟩) from by decide +kernel)
  have e2 := Lib.hid (show worth (by0 ⟨#[49, 47, 50]⟩) + worth (by0 ⟨#[45, 49, 47, 51]⟩) = worth (by0 ⟨#[49, 47, 54]⟩) from by decide +kernel)
  have e3 := Lib.hid (show worth (by0 ⟨#[51]⟩) / worth (by0 ⟨#[45, 54]⟩) = worth (by0 ⟨#[45, 49, 47, 50]⟩) from by decide +kernel)
  have e4 := Lib.hid (show worth (by0 ⟨#[45, 54]⟩) ≠ 0 from by decide +kernel)
  have e5 := Lib.hid (show worth (by0 ⟨#[48]⟩) = 0 from by decide +kernel)
  have e6 := Lib.hid (show -worth (by0 ⟨#[48]⟩) = worth (by0 ⟨#[48]⟩) from by decide +kernel)
  have e7 := Lib.hid (show cmpQ (worth (by0 ⟨#[49, 47, 51]⟩)) (worth (by0 ⟨#[49, 47, 50]⟩)) = -1 from by decide +kernel)
  have e8 := Lib.hid (show cmpQ (worth (by0 ⟨#[45, 49, 47, 51]⟩)) (worth (by0 ⟨#[45, 49, 47, 50]⟩)) = 1 from by decide +kernel)
  go_enter Tryz.func5, Tryz.ntmps5
  go_wp2_with fail
  refine (norm_to (a := ⟨#[45, 54, 47, 52]⟩) _ (by decide) (by decide) (by decide) g1.out e1.out).mono ?_
  rintro e w1 ⟨rfl, hb⟩
  replace HB := onto HB hb
  clear hb
  go_wp2_with fail
  refine (norm_zero (a := ⟨#[49, 47, 48]⟩) _ (by decide) (by decide) (by decide)).mono ?_
  rintro e w1 ⟨rfl, hb⟩
  replace HB := onto HB hb
  clear hb
  go_wp2_with fail
  refine (norm_form (a := ⟨#[49, 47]⟩) _ (by decide) (by decide)).mono ?_
  rintro e w1 ⟨rfl, hb⟩
  replace HB := onto HB hb
  clear hb
  go_wp2_with fail
  refine (add_to _ g2.out g3.out g4.out e2.out).mono ?_
  rintro e w1 ⟨rfl, hb⟩
  replace HB := onto HB hb
  clear hb
  go_wp2_with fail
  refine (div_to _ g5.out g6.out g7.out e4.out e3.out).mono ?_
  rintro e w1 ⟨rfl, hb⟩
  replace HB := onto HB hb
  clear hb
  go_wp2_with fail
  refine (div_zero _ g5.out g8.out e5.out).mono ?_
  rintro e w1 ⟨rfl, hb⟩
  replace HB := onto HB hb
  clear hb
  go_wp2_with fail
  refine (mul_no (a := ⟨#[51]⟩) (b := ⟨#[54, 47, 50]⟩) _ (by decide) (by decide) (fun h => n1.out h.2)).mono ?_
  rintro e w1 ⟨rfl, hb⟩
  replace HB := onto HB hb
  clear hb
  go_wp2_with fail
  refine (neg_to _ g8.out g8.out e6.out).mono ?_
  rintro e w1 ⟨rfl, hb⟩
  replace HB := onto HB hb
  clear hb
  go_wp2_with fail
  refine (cmp_to _ g9.out g2.out e7.out).mono ?_
  rintro e w1 ⟨rfl, hb⟩
  replace HB := onto HB hb
  clear hb
  go_wp2_with fail
  refine (cmp_to _ g3.out g7.out e8.out).mono ?_
  rintro e w1 ⟨rfl, hb⟩
  replace HB := onto HB hb
  clear hb
  go_wp2_with fail
  refine (right_to ⟨#[48]⟩ _ (by decide) (b := true) (decide_eq_true g8.out)).mono ?_
  rintro e w1 ⟨rfl, hb⟩
  replace HB := onto HB hb
  clear hb
  go_wp2_with fail
  refine (right_to ⟨#[45, 48]⟩ _ (by decide) (b := false) (decide_eq_false n2.out)).mono ?_
  rintro e w1 ⟨rfl, hb⟩
  replace HB := onto HB hb
  clear hb
  go_wp2_with fail
  refine (right_to ⟨#[50, 47, 49]⟩ _ (by decide) (b := false) (decide_eq_false n3.out)).mono ?_
  rintro e w1 ⟨rfl, hb⟩
  replace HB := onto HB hb
  clear hb
  go_wp2
  go_ret
  exact ⟨rfl, HB⟩

end Go.Proofs.YtepacminjfeliaaGreatDoor
