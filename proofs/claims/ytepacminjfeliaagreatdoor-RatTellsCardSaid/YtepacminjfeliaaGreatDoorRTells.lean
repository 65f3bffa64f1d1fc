/-
  RatTells: the law's body answers true of any two texts.
-/
import Derived.Test.YtepacminjfeliaaGreatDoorG14
namespace Go.Proofs.YtepacminjfeliaaGreatDoor
open Go.RowKit

theorem Ans.fix (ok : Prop) (q : Rat) : ∃ (s : ByteArray) (g : Int), ∀ w e w', Ans w ok q e w' → e = .returned (.tuple #[.string s, .int .i64 g]) ∧ Below w.heap.size w w' := by
  by_cases ho : ok
  · by_cases hl : (rtxt q).length ≤ 1900
    · refine ⟨T q, 0, fun w e w' h => ?_⟩
      obtain ⟨hb, ⟨h1, -⟩ | ⟨-, ⟨-, t, rfl, ht⟩ | ⟨h1, -⟩⟩⟩ := h
      · exact absurd ho h1
      · rw [bytes_eq (s := t) (t := T q) (by rw [ht, T_by0])]; exact ⟨rfl, hb⟩
      · omega
    · refine ⟨⟨#[]⟩, 2, fun w e w' h => ?_⟩
      obtain ⟨hb, ⟨h1, -⟩ | ⟨-, ⟨h1, -⟩ | ⟨-, he⟩⟩⟩ := h
      · exact absurd ho h1
      · exact absurd h1 hl
      · exact ⟨he, hb⟩
  · refine ⟨⟨#[]⟩, 1, fun w e w' h => ?_⟩
    obtain ⟨hb, ⟨-, he⟩ | ⟨h1, -⟩⟩ := h
    · exact ⟨he, hb⟩
    · exact absurd h1 ho

theorem AnsDiv.fix (ok : Prop) (d q : Rat) : ∃ (s : ByteArray) (g : Int), ∀ w e w', AnsDiv w ok d q e w' → e = .returned (.tuple #[.string s, .int .i64 g]) ∧ Below w.heap.size w w' := by
  by_cases ho : ok
  · by_cases hd : d = 0
    · refine ⟨⟨#[]⟩, 21, fun w e w' h => ?_⟩
      obtain ⟨hb, ⟨h1, -⟩ | ⟨-, -, he⟩ | ⟨h1, -⟩⟩ := h
      · exact absurd ho h1
      · exact ⟨he, hb⟩
      · exact absurd hd h1
    · obtain ⟨s, g, hs⟩ := Ans.fix ok q
      refine ⟨s, g, fun w e w' h => ?_⟩
      obtain ⟨hb, ⟨h1, -⟩ | ⟨-, h1, -⟩ | ⟨-, h1⟩⟩ := h
      · exact absurd ho h1
      · exact absurd h1 hd
      · exact hs w e w' h1
  · refine ⟨⟨#[]⟩, 1, fun w e w' h => ?_⟩
    obtain ⟨hb, ⟨-, he⟩ | ⟨h1, -⟩ | ⟨-, -, ⟨-, he⟩ | ⟨h1, -⟩⟩⟩ := h
    · exact ⟨he, hb⟩
    · exact absurd h1 ho
    · exact ⟨he, hb⟩
    · exact absurd h1 ho

theorem Normd.fix (l : List UInt8) : ∃ (s : ByteArray) (g : Int), ∀ w e w', Normd w l e w' → e = .returned (.tuple #[.string s, .int .i64 g]) ∧ Below w.heap.size w w' := by
  by_cases hf : Dec (ahead l) ∧ Dec (behind l)
  · by_cases hl : l.length ≤ 900
    · by_cases h0 : num (behind l) = 0
      · refine ⟨⟨#[]⟩, 21, fun w e w' h => ?_⟩
        obtain ⟨hb, ⟨h1, -⟩ | ⟨-, ⟨h1, -⟩ | ⟨-, -, he⟩ | ⟨-, h1, -⟩⟩⟩ := h
        · exact absurd hf h1
        · omega
        · exact ⟨he, hb⟩
        · exact absurd h0 h1
      · refine ⟨T (worth l), 0, fun w e w' h => ?_⟩
        obtain ⟨hb, ⟨h1, -⟩ | ⟨-, ⟨h1, -⟩ | ⟨-, h1, -⟩ | ⟨-, -, t, rfl, ht⟩⟩⟩ := h
        · exact absurd hf h1
        · omega
        · exact absurd h1 h0
        · rw [bytes_eq (s := t) (t := T (worth l)) (by rw [ht, T_by0])]; exact ⟨rfl, hb⟩
    · refine ⟨⟨#[]⟩, 2, fun w e w' h => ?_⟩
      obtain ⟨hb, ⟨h1, -⟩ | ⟨-, ⟨-, he⟩ | ⟨h1, -⟩ | ⟨h1, -⟩⟩⟩ := h
      · exact absurd hf h1
      · exact ⟨he, hb⟩
      · exact absurd h1 hl
      · exact absurd h1 hl
  · refine ⟨⟨#[]⟩, 12, fun w e w' h => ?_⟩
    obtain ⟨hb, ⟨-, he⟩ | ⟨h1, -⟩⟩ := h
    · exact ⟨he, hb⟩
    · exact absurd h1 hf

theorem Compd.fix (ok : Prop) (x y : Rat) : ∃ (g : Int), ∀ w e w', Compd w ok x y e w' → e = .returned (.int .i64 g) ∧ Below w.heap.size w w' := by
  by_cases ho : ok
  · refine ⟨cmpQ x y, fun w e w' h => ?_⟩
    obtain ⟨hb, ⟨h1, -⟩ | ⟨-, he⟩⟩ := h
    · exact absurd ho h1
    · exact ⟨he, hb⟩
  · refine ⟨0, fun w e w' h => ?_⟩
    obtain ⟨hb, ⟨-, he⟩ | ⟨h1, -⟩⟩ := h
    · exact ⟨he, hb⟩
    · exact absurd h1 ho

set_option maxRecDepth 100000 in
set_option maxHeartbeats 4000000 in
theorem rtells_great {w : World} (a b : ByteArray) (h : 160 < a.size ∨ 160 < b.size) : Calls Tryz.prog 3 #[.string a, .string b] w (Samed w true) := by
  have HB := Below.refl w.heap.size w
  have HH := Lib.hid h; clear h
  go_enter Tryz.func3, Tryz.ntmps3
  go_wp2_with fail
  refine (rhead_any _).mono ?_
  rintro e w1 ⟨rfl, hb⟩
  replace HB := onto HB hb
  clear hb
  go_wp2_with fail
  refine (great_yes _ HH.out).mono ?_
  rintro e w2 ⟨rfl, hb⟩
  replace HB := onto HB hb
  clear hb
  go_wp2
  go_ret
  exact ⟨rfl, HB⟩

set_option maxRecDepth 100000 in
set_option maxHeartbeats 8000000 in
theorem rtells_small {w : World} (a b : ByteArray) (ha : a.size ≤ 160) (hb : b.size ≤ 160) : Calls Tryz.prog 3 #[.string a, .string b] w (Samed w true) := by
  have HB := Below.refl w.heap.size w
  have la : a.size ≤ 1000000 := by omega
  have lb : b.size ≤ 1000000 := by omega
  have hgr := Lib.hid (fun w => great_no (a := a) (b := b) w ha hb)
  obtain ⟨s1, g1, h1⟩ := Normd.fix (by0 a)
  obtain ⟨s2, g2, h2⟩ := Ans.fix (Good (by0 a) ∧ Good (by0 b)) (worth (by0 a) + worth (by0 b))
  obtain ⟨s3, g3, h3⟩ := Ans.fix (Good (by0 a) ∧ Good (by0 b)) (worth (by0 a) - worth (by0 b))
  obtain ⟨s4, g4, h4⟩ := Ans.fix (Good (by0 a) ∧ Good (by0 b)) (worth (by0 a) * worth (by0 b))
  obtain ⟨s5, g5, h5⟩ := AnsDiv.fix (Good (by0 a) ∧ Good (by0 b)) (worth (by0 b)) (worth (by0 a) / worth (by0 b))
  obtain ⟨s6, g6, h6⟩ := Ans.fix (Good (by0 a)) (-worth (by0 a))
  obtain ⟨g7, h7⟩ := Compd.fix (Good (by0 a) ∧ Good (by0 b)) (worth (by0 a)) (worth (by0 b))
  obtain ⟨g8, h8⟩ : ∃ g8, g8 = decide (Good (by0 a)) := ⟨_, rfl⟩
  have n1 := Lib.hid (fun w => (norm_text a w la).mono (h1 w))
  have m1 := Lib.hid (fun w => (qnorm_any a w la).mono (h1 w))
  have n2 := Lib.hid (fun w => (nadd_any a b w la lb).mono (h2 w))
  have m2 := Lib.hid (fun w => (qadd_any a b w la lb).mono (h2 w))
  have n3 := Lib.hid (fun w => (nsub_any a b w la lb).mono (h3 w))
  have m3 := Lib.hid (fun w => (qsub_any a b w la lb).mono (h3 w))
  have n4 := Lib.hid (fun w => (nmul_any a b w la lb).mono (h4 w))
  have m4 := Lib.hid (fun w => (qmul_any a b w la lb).mono (h4 w))
  have n5 := Lib.hid (fun w => (ndiv_any a b w la lb).mono (h5 w))
  have m5 := Lib.hid (fun w => (qdiv_any a b w la lb).mono (h5 w))
  have n6 := Lib.hid (fun w => (nneg_any a w la).mono (h6 w))
  have m6 := Lib.hid (fun w => (qneg_any a w la).mono (h6 w))
  have n7 := Lib.hid (fun w => (cmp_text a b w la lb).mono (h7 w))
  have m7 := Lib.hid (fun w => (qcmp_any a b w la lb).mono (h7 w))
  have n8 := Lib.hid (fun w => right_text a w la)
  have m8 := Lib.hid (fun w => qright_any a w la)
  rw [← h8] at n8 m8
  clear h1 h2 h3 h4 h5 h6 h7 h8 la lb ha hb
  go_enter Tryz.func3, Tryz.ntmps3
  go_wp2_with fail
  refine (rhead_any _).mono ?_
  rintro e w1 ⟨rfl, hb⟩
  replace HB := onto HB hb
  clear hb
  go_wp2_with fail
  refine (hgr.out _).mono ?_
  rintro e w2 ⟨rfl, hb⟩
  replace HB := onto HB hb
  clear hb
  go_wp2_with fail
  refine (n1.out _).mono ?_
  rintro e w3 ⟨rfl, hb⟩
  replace HB := onto HB hb
  clear hb
  go_wp2_with fail
  refine (m1.out _).mono ?_
  rintro e w4 ⟨rfl, hb⟩
  replace HB := onto HB hb
  clear hb
  go_wp2_with fail
  refine (n2.out _).mono ?_
  rintro e w5 ⟨rfl, hb⟩
  replace HB := onto HB hb
  clear hb
  go_wp2_with fail
  refine (m2.out _).mono ?_
  rintro e w6 ⟨rfl, hb⟩
  replace HB := onto HB hb
  clear hb
  go_wp2_with fail
  refine (n8.out _).mono ?_
  rintro e w7 ⟨rfl, hb⟩
  replace HB := onto HB hb
  clear hb
  go_wp2_with fail
  refine (m8.out _).mono ?_
  rintro e w8 ⟨rfl, hb⟩
  replace HB := onto HB hb
  clear hb
  go_wp2_with fail
  refine (n7.out _).mono ?_
  rintro e w9 ⟨rfl, hb⟩
  replace HB := onto HB hb
  clear hb
  go_wp2_with fail
  refine (m7.out _).mono ?_
  rintro e w10 ⟨rfl, hb⟩
  replace HB := onto HB hb
  clear hb
  go_wp2_with fail
  refine (n3.out _).mono ?_
  rintro e w11 ⟨rfl, hb⟩
  replace HB := onto HB hb
  clear hb
  go_wp2_with fail
  refine (m3.out _).mono ?_
  rintro e w12 ⟨rfl, hb⟩
  replace HB := onto HB hb
  clear hb
  go_wp2_with fail
  refine (n4.out _).mono ?_
  rintro e w13 ⟨rfl, hb⟩
  replace HB := onto HB hb
  clear hb
  go_wp2_with fail
  refine (m4.out _).mono ?_
  rintro e w14 ⟨rfl, hb⟩
  replace HB := onto HB hb
  clear hb
  go_wp2_with fail
  refine (n5.out _).mono ?_
  rintro e w15 ⟨rfl, hb⟩
  replace HB := onto HB hb
  clear hb
  go_wp2_with fail
  refine (m5.out _).mono ?_
  rintro e w16 ⟨rfl, hb⟩
  replace HB := onto HB hb
  clear hb
  go_wp2_with fail
  refine (n6.out _).mono ?_
  rintro e w17 ⟨rfl, hb⟩
  replace HB := onto HB hb
  clear hb
  go_wp2_with fail
  refine (m6.out _).mono ?_
  rintro e w18 ⟨rfl, hb⟩
  replace HB := onto HB hb
  clear hb
  go_wp2
  go_ret
  exact ⟨rfl, HB⟩

theorem rtells_law {w : World} (a b : ByteArray) : Calls Tryz.prog 3 #[.string a, .string b] w (Samed w true) := by
  by_cases h : 160 < a.size ∨ 160 < b.size
  · exact rtells_great a b h
  · exact rtells_small a b (by omega) (by omega)

end Go.Proofs.YtepacminjfeliaaGreatDoor
