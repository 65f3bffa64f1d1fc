/-
  Layer 2's live question: with the program's answers to a few fixed calls it answers true. No condition.
-/
import Derived.Test.YtkfododihdopiaaDoorFormsD
namespace Go.Proofs.YtkfododihdopiaaDoor
open Go.RowKit

set_option maxRecDepth 100000 in
set_option maxHeartbeats 4000000 in
theorem dhead_any (w : World) : Calls Tryd.prog 10 #[] w (Samed w true) := by
  have HB := Below.refl w.heap.size w
  go_enter Tryd.func10, Tryd.ntmps10
  go_wp2_with fail
  refine (parse_ok ⟨#[49, 56, 52, 52, 54, 55, 52, 52, 48, 55, 51, 55, 48, 57, 53, 53, 49, 54, 49, 54]⟩ w (by decide) (by decide)).mono ?_
  rintro e w1 ⟨ada, na, ca, la, rfl, ra, ka, va, hb⟩
  replace HB := onto HB hb
  clear hb
  have Hva := Lib.hid va; clear va
  have hva : val la = 18446744073709551616 := by rw [Hva.out]; decide
  have HVA := Lib.hid hva; clear hva
  have ba : la.length ≤ 3 := ka.len (by rw [HVA.out]; decide)
  go_wp2_with fail
  refine (parse_bad ⟨#[48, 48, 55]⟩ w1 (by decide) (by decide)).mono ?_
  rintro e w2 ⟨rfl, hb⟩
  replace ra := ra.below hb
  replace HB := onto HB hb
  clear hb
  go_wp2_with fail
  refine (parse_bad ⟨#[]⟩ w2 (by decide) (by decide)).mono ?_
  rintro e w3 ⟨rfl, hb⟩
  replace ra := ra.below hb
  replace HB := onto HB hb
  clear hb
  go_wp2_with fail
  refine (same_vals (ra.below (alb _ _)) (lit3 _ 0 0 1 (by decide) (by decide) (by decide)) (by omega) ka (can3 0 0 1 (by decide) (by decide) (by decide) (by decide)) (by rw [HVA.out]; decide)).mono ?_
  rintro e w4 ⟨rfl, hb⟩
  replace hb := past hb
  replace ra := ra.below hb
  replace HB := onto HB hb
  clear hb
  go_wp2_with fail
  refine (text_is (lit4 _ 0 0 1 0 (by decide) (by decide) (by decide) (by decide)) (by decide) (s := ⟨#[49, 56, 52, 52, 54, 55, 52, 52, 48, 55, 51, 55, 48, 57, 53, 53, 49, 54, 49, 54]⟩) (by decide) (by decide)).mono ?_
  rintro e w5 ⟨rfl, hb⟩
  replace hb := past hb
  replace ra := ra.below hb
  replace HB := onto HB hb
  clear hb
  go_wp2_with fail
  refine (text_is (Rd.nil _) (by decide) (s := ⟨#[48]⟩) (by decide) (by decide)).mono ?_
  rintro e w6 ⟨rfl, hb⟩
  replace ra := ra.below hb
  replace HB := onto HB hb
  clear hb
  go_wp2_with fail
  refine (right_is ⟨#[48]⟩ _ (b := true) (by decide)).mono ?_
  rintro e w7 ⟨rfl, hb⟩
  replace ra := ra.below hb
  replace HB := onto HB hb
  clear hb
  go_wp2_with fail
  refine (right_is ⟨#[45, 49]⟩ _ (b := false) (by decide)).mono ?_
  rintro e w8 ⟨rfl, hb⟩
  replace ra := ra.below hb
  replace HB := onto HB hb
  clear hb
  go_wp2_with fail
  refine (text_is (lit1 _ 1000000007 (by decide)) (by decide) (s := ⟨#[49, 48, 48, 48, 48, 48, 48, 48, 48, 55]⟩) (by decide) (by decide)).mono ?_
  rintro e w9 ⟨rfl, hb⟩
  replace hb := past hb
  replace ra := ra.below hb
  replace HB := onto HB hb
  clear hb
  go_wp2
  go_ret
  exact ⟨rfl, HB⟩

end Go.Proofs.YtkfododihdopiaaDoor
