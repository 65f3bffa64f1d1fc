/-
  DigitsOrder: the law's body answers true of any two lists.
-/
import Derived.Test.YtkfododihdopiaaDoorHeadD
namespace Go.Proofs.YtkfododihdopiaaDoor
open Go.RowKit

theorem num_bytes {l : List UInt8} : ∀ {m : List UInt8}, Digs l → Digs m → l.length = m.length → Op.bytesLess l m = decide (num l < num m) := by
  induction l with
  | nil =>
    intro m _ _ hl
    obtain rfl := List.length_eq_zero_iff.1 hl.symm
    rfl
  | cons b l ih =>
    intro m h k hl
    cases m with
    | nil => simp at hl
    | cons c m =>
      have e : l.length = m.length := by simpa using hl
      have h1 := num_lt h.tail
      rw [e] at h1
      have h2 := num_lt k.tail
      have hb := h.head
      have hc := k.head
      rw [num_cons, num_cons, e]
      unfold Op.bytesLess
      rw [ih h.tail k.tail e]
      rcases Nat.lt_trichotomy b.toNat c.toNat with h3 | h3 | h3
      · have h5 : dg b + 1 ≤ dg c := by unfold dg; omega
        have h6 : (dg b + 1) * 10 ^ m.length ≤ dg c * 10 ^ m.length := Nat.mul_le_mul_right _ h5
        rw [Nat.add_mul, Nat.one_mul] at h6
        rw [decide_eq_true (UInt8.lt_iff_toNat_lt.2 h3), Bool.true_or, decide_eq_true (by omega)]
      · obtain rfl : b = c := UInt8.toNat_inj.1 h3
        have e1 : decide (b < b) = false := decide_eq_false (UInt8.lt_irrefl b)
        rw [e1, Bool.false_or, beq_self_eq_true, Bool.true_and]
        have : num l < num m ↔ dg b * 10 ^ m.length + num l < dg b * 10 ^ m.length + num m := by omega
        rw [decide_eq_decide]
        exact this
      · have h5 : dg c + 1 ≤ dg b := by unfold dg; omega
        have h6 : (dg c + 1) * 10 ^ m.length ≤ dg b * 10 ^ m.length := Nat.mul_le_mul_right _ h5
        rw [Nat.add_mul, Nat.one_mul] at h6
        have e1 : decide (b < c) = false := decide_eq_false (fun h => by have := UInt8.lt_iff_toNat_lt.1 h; omega)
        have e2 : (b == c) = false := by simp; intro h; subst h; omega
        rw [e1, e2, Bool.false_or, Bool.false_and, decide_eq_false (by omega)]

/-- What two texts' order is, as the program asks for it. -/
theorem text_order {s t : ByteArray} (hs : Dec (by0 s)) (ht : Dec (by0 t)) :
    (num (by0 s) < num (by0 t) → (s.size < t.size ∨ s.size = t.size ∧ Op.bytesLess s.toList t.toList = true)) ∧ (num (by0 t) < num (by0 s) → (t.size < s.size ∨ s.size = t.size ∧ Op.bytesLess s.toList t.toList = false)) ∧ (num (by0 s) = num (by0 t) → s = t) ∧ (num (by0 s) ≠ num (by0 t) → s.toList ≠ t.toList) := by
  have l1 := by0_len s
  have l2 := by0_len t
  have e1 : s.toList = by0 s := Lib.toList_data s
  have e2 : t.toList = by0 t := Lib.toList_data t
  rw [e1, e2]
  refine ⟨fun h => ?_, fun h => ?_, fun h => bytes_eq (hs.inj ht h), fun h e => h (by rw [e])⟩
  · rcases Nat.lt_trichotomy s.size t.size with h1 | h1 | h1
    · exact .inl h1
    · exact .inr ⟨h1, by rw [num_bytes hs.1 ht.1 (by omega)]; exact decide_eq_true h⟩
    · have := ht.less hs (by omega); omega
  · rcases Nat.lt_trichotomy s.size t.size with h1 | h1 | h1
    · have := hs.less ht (by omega); omega
    · exact .inr ⟨h1, by rw [num_bytes hs.1 ht.1 (by omega)]; exact decide_eq_false (by omega)⟩
    · exact .inl h1

set_option maxRecDepth 100000 in
set_option maxHeartbeats 4000000 in
theorem dorder_great {w : World} (ada adb : Option Addr) (na ca nb cb : Nat) (h : 60 < na ∨ 60 < nb) :
    Calls Tryd.prog 5 #[.slice ada na ca, .slice adb nb cb] w (Samed w true) := by
  by_cases h6 : 60 < na
  · clear h
    go_enter Tryd.func5, Tryd.ntmps5
    go_wp2_with fail
    refine (dhead_any w).mono ?_
    rintro e w1 ⟨rfl, hb⟩
    have z : decide ((60 : Int) < (na : Int)) = true := decide_eq_true (by omega)
    go_wp2
    go_ret
    exact ⟨rfl, hb⟩
  · have h2 : 60 < nb := by omega
    clear h
    go_enter Tryd.func5, Tryd.ntmps5
    go_wp2_with fail
    refine (dhead_any w).mono ?_
    rintro e w1 ⟨rfl, hb⟩
    have z : decide ((60 : Int) < (na : Int)) = false := decide_eq_false (by omega)
    have z2 : decide ((60 : Int) < (nb : Int)) = true := decide_eq_true (by omega)
    go_wp2
    go_ret
    exact ⟨rfl, hb⟩

set_option maxRecDepth 100000 in
set_option maxHeartbeats 4000000 in
theorem dorder_any {w : World} {ada adb : Option Addr} {na ca nb cb : Nat} {a b : List Nat} (ra : Rd w (.slice ada na ca) a) (rb : Rd w (.slice adb nb cb) b) (ha : na ≤ 60) (hb60 : nb ≤ 60) :
    Calls Tryd.prog 5 #[.slice ada na ca, .slice adb nb cb] w (Samed w true) := by
  have HB := Below.refl w.heap.size w
  have la : a.length ≤ 60 := by rw [← ra.open.1]; exact ha
  have lb : b.length ≤ 60 := by rw [← rb.open.1]; exact hb60
  have z : decide ((60 : Int) < (na : Int)) = false := decide_eq_false (by omega)
  have z2 : decide ((60 : Int) < (nb : Int)) = false := decide_eq_false (by omega)
  go_enter Tryd.func5, Tryd.ntmps5
  go_wp2_with fail
  refine (dhead_any w).mono ?_
  rintro e w1 ⟨rfl, hb⟩
  replace ra := ra.below hb
  replace rb := rb.below hb
  replace HB := onto HB hb
  clear hb
  go_wp2_with fail
  refine (text_any ra (by omega)).mono ?_
  rintro e w2 ⟨s, rfl, ds, ns, hb⟩
  replace ra := ra.below hb
  replace rb := rb.below hb
  replace HB := onto HB hb
  clear hb
  have Hds := Lib.hid ds; clear ds
  have Hns := Lib.hid ns; clear ns
  go_wp2_with fail
  refine (text_any rb (by omega)).mono ?_
  rintro e w3 ⟨t, rfl, dt, nt, hb⟩
  replace ra := ra.below hb
  replace rb := rb.below hb
  replace HB := onto HB hb
  clear hb
  have Hdt := Lib.hid dt; clear dt
  have Hnt := Lib.hid nt; clear nt
  have HO := Lib.hid (text_order Hds.out Hdt.out)
  rcases Nat.lt_trichotomy (val a) (val b) with h | h | h
  · go_wp2_with fail
    refine (rcmp_any ra rb (by omega) (by omega)).mono ?_
    rintro e w4 ⟨rfl, hb⟩
    replace ra := ra.below hb
    replace rb := rb.below hb
    replace HB := onto HB hb
    clear hb
    rw [tell_lt h]
    have hne : (s.toList == t.toList) = false := beq_eq_false_iff_ne.2 (HO.out.2.2.2 (by rw [Hns.out, Hnt.out]; omega))
    rcases HO.out.1 (by rw [Hns.out, Hnt.out]; exact h) with h1 | ⟨h1, h2⟩
    · have z3 : decide ((s.size : Int) < (t.size : Int)) = true := decide_eq_true (by omega)
      go_wp2
      go_ret
      exact ⟨rfl, HB⟩
    · clear h
      go_wp2
      go_ret
      exact ⟨rfl, HB⟩
  · go_wp2_with fail
    refine (rcmp_any ra rb (by omega) (by omega)).mono ?_
    rintro e w4 ⟨rfl, hb⟩
    replace ra := ra.below hb
    replace rb := rb.below hb
    replace HB := onto HB hb
    clear hb
    rw [tell_eq h]
    obtain rfl := HO.out.2.2.1 (by rw [Hns.out, Hnt.out]; exact h)
    have hbl : Op.bytesLess s.toList s.toList = false := by rw [show s.toList = by0 s from Lib.toList_data s, num_bytes Hds.out.1 Hds.out.1 rfl]; exact decide_eq_false (Nat.lt_irrefl _)
    clear h
    go_wp2
    go_ret
    exact ⟨rfl, HB⟩
  · go_wp2_with fail
    refine (rcmp_any ra rb (by omega) (by omega)).mono ?_
    rintro e w4 ⟨rfl, hb⟩
    replace ra := ra.below hb
    replace rb := rb.below hb
    replace HB := onto HB hb
    clear hb
    rw [tell_gt h]
    have hne : (s.toList == t.toList) = false := beq_eq_false_iff_ne.2 (HO.out.2.2.2 (by rw [Hns.out, Hnt.out]; omega))
    rcases HO.out.2.1 (by rw [Hns.out, Hnt.out]; exact h) with h1 | ⟨h1, h2⟩
    · have z3 : decide ((s.size : Int) < (t.size : Int)) = false := decide_eq_false (by omega)
      have z4 : ((s.size : Int) == (t.size : Int)) = false := by simp; omega
      clear h
      go_wp2
      go_ret
      exact ⟨rfl, HB⟩
    · clear h
      go_wp2
      go_ret
      exact ⟨rfl, HB⟩

theorem dorder_law {w : World} {ada adb : Option Addr} {na ca nb cb : Nat} {a b : List Nat} (ra : Rd w (.slice ada na ca) a) (rb : Rd w (.slice adb nb cb) b) :
    Calls Tryd.prog 5 #[.slice ada na ca, .slice adb nb cb] w (Samed w true) := by
  by_cases h : 60 < na ∨ 60 < nb
  · exact dorder_great ada adb na ca nb cb h
  · exact dorder_any ra rb (by omega) (by omega)

end Go.Proofs.YtkfododihdopiaaDoor
