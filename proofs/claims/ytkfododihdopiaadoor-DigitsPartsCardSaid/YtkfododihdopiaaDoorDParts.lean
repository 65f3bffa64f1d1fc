/-
  DigitsParts: the law's body answers true of any two lists.
-/
import Derived.Test.YtkfododihdopiaaDoorDWrong
namespace Go.Proofs.YtkfododihdopiaaDoor
open Go.RowKit

set_option maxRecDepth 100000 in
set_option maxHeartbeats 4000000 in
theorem dparts_great {w : World} (ada adb : Option Addr) (na ca nb cb : Nat) (h : 20 < na ∨ 20 < nb) :
    Calls Tryd.prog 9 #[.slice ada na ca, .slice adb nb cb] w (Samed w true) := by
  by_cases h6 : 20 < na
  · clear h
    go_enter Tryd.func9, Tryd.ntmps9
    go_wp2_with fail
    refine (dhead_any w).mono ?_
    rintro e w1 ⟨rfl, hb⟩
    have z : decide ((20 : Int) < (na : Int)) = true := decide_eq_true (by omega)
    go_wp2
    go_ret
    exact ⟨rfl, hb⟩
  · have h2 : 20 < nb := by omega
    clear h
    go_enter Tryd.func9, Tryd.ntmps9
    go_wp2_with fail
    refine (dhead_any w).mono ?_
    rintro e w1 ⟨rfl, hb⟩
    have z : decide ((20 : Int) < (na : Int)) = false := decide_eq_false (by omega)
    have z2 : decide ((20 : Int) < (nb : Int)) = true := decide_eq_true (by omega)
    go_wp2
    go_ret
    exact ⟨rfl, hb⟩

set_option maxRecDepth 100000 in
set_option maxHeartbeats 4000000 in
theorem dparts_zero {w : World} {ada adb : Option Addr} {na ca nb cb : Nat} {a : List Nat} (ra : Rd w (.slice ada na ca) a) (ha : na ≤ 20) (hb20 : nb ≤ 20) (h : val a = 0) :
    Calls Tryd.prog 9 #[.slice ada na ca, .slice adb nb cb] w (Samed w true) := by
  have la : a.length ≤ 20 := by rw [← ra.open.1]; exact ha
  have z : decide ((20 : Int) < (na : Int)) = false := decide_eq_false (by omega)
  have z2 : decide ((20 : Int) < (nb : Int)) = false := decide_eq_false (by omega)
  have H0 := Lib.hid h; clear h ha hb20
  go_enter Tryd.func9, Tryd.ntmps9
  go_wp2_with fail
  refine (dhead_any w).mono ?_
  rintro e w1 ⟨rfl, hb⟩
  go_wp2_with fail
  refine (rnorm_any (ra.below hb) (by omega)).mono ?_
  rintro e w2 ⟨adx, nx, cx, lx, rfl, -, rx, kx, vx, hb2⟩
  obtain rfl : lx = [] := kx.zero (vx.trans H0.out)
  obtain rfl : nx = 0 := rx.open.1
  clear vx
  go_wp2
  go_ret
  exact ⟨rfl, onto hb hb2⟩

theorem ten_small {i : Nat} (h : i ≤ 200) {l : List Nat} (hc : Can l) (hv : val l = 10 ^ i) : l.length ≤ 22 :=
  hc.len (ten_limbs (k := 11) (by rw [hv]; exact Nat.lt_of_le_of_lt (ten_le h) (Nat.pow_lt_pow_right (by decide) (by decide))))

set_option maxRecDepth 100000 in
set_option maxHeartbeats 8000000 in
theorem dparts_main {w : World} {ada adb : Option Addr} {na ca nb cb : Nat} {a b : List Nat} (ra : Rd w (.slice ada na ca) a) (rb : Rd w (.slice adb nb cb) b) (ha : na ≤ 20) (hb20 : nb ≤ 20) (h : 0 < val a) :
    Calls Tryd.prog 9 #[.slice ada na ca, .slice adb nb cb] w (Samed w true) := by
  have HB := Below.refl w.heap.size w
  have la : a.length ≤ 20 := by rw [← ra.open.1]; exact ha
  have lb : b.length ≤ 20 := by rw [← rb.open.1]; exact hb20
  have z : decide ((20 : Int) < (na : Int)) = false := decide_eq_false (by omega)
  have z2 : decide ((20 : Int) < (nb : Int)) = false := decide_eq_false (by omega)
  have hlima := Lib.hid ra.lim
  have hlimb := Lib.hid rb.lim
  have H0 := Lib.hid h; clear h ha hb20
  go_enter Tryd.func9, Tryd.ntmps9
  go_wp2_with fail
  refine (dhead_any w).mono ?_
  rintro e w1 ⟨rfl, hb⟩
  replace ra := ra.below hb
  replace rb := rb.below hb
  replace HB := onto HB hb
  clear hb
  go_wp2_with fail
  refine (rnorm_any ra (by omega)).mono ?_
  rintro e w2 ⟨adx, nx, cx, lx, rfl, -, rx, kx, vx, hb⟩
  replace ra := ra.below hb
  replace rb := rb.below hb
  replace HB := onto HB hb
  clear hb
  have Hvx := Lib.hid vx; clear vx
  have hx0 : 0 < nx := by
    rw [rx.open.1]
    rcases Nat.eq_zero_or_pos lx.length with e | e
    · have h1 := Hvx.out
      rw [List.eq_nil_of_length_eq_zero e] at h1
      have := H0.out
      rw [← h1] at this
      exact absurd this (by decide)
    · exact e
  have z3 : ((nx : Int) == 0) = false := by simp; omega
  clear hx0 rx kx
  go_wp2_with fail
  refine (text_any rb (by omega)).mono ?_
  rintro e w3 ⟨s, rfl, ds, ns, hb⟩
  replace ra := ra.below hb
  replace rb := rb.below hb
  replace HB := onto HB hb
  clear hb
  have Hns := Lib.hid ns; clear ns
  have hs : s.size ≤ 200 := text_size ds hlimb.out Hns.out lb (by decide)
  have DS := Lib.hid ds; clear ds
  go_wp2_with fail
  refine (text_any ra (by omega)).mono ?_
  rintro e w4 ⟨t, rfl, dt, nt, hb⟩
  replace ra := ra.below hb
  replace rb := rb.below hb
  replace HB := onto HB hb
  clear hb
  have Hnt := Lib.hid nt; clear nt
  have ht : t.size ≤ 200 := text_size dt hlima.out Hnt.out la (by decide)
  have DT := Lib.hid dt; clear dt
  have hdec : Dec (by0 (t ++ s)) := by rw [by0_append]; exact DT.out.more (by rw [Hnt.out]; exact H0.out) DS.out.1
  have hlen : (t ++ s).size ≤ 1900 := by rw [← by0_len, by0_append, List.length_append, by0_len, by0_len]; omega
  have hnum : num (by0 (t ++ s)) = val a * 10 ^ s.size + val b := by rw [by0_append, num_append, Hnt.out, Hns.out, by0_len]
  have HDEC := Lib.hid hdec; clear hdec
  have HLEN := Lib.hid hlen; clear hlen
  have HNUM := Lib.hid hnum; clear hnum
  go_wp2_with fail
  refine (parse_ok _ _ HDEC.out HLEN.out).mono ?_
  rintro e w5 ⟨ady, ny, cy, ly, rfl, ry, ky, vy, hb⟩
  replace ra := ra.below hb
  replace rb := rb.below hb
  replace HB := onto HB hb
  clear hb
  have Hvy := Lib.hid vy; clear vy
  have by1 : ly.length ≤ 200 := few_limbs HDEC.out.1 (by rw [by0_len]; exact HLEN.out) ky (by rw [Hvy.out]; exact Nat.le_refl _)
  go_wp2_with fail
  go_loopw [9, 10] (fun v i wr => ∃ (k : Nat) (ad : Option Addr) (n cap : Nat) (l : List Nat), v = .slice ad n cap ∧ i = .int .i64 k ∧ k ≤ s.size ∧ Rd wr (.slice ad n cap) l ∧ Can l ∧ val l = 10 ^ k ∧ Below w5.heap.size w5 wr) (fun _ i _ => s.size - (intOf i).toNat)
  case atStart => exact ⟨0, _, 1, 1, [1], rfl, rfl, by omega, lit1 _ 1 (by decide), can1 1 (by decide) (by decide), rfl, alb _ _⟩
  case round =>
    obtain ⟨k, ad, n, cap, l, rfl, rfl, hk, rl, kl, vl, hbel⟩ := hrel
    have ll : l.length ≤ 22 := ten_small (by omega) kl vl
    have VL := Lib.hid vl; clear vl
    by_cases hlt : k < s.size
    · have z4 : decide ((k : Int) < (s.size : Int)) = true := decide_eq_true (by omega)
      go_wp2_with fail
      refine (rmul_any (rl.below (alb _ _)) (lit1 _ 10 (by decide)) (by omega) (by decide)).mono ?_
      rintro e w20 ⟨adm, nm, cm, lm, rfl, -, rm, km, vm, hb⟩
      replace hb := past hb
      have hbel2 := onto hbel hb
      have hvm : val lm = 10 ^ (k + 1) := by rw [vm, VL.out, val1, Nat.pow_succ]
      have VM := Lib.hid hvm
      clear vm hvm hb
      go_wp2
      go_roundw
      case rel => exact ⟨k + 1, adm, nm, cm, lm, rfl, by go_num, by omega, rm, km, VM.out, hbel2⟩
      case measure => simp [intOf]; omega
    · obtain rfl : k = s.size := by omega
      have z4 : decide ((s.size : Int) < (s.size : Int)) = false := decide_eq_false (by omega)
      replace ra := ra.below hbel
      replace rb := rb.below hbel
      replace ry := ry.below hbel
      replace HB := onto HB hbel
      clear hbel
      go_wp2_with fail
      refine (rmul_any ra rl (by omega) (by omega)).mono ?_
      rintro e w31 ⟨adm, nm, cm, lm, rfl, -, rm, km, vm, hb⟩
      replace ra := ra.below hb
      replace rb := rb.below hb
      replace ry := ry.below hb
      replace rl := rl.below hb
      replace HB := onto HB hb
      clear hb
      have Hvm := Lib.hid vm; clear vm
      have bm : lm.length ≤ 200 := few_limbs HDEC.out.1 (by rw [by0_len]; exact HLEN.out) km (by rw [Hvm.out, HNUM.out, VL.out]; exact Nat.le_add_right _ _)
      go_wp2_with fail
      refine (radd_any rm rb (by omega) (by omega)).mono ?_
      rintro e w32 ⟨adt, nt, ct, lt, rfl, -, rt, kt, vt, hb⟩
      replace ra := ra.below hb
      replace rb := rb.below hb
      replace ry := ry.below hb
      replace rl := rl.below hb
      replace rm := rm.below hb
      replace HB := onto HB hb
      clear hb
      have Hvt := Lib.hid vt; clear vt
      go_wp2_with fail
      refine (same_vals ry rt (by omega) ky kt (by rw [Hvy.out, Hvt.out, Hvm.out, HNUM.out, VL.out])).mono ?_
      rintro e w33 ⟨rfl, hb⟩
      replace ra := ra.below hb
      replace rb := rb.below hb
      replace ry := ry.below hb
      replace rl := rl.below hb
      replace rm := rm.below hb
      replace rt := rt.below hb
      replace HB := onto HB hb
      clear hb
      go_wp2
      go_ret
      exact ⟨rfl, HB⟩

theorem dparts_law {w : World} {ada adb : Option Addr} {na ca nb cb : Nat} {a b : List Nat} (ra : Rd w (.slice ada na ca) a) (rb : Rd w (.slice adb nb cb) b) :
    Calls Tryd.prog 9 #[.slice ada na ca, .slice adb nb cb] w (Samed w true) := by
  by_cases h : 20 < na ∨ 20 < nb
  · exact dparts_great ada adb na ca nb cb h
  · rcases Nat.eq_zero_or_pos (val a) with h0 | h0
    · exact dparts_zero ra (by omega) (by omega) h0
    · exact dparts_main ra rb (by omega) (by omega) h0

end Go.Proofs.YtkfododihdopiaaDoor
