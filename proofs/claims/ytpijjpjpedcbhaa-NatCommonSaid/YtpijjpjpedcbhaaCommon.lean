/-
  NatCommon: the greatest one that divides both divides both; what is left of them has none but 1; times a third one it is that many times as great: the law's body answers true of any three lists.
-/
import Derived.Test.YtpijjpjpedcbhaaBack
import Derived.Test.YtpijjpjpedcbhaaLow
import Derived.Test.YtpijjpjpedcbhaaBlendAll
namespace Go.Proofs.Ytpijjpjpedcbhaa
open Go.RowKit

set_option maxRecDepth 100000 in
set_option maxHeartbeats 2000000 in
theorem common_great {w : World} (ada adb adc : Option Addr) (na ca nb cb nc cc : Nat) (h : 12 < na ∨ 12 < nb ∨ 6 < nc) :
    Calls Try.prog 8 #[.slice ada na ca, .slice adb nb cb, .slice adc nc cc] w (Samed w true) := by
  by_cases h1 : 12 < na
  · have d1 : decide ((12 : Int) < (na : Int)) = true := decide_eq_true (by omega)
    clear h
    go_enter Try.func8, Try.ntmps8
    go_wp2_with fail
    refine (head_any w).mono ?_
    rintro e w1 ⟨rfl, hb⟩
    go_wp2
    go_ret
    exact ⟨rfl, hb⟩
  · have d1 : decide ((12 : Int) < (na : Int)) = false := decide_eq_false (by omega)
    by_cases h2 : 12 < nb
    · have d2 : decide ((12 : Int) < (nb : Int)) = true := decide_eq_true (by omega)
      clear h
      go_enter Try.func8, Try.ntmps8
      go_wp2_with fail
      refine (head_any w).mono ?_
      rintro e w1 ⟨rfl, hb⟩
      go_wp2
      go_ret
      exact ⟨rfl, hb⟩
    · have d2 : decide ((12 : Int) < (nb : Int)) = false := decide_eq_false (by omega)
      have d3 : decide ((6 : Int) < (nc : Int)) = true := decide_eq_true (by omega)
      clear h
      go_enter Try.func8, Try.ntmps8
      go_wp2_with fail
      refine (head_any w).mono ?_
      rintro e w1 ⟨rfl, hb⟩
      go_wp2
      go_ret
      exact ⟨rfl, hb⟩

theorem gcd_lt {x y k : Nat} (hx : x < pw k) (hy : y < pw k) : Nat.gcd x y < pw k := by
  rcases Nat.eq_zero_or_pos x with h | h
  · rw [h, Nat.gcd_zero_left]; exact hy
  · exact Nat.lt_of_le_of_lt (Nat.gcd_le_left y h) hx

set_option maxRecDepth 100000 in
set_option maxHeartbeats 4000000 in
theorem common_zero {w : World} {ada adb adc : Option Addr} {na ca nb cb nc cc : Nat} {a b c : List Nat} (ra : Rd w (.slice ada na ca) a) (rb : Rd w (.slice adb nb cb) b) (rc : Rd w (.slice adc nc cc) c) (ha : na ≤ 12) (hb12 : nb ≤ 12) (hc6 : nc ≤ 6) (h0 : Nat.gcd (val a) (val b) = 0) :
    Calls Try.prog 8 #[.slice ada na ca, .slice adb nb cb, .slice adc nc cc] w (Samed w true) := by
  have HB := Below.refl w.heap.size w
  have H0 := Lib.hid h0; clear h0
  have sa := rd_small ra ha
  have sb := rd_small rb hb12
  have sc := rd_small rc hc6
  have la : a.length ≤ 12 := by rw [← ra.open.1]; exact ha
  have lb : b.length ≤ 12 := by rw [← rb.open.1]; exact hb12
  have lc : c.length ≤ 6 := by rw [← rc.open.1]; exact hc6
  have d1 : decide ((12 : Int) < (na : Int)) = false := decide_eq_false (by omega)
  have d2 : decide ((12 : Int) < (nb : Int)) = false := decide_eq_false (by omega)
  have d3 : decide ((6 : Int) < (nc : Int)) = false := decide_eq_false (by omega)
  go_enter Try.func8, Try.ntmps8
  go_wp2_with fail
  refine (head_any w).mono ?_
  rintro e w1 ⟨rfl, hb⟩
  replace ra := ra.below hb
  replace rb := rb.below hb
  replace rc := rc.below hb
  replace HB := onto HB hb
  clear hb
  go_wp2_with fail
  refine (gcd_any ra rb (by omega) (by omega)).mono ?_
  rintro e w2 ⟨adg, ng, cg, lg, rfl, rg, kg, vg, hb⟩
  replace ra := ra.below hb
  replace rb := rb.below hb
  replace rc := rc.below hb
  replace HB := onto HB hb
  clear hb
  have Hvg := Lib.hid vg; clear vg
  have sg : val lg < pw 12 := by rw [Hvg.out]; exact gcd_lt sa sb
  have bg : lg.length ≤ 12 := kg.len sg
  obtain rfl : lg = [] := kg.zero (Hvg.out.trans H0.out)
  obtain rfl : ng = 0 := rg.open.1
  go_wp2_with fail
  refine (norm_any ra (by omega)).mono ?_
  rintro e w3 ⟨ady1, ny1, cy1, ly1, rfl, ry1, ky1, vy1, hb⟩
  replace ra := ra.below hb
  replace rb := rb.below hb
  replace rc := rc.below hb
  replace rg := rg.below hb
  replace HB := onto HB hb
  clear hb
  have Hvy1 := Lib.hid vy1; clear vy1
  obtain rfl : ly1 = [] := ky1.zero (Hvy1.out.trans (Nat.eq_zero_of_gcd_eq_zero_left H0.out))
  obtain rfl : ny1 = 0 := ry1.open.1
  go_wp2_with fail
  refine (norm_any rb (by omega)).mono ?_
  rintro e w4 ⟨ady2, ny2, cy2, ly2, rfl, ry2, ky2, vy2, hb⟩
  replace ra := ra.below hb
  replace rb := rb.below hb
  replace rc := rc.below hb
  replace rg := rg.below hb
  replace ry1 := ry1.below hb
  replace HB := onto HB hb
  clear hb
  have Hvy2 := Lib.hid vy2; clear vy2
  obtain rfl : ly2 = [] := ky2.zero (Hvy2.out.trans (Nat.eq_zero_of_gcd_eq_zero_right H0.out))
  obtain rfl : ny2 = 0 := ry2.open.1
  go_wp2
  go_ret
  exact ⟨rfl, HB⟩

set_option maxRecDepth 100000 in
set_option maxHeartbeats 4000000 in
theorem common_more {w : World} {ada adb adc : Option Addr} {na ca nb cb nc cc : Nat} {a b c : List Nat} (ra : Rd w (.slice ada na ca) a) (rb : Rd w (.slice adb nb cb) b) (rc : Rd w (.slice adc nc cc) c) (ha : na ≤ 12) (hb12 : nb ≤ 12) (hc6 : nc ≤ 6) (h0 : 0 < Nat.gcd (val a) (val b)) :
    Calls Try.prog 8 #[.slice ada na ca, .slice adb nb cb, .slice adc nc cc] w (Samed w true) := by
  have HB := Below.refl w.heap.size w
  have H0 := Lib.hid h0; clear h0
  have sa := rd_small ra ha
  have sb := rd_small rb hb12
  have sc := rd_small rc hc6
  have la : a.length ≤ 12 := by rw [← ra.open.1]; exact ha
  have lb : b.length ≤ 12 := by rw [← rb.open.1]; exact hb12
  have lc : c.length ≤ 6 := by rw [← rc.open.1]; exact hc6
  have d1 : decide ((12 : Int) < (na : Int)) = false := decide_eq_false (by omega)
  have d2 : decide ((12 : Int) < (nb : Int)) = false := decide_eq_false (by omega)
  have d3 : decide ((6 : Int) < (nc : Int)) = false := decide_eq_false (by omega)
  go_enter Try.func8, Try.ntmps8
  go_wp2_with fail
  refine (head_any w).mono ?_
  rintro e w1 ⟨rfl, hb⟩
  replace ra := ra.below hb
  replace rb := rb.below hb
  replace rc := rc.below hb
  replace HB := onto HB hb
  clear hb
  go_wp2_with fail
  refine (gcd_any ra rb (by omega) (by omega)).mono ?_
  rintro e w2 ⟨adg, ng, cg, lg, rfl, rg, kg, vg, hb⟩
  replace ra := ra.below hb
  replace rb := rb.below hb
  replace rc := rc.below hb
  replace HB := onto HB hb
  clear hb
  have Hvg := Lib.hid vg; clear vg
  have sg : val lg < pw 12 := by rw [Hvg.out]; exact gcd_lt sa sb
  have bg : lg.length ≤ 12 := kg.len sg
  have hg0 : 0 < ng := len_pos rg (by rw [Hvg.out]; exact H0.out)
  go_wp2_with fail
  refine (div_yes ra rg (by omega) (by omega) (by rw [Hvg.out]; exact H0.out)).mono ?_
  rintro e w3 ⟨adx, nx, cx, lx, adr, nr, cr, lr, rfl, rx, kx, vx, rr, kr, vr, hb⟩
  replace ra := ra.below hb
  replace rb := rb.below hb
  replace rc := rc.below hb
  replace rg := rg.below hb
  replace HB := onto HB hb
  clear hb
  have Hvx := Lib.hid vx; clear vx
  have Hvr := Lib.hid vr; clear vr
  obtain rfl : lr = [] := kr.zero (Hvr.out.trans (by rw [Hvg.out]; exact Nat.mod_eq_zero_of_dvd (Nat.gcd_dvd_left _ _)))
  obtain rfl : nr = 0 := rr.open.1
  have bx : lx.length ≤ 12 := kx.len (by rw [Hvx.out]; exact Nat.lt_of_le_of_lt (Nat.div_le_self _ _) sa)
  go_wp2_with fail
  refine (div_yes rb rg (by omega) (by omega) (by rw [Hvg.out]; exact H0.out)).mono ?_
  rintro e w4 ⟨ady, ny, cy, ly, ads, ns, cs, ls, rfl, ry, ky, vy, rs, ks, vs, hb⟩
  replace ra := ra.below hb
  replace rb := rb.below hb
  replace rc := rc.below hb
  replace rg := rg.below hb
  replace rx := rx.below hb
  replace rr := rr.below hb
  replace HB := onto HB hb
  clear hb
  have Hvy := Lib.hid vy; clear vy
  have Hvs := Lib.hid vs; clear vs
  obtain rfl : ls = [] := ks.zero (Hvs.out.trans (by rw [Hvg.out]; exact Nat.mod_eq_zero_of_dvd (Nat.gcd_dvd_right _ _)))
  obtain rfl : ns = 0 := rs.open.1
  have by1 : ly.length ≤ 12 := ky.len (by rw [Hvy.out]; exact Nat.lt_of_le_of_lt (Nat.div_le_self _ _) sb)
  go_wp2_with fail
  refine (gcd_any rx ry (by omega) (by omega)).mono ?_
  rintro e w5 ⟨adh, nh, ch, lh, rfl, rh, kh, vh, hb⟩
  replace ra := ra.below hb
  replace rb := rb.below hb
  replace rc := rc.below hb
  replace rg := rg.below hb
  replace rx := rx.below hb
  replace rr := rr.below hb
  replace ry := ry.below hb
  replace rs := rs.below hb
  replace HB := onto HB hb
  clear hb
  have Hvh := Lib.hid vh; clear vh
  have eh : val lh = 1 := by rw [Hvh.out, Hvx.out, Hvy.out, Hvg.out, Nat.gcd_div (Nat.gcd_dvd_left _ _) (Nat.gcd_dvd_right _ _)]; exact Nat.div_self H0.out
  have EH := Lib.hid eh; clear eh
  have bh : lh.length ≤ 1 := kh.len (by rw [EH.out]; decide)
  go_wp2_with fail
  refine (same_vals (rh.below (alb _ _)) (lit1 _ 1 (by decide)) (by omega) kh (can1 1 (by decide) (by decide)) (by rw [EH.out]; decide)).mono ?_
  rintro e w6 ⟨rfl, hb⟩
  replace hb := past hb
  replace ra := ra.below hb
  replace rb := rb.below hb
  replace rc := rc.below hb
  replace rg := rg.below hb
  replace rx := rx.below hb
  replace rr := rr.below hb
  replace ry := ry.below hb
  replace rs := rs.below hb
  replace rh := rh.below hb
  replace HB := onto HB hb
  clear hb
  go_wp2_with fail
  refine (gcd_any rb ra (by omega) (by omega)).mono ?_
  rintro e w7 ⟨adi, ni, ci, li, rfl, ri, ki, vi, hb⟩
  replace ra := ra.below hb
  replace rb := rb.below hb
  replace rc := rc.below hb
  replace rg := rg.below hb
  replace rx := rx.below hb
  replace rr := rr.below hb
  replace ry := ry.below hb
  replace rs := rs.below hb
  replace rh := rh.below hb
  replace HB := onto HB hb
  clear hb
  have Hvi := Lib.hid vi; clear vi
  have si : val li < pw 12 := by rw [Hvi.out]; exact gcd_lt sb sa
  have bi : li.length ≤ 12 := ki.len si
  go_wp2_with fail
  refine (same_vals ri rg (by omega) ki kg (by rw [Hvi.out, Hvg.out, Nat.gcd_comm])).mono ?_
  rintro e w8 ⟨rfl, hb⟩
  replace ra := ra.below hb
  replace rb := rb.below hb
  replace rc := rc.below hb
  replace rg := rg.below hb
  replace rx := rx.below hb
  replace rr := rr.below hb
  replace ry := ry.below hb
  replace rs := rs.below hb
  replace rh := rh.below hb
  replace ri := ri.below hb
  replace HB := onto HB hb
  clear hb
  go_wp2_with fail
  refine (mul_any ra rc (by omega) (by omega)).mono ?_
  rintro e w9 ⟨adm, nm, cm, lm, rfl, rm, km, vm, hb⟩
  replace ra := ra.below hb
  replace rb := rb.below hb
  replace rc := rc.below hb
  replace rg := rg.below hb
  replace rx := rx.below hb
  replace rr := rr.below hb
  replace ry := ry.below hb
  replace rs := rs.below hb
  replace rh := rh.below hb
  replace ri := ri.below hb
  replace HB := onto HB hb
  clear hb
  have Hvm := Lib.hid vm; clear vm
  have sm : val lm < pw 18 := by rw [Hvm.out]; exact lt_mul sa sc
  have bm : lm.length ≤ 18 := km.len sm
  go_wp2_with fail
  refine (mul_any rb rc (by omega) (by omega)).mono ?_
  rintro e w10 ⟨adn, nn, cn, ln, rfl, rn, kn, vn, hb⟩
  replace ra := ra.below hb
  replace rb := rb.below hb
  replace rc := rc.below hb
  replace rg := rg.below hb
  replace rx := rx.below hb
  replace rr := rr.below hb
  replace ry := ry.below hb
  replace rs := rs.below hb
  replace rh := rh.below hb
  replace ri := ri.below hb
  replace rm := rm.below hb
  replace HB := onto HB hb
  clear hb
  have Hvn := Lib.hid vn; clear vn
  have sn : val ln < pw 18 := by rw [Hvn.out]; exact lt_mul sb sc
  have bn : ln.length ≤ 18 := kn.len sn
  go_wp2_with fail
  refine (gcd_any rm rn (by omega) (by omega)).mono ?_
  rintro e w11 ⟨adp, np, cp, lp, rfl, rp, kp, vp, hb⟩
  replace ra := ra.below hb
  replace rb := rb.below hb
  replace rc := rc.below hb
  replace rg := rg.below hb
  replace rx := rx.below hb
  replace rr := rr.below hb
  replace ry := ry.below hb
  replace rs := rs.below hb
  replace rh := rh.below hb
  replace ri := ri.below hb
  replace rm := rm.below hb
  replace rn := rn.below hb
  replace HB := onto HB hb
  clear hb
  have Hvp := Lib.hid vp; clear vp
  have sp : val lp < pw 18 := by rw [Hvp.out]; exact gcd_lt sm sn
  have bp : lp.length ≤ 18 := kp.len sp
  go_wp2_with fail
  refine (mul_any rg rc (by omega) (by omega)).mono ?_
  rintro e w12 ⟨adq, nq, cq, lq, rfl, rq, kq, vq, hb⟩
  replace ra := ra.below hb
  replace rb := rb.below hb
  replace rc := rc.below hb
  replace rg := rg.below hb
  replace rx := rx.below hb
  replace rr := rr.below hb
  replace ry := ry.below hb
  replace rs := rs.below hb
  replace rh := rh.below hb
  replace ri := ri.below hb
  replace rm := rm.below hb
  replace rn := rn.below hb
  replace rp := rp.below hb
  replace HB := onto HB hb
  clear hb
  have Hvq := Lib.hid vq; clear vq
  have sq : val lq < pw 18 := by rw [Hvq.out]; exact lt_mul sg sc
  have bq : lq.length ≤ 18 := kq.len sq
  go_wp2_with fail
  refine (same_vals rp rq (by omega) kp kq (by rw [Hvp.out, Hvq.out, Hvm.out, Hvn.out, Hvg.out, Nat.gcd_mul_right])).mono ?_
  rintro e w13 ⟨rfl, hb⟩
  replace ra := ra.below hb
  replace rb := rb.below hb
  replace rc := rc.below hb
  replace rg := rg.below hb
  replace rx := rx.below hb
  replace rr := rr.below hb
  replace ry := ry.below hb
  replace rs := rs.below hb
  replace rh := rh.below hb
  replace ri := ri.below hb
  replace rm := rm.below hb
  replace rn := rn.below hb
  replace rp := rp.below hb
  replace rq := rq.below hb
  replace HB := onto HB hb
  clear hb
  go_wp2
  go_ret
  exact ⟨rfl, HB⟩

theorem common_law {w : World} {va vb vc : Value} {a b c : List Nat} (ra : Rd w va a) (rb : Rd w vb b) (rc : Rd w vc c) : Calls Try.prog 8 #[va, vb, vc] w (Samed w true) := by
  obtain ⟨ada, na, ca, rfl, -⟩ := id ra
  obtain ⟨adb, nb, cb, rfl, -⟩ := id rb
  obtain ⟨adc, nc, cc, rfl, -⟩ := id rc
  by_cases h : 12 < na ∨ 12 < nb ∨ 6 < nc
  · exact common_great ada adb adc na ca nb cb nc cc h
  · rcases Nat.eq_zero_or_pos (Nat.gcd (val a) (val b)) with h0 | h0
    · exact common_zero ra rb rc (by omega) (by omega) (by omega) h0
    · exact common_more ra rb rc (by omega) (by omega) (by omega) h0

end Go.Proofs.Ytpijjpjpedcbhaa
