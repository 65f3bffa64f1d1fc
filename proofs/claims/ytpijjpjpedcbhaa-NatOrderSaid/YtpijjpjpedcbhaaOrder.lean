/-
  NatOrder: of any three numbers the order is one, and what is greater by something is greater: the law's body answers true of any three lists.
-/
import Derived.Test.YtpijjpjpedcbhaaLow
namespace Go.Proofs.Ytpijjpjpedcbhaa
open Go.RowKit

theorem tell_back (m n : Nat) : tell n m = -tell m n := by
  unfold tell; split <;> split <;> first | rfl | omega | (split <;> first | rfl | omega)

theorem tell_zero {m n : Nat} (h : tell m n = 0) : m = n := by
  unfold tell at h; split at h
  · omega
  · split at h <;> omega

theorem tell_le {m n : Nat} (h : tell m n ≤ 0) : m ≤ n := by
  unfold tell at h; split at h
  · omega
  · split at h
    · exact absurd h (by decide)
    · omega

theorem tell_le' {m n : Nat} (h : m ≤ n) : tell m n ≤ 0 := by
  unfold tell; split
  · decide
  · split
    · omega
    · decide

theorem tell_add (m n k : Nat) : tell (m + k) (n + k) = tell m n := by
  unfold tell; split <;> split <;> first | rfl | omega | (split <;> split <;> first | rfl | omega)

theorem same_not {w : World} {va vb : Value} {a b : List Nat} (ha : Rd w va a) (hb : Rd w vb b) (la : a.length ≤ 1000000) (lb : b.length ≤ 1000000) (h : a ≠ b) :
    Calls Try.prog 18 #[va, vb] w (Samed w false) := by
  have := same_any ha hb la lb
  rwa [decide_eq_false h] at this

set_option maxRecDepth 100000 in
set_option maxHeartbeats 2000000 in
theorem order_great {w : World} (ada adb adc : Option Addr) (na ca nb cb nc cc : Nat) (h : 20 < na ∨ 20 < nb) :
    Calls Try.prog 7 #[.slice ada na ca, .slice adb nb cb, .slice adc nc cc] w (Samed w true) := by
  have hg := fun w => great_yes ada adb na ca nb cb w h
  have HG := Lib.hid hg; clear hg
  go_enter Try.func7, Try.ntmps7
  go_wp2_with fail
  refine (head_any w).mono ?_
  rintro e w1 ⟨rfl, hb⟩
  go_wp2_with fail
  refine (HG.out w1).mono ?_
  rintro e w0 ⟨rfl, rfl⟩
  go_wp2
  go_ret
  exact ⟨rfl, hb⟩

set_option maxRecDepth 100000 in
set_option maxHeartbeats 2000000 in
theorem order_long {w : World} (ada adb adc : Option Addr) (na ca nb cb nc cc : Nat) (ha : na ≤ 20) (hb20 : nb ≤ 20) (h : 60 < nc) :
    Calls Try.prog 7 #[.slice ada na ca, .slice adb nb cb, .slice adc nc cc] w (Samed w true) := by
  have hg := fun w => great_no ada adb na ca nb cb w ha hb20
  have HG := Lib.hid hg; clear hg
  have hd : decide ((60 : Int) < (nc : Int)) = true := decide_eq_true (by omega)
  go_enter Try.func7, Try.ntmps7
  go_wp2_with fail
  refine (head_any w).mono ?_
  rintro e w1 ⟨rfl, hb⟩
  go_wp2_with fail
  refine (HG.out w1).mono ?_
  rintro e w0 ⟨rfl, rfl⟩
  go_wp2
  go_ret
  exact ⟨rfl, hb⟩

set_option maxRecDepth 100000 in
set_option maxHeartbeats 4000000 in
theorem order_gt {w : World} {ada adb adc : Option Addr} {na ca nb cb nc cc : Nat} {a b c : List Nat} (ra : Rd w (.slice ada na ca) a) (rb : Rd w (.slice adb nb cb) b) (rc : Rd w (.slice adc nc cc) c) (ha : na ≤ 20) (hb20 : nb ≤ 20) (hc60 : nc ≤ 60) (hx : tell (val a) (val b) = 1) :
    Calls Try.prog 7 #[.slice ada na ca, .slice adb nb cb, .slice adc nc cc] w (Samed w true) := by
  obtain ⟨y, hy0⟩ : ∃ y, tell (val b) (val c) = y := ⟨_, rfl⟩
  have HY0 := Lib.hid hy0; clear hy0
  have HX := Lib.hid hx; clear hx
  have HB := Below.refl w.heap.size w
  have sa := rd_small ra ha
  have sb := rd_small rb hb20
  have sc := rd_small rc hc60
  have la : a.length ≤ 20 := by rw [← ra.open.1]; exact ha
  have lb : b.length ≤ 20 := by rw [← rb.open.1]; exact hb20
  have lc : c.length ≤ 60 := by rw [← rc.open.1]; exact hc60
  have hd : decide ((60 : Int) < (nc : Int)) = false := decide_eq_false (by omega)
  go_enter Try.func7, Try.ntmps7
  go_wp2_with fail
  refine (head_any w).mono ?_
  rintro e w1 ⟨rfl, hb⟩
  replace ra := ra.below hb
  replace rb := rb.below hb
  replace rc := rc.below hb
  replace HB := onto HB hb
  clear hb
  go_wp2_with fail
  refine (great_no ada adb na ca nb cb w1 ha hb20).mono ?_
  rintro e w0 ⟨rfl, rfl⟩
  go_wp2_with fail
  refine (cmp_at ra rb (by omega) (by omega) (t := 1) HX.out).mono ?_
  rintro e w2 ⟨rfl, hb⟩
  replace ra := ra.below hb
  replace rb := rb.below hb
  replace rc := rc.below hb
  replace HB := onto HB hb
  clear hb
  go_wp2_with fail
  refine (cmp_at rb rc (by omega) (by omega) (t := y) HY0.out).mono ?_
  rintro e w3 ⟨rfl, hb⟩
  replace ra := ra.below hb
  replace rb := rb.below hb
  replace rc := rc.below hb
  replace HB := onto HB hb
  clear hb
  go_wp2_with fail
  refine (cmp_at rb ra (by omega) (by omega) (t := (-1)) (by rw [tell_back, HX.out] <;> rfl)).mono ?_
  rintro e w4 ⟨rfl, hb⟩
  replace ra := ra.below hb
  replace rb := rb.below hb
  replace rc := rc.below hb
  replace HB := onto HB hb
  clear hb
  go_wp2_with fail
  refine (norm_any ra (by omega)).mono ?_
  rintro e w5 ⟨adp, np, cp, lp, rfl, rp, kp, vp, hb⟩
  replace ra := ra.below hb
  replace rb := rb.below hb
  replace rc := rc.below hb
  replace HB := onto HB hb
  clear hb
  have Hvp := Lib.hid vp; clear vp
  have sp : val lp < pw 20 := by rw [Hvp.out]; exact sa
  have bp : lp.length ≤ 20 := kp.len sp
  go_wp2_with fail
  refine (norm_any rb (by omega)).mono ?_
  rintro e w6 ⟨adq, nq, cq, lq, rfl, rq, kq, vq, hb⟩
  replace ra := ra.below hb
  replace rb := rb.below hb
  replace rc := rc.below hb
  replace rp := rp.below hb
  replace HB := onto HB hb
  clear hb
  have Hvq := Lib.hid vq; clear vq
  have sq : val lq < pw 20 := by rw [Hvq.out]; exact sb
  have bq : lq.length ≤ 20 := kq.len sq
  go_wp2_with fail
  refine (same_not rp rq (by omega) (by omega) (fun h => by have e := HX.out; rw [← Hvp.out, ← Hvq.out, h, tell_eq rfl] at e; exact absurd e (by decide))).mono ?_
  rintro e w7 ⟨rfl, hb⟩
  replace ra := ra.below hb
  replace rb := rb.below hb
  replace rc := rc.below hb
  replace rp := rp.below hb
  replace rq := rq.below hb
  replace HB := onto HB hb
  clear hb
  go_wp2_with fail
  refine (of_any 1 w7 (by decide) (by decide)).mono ?_
  rintro e w8 ⟨ado, no, co, lo, rfl, ro, ko, vo, hb⟩
  replace ra := ra.below hb
  replace rb := rb.below hb
  replace rc := rc.below hb
  replace rp := rp.below hb
  replace rq := rq.below hb
  replace HB := onto HB hb
  clear hb
  have Hvo := Lib.hid vo; clear vo
  have so : val lo < pw 1 := by rw [Hvo.out]; exact (by decide)
  have bo : lo.length ≤ 1 := ko.len so
  go_wp2_with fail
  refine (add_any ra ro (by omega) (by omega)).mono ?_
  rintro e w9 ⟨adr, nr, cr, lr, rfl, rr, kr, vr, hb⟩
  replace ra := ra.below hb
  replace rb := rb.below hb
  replace rc := rc.below hb
  replace rp := rp.below hb
  replace rq := rq.below hb
  replace ro := ro.below hb
  replace HB := onto HB hb
  clear hb
  have Hvr := Lib.hid vr; clear vr
  have sr : val lr < pw 21 := by rw [Hvr.out]; exact lt_add sa (lt_up so (by decide))
  have br : lr.length ≤ 21 := kr.len sr
  go_wp2_with fail
  refine (cmp_at rr ra (by omega) (by omega) (t := 1) (tell_gt (by rw [Hvr.out, Hvo.out]; show val a < val a + 1; omega))).mono ?_
  rintro e w10 ⟨rfl, hb⟩
  replace ra := ra.below hb
  replace rb := rb.below hb
  replace rc := rc.below hb
  replace rp := rp.below hb
  replace rq := rq.below hb
  replace ro := ro.below hb
  replace rr := rr.below hb
  replace HB := onto HB hb
  clear hb
  go_wp2_with fail
  refine (add_any ra rc (by omega) (by omega)).mono ?_
  rintro e w11 ⟨ads, ns, cs, ls, rfl, rs, ks, vs, hb⟩
  replace ra := ra.below hb
  replace rb := rb.below hb
  replace rc := rc.below hb
  replace rp := rp.below hb
  replace rq := rq.below hb
  replace ro := ro.below hb
  replace rr := rr.below hb
  replace HB := onto HB hb
  clear hb
  have Hvs := Lib.hid vs; clear vs
  have ss : val ls < pw 61 := by rw [Hvs.out]; exact lt_add (lt_up sa (by decide)) sc
  have bs : ls.length ≤ 61 := ks.len ss
  go_wp2_with fail
  refine (add_any rb rc (by omega) (by omega)).mono ?_
  rintro e w12 ⟨adt, nt, ct, lt, rfl, rt, kt, vt, hb⟩
  replace ra := ra.below hb
  replace rb := rb.below hb
  replace rc := rc.below hb
  replace rp := rp.below hb
  replace rq := rq.below hb
  replace ro := ro.below hb
  replace rr := rr.below hb
  replace rs := rs.below hb
  replace HB := onto HB hb
  clear hb
  have Hvt := Lib.hid vt; clear vt
  have st : val lt < pw 61 := by rw [Hvt.out]; exact lt_add (lt_up sb (by decide)) sc
  have bt : lt.length ≤ 61 := kt.len st
  go_wp2_with fail
  refine (cmp_at rs rt (by omega) (by omega) (t := 1) (by rw [Hvs.out, Hvt.out, tell_add]; exact HX.out)).mono ?_
  rintro e w13 ⟨rfl, hb⟩
  replace ra := ra.below hb
  replace rb := rb.below hb
  replace rc := rc.below hb
  replace rp := rp.below hb
  replace rq := rq.below hb
  replace ro := ro.below hb
  replace rr := rr.below hb
  replace rs := rs.below hb
  replace rt := rt.below hb
  replace HB := onto HB hb
  clear hb
  go_wp2
  go_ret
  exact ⟨rfl, HB⟩

set_option maxRecDepth 100000 in
set_option maxHeartbeats 4000000 in
theorem order_eq_pos {w : World} {ada adb adc : Option Addr} {na ca nb cb nc cc : Nat} {a b c : List Nat} (ra : Rd w (.slice ada na ca) a) (rb : Rd w (.slice adb nb cb) b) (rc : Rd w (.slice adc nc cc) c) (ha : na ≤ 20) (hb20 : nb ≤ 20) (hc60 : nc ≤ 60) (hx : tell (val a) (val b) = 0) (y : Int) (hy : tell (val b) (val c) = y ∧ 0 < y) :
    Calls Try.prog 7 #[.slice ada na ca, .slice adb nb cb, .slice adc nc cc] w (Samed w true) := by
  have yd : decide ((0 : Int) < y) = true := decide_eq_true hy.2
  have HX := Lib.hid hx; clear hx
  have HY := Lib.hid hy; clear hy
  have HB := Below.refl w.heap.size w
  have sa := rd_small ra ha
  have sb := rd_small rb hb20
  have sc := rd_small rc hc60
  have la : a.length ≤ 20 := by rw [← ra.open.1]; exact ha
  have lb : b.length ≤ 20 := by rw [← rb.open.1]; exact hb20
  have lc : c.length ≤ 60 := by rw [← rc.open.1]; exact hc60
  have hd : decide ((60 : Int) < (nc : Int)) = false := decide_eq_false (by omega)
  go_enter Try.func7, Try.ntmps7
  go_wp2_with fail
  refine (head_any w).mono ?_
  rintro e w1 ⟨rfl, hb⟩
  replace ra := ra.below hb
  replace rb := rb.below hb
  replace rc := rc.below hb
  replace HB := onto HB hb
  clear hb
  go_wp2_with fail
  refine (great_no ada adb na ca nb cb w1 ha hb20).mono ?_
  rintro e w0 ⟨rfl, rfl⟩
  go_wp2_with fail
  refine (cmp_at ra rb (by omega) (by omega) (t := 0) HX.out).mono ?_
  rintro e w2 ⟨rfl, hb⟩
  replace ra := ra.below hb
  replace rb := rb.below hb
  replace rc := rc.below hb
  replace HB := onto HB hb
  clear hb
  go_wp2_with fail
  refine (cmp_at rb rc (by omega) (by omega) (t := y) HY.out.1).mono ?_
  rintro e w3 ⟨rfl, hb⟩
  replace ra := ra.below hb
  replace rb := rb.below hb
  replace rc := rc.below hb
  replace HB := onto HB hb
  clear hb
  go_wp2_with fail
  refine (cmp_at rb ra (by omega) (by omega) (t := 0) (by rw [tell_back, HX.out] <;> rfl)).mono ?_
  rintro e w4 ⟨rfl, hb⟩
  replace ra := ra.below hb
  replace rb := rb.below hb
  replace rc := rc.below hb
  replace HB := onto HB hb
  clear hb
  go_wp2_with fail
  refine (norm_any ra (by omega)).mono ?_
  rintro e w5 ⟨adp, np, cp, lp, rfl, rp, kp, vp, hb⟩
  replace ra := ra.below hb
  replace rb := rb.below hb
  replace rc := rc.below hb
  replace HB := onto HB hb
  clear hb
  have Hvp := Lib.hid vp; clear vp
  have sp : val lp < pw 20 := by rw [Hvp.out]; exact sa
  have bp : lp.length ≤ 20 := kp.len sp
  go_wp2_with fail
  refine (norm_any rb (by omega)).mono ?_
  rintro e w6 ⟨adq, nq, cq, lq, rfl, rq, kq, vq, hb⟩
  replace ra := ra.below hb
  replace rb := rb.below hb
  replace rc := rc.below hb
  replace rp := rp.below hb
  replace HB := onto HB hb
  clear hb
  have Hvq := Lib.hid vq; clear vq
  have sq : val lq < pw 20 := by rw [Hvq.out]; exact sb
  have bq : lq.length ≤ 20 := kq.len sq
  go_wp2_with fail
  refine (same_vals rp rq (by omega) kp kq (by rw [Hvp.out, Hvq.out]; exact tell_zero HX.out)).mono ?_
  rintro e w7 ⟨rfl, hb⟩
  replace ra := ra.below hb
  replace rb := rb.below hb
  replace rc := rc.below hb
  replace rp := rp.below hb
  replace rq := rq.below hb
  replace HB := onto HB hb
  clear hb
  go_wp2_with fail
  refine (of_any 1 w7 (by decide) (by decide)).mono ?_
  rintro e w8 ⟨ado, no, co, lo, rfl, ro, ko, vo, hb⟩
  replace ra := ra.below hb
  replace rb := rb.below hb
  replace rc := rc.below hb
  replace rp := rp.below hb
  replace rq := rq.below hb
  replace HB := onto HB hb
  clear hb
  have Hvo := Lib.hid vo; clear vo
  have so : val lo < pw 1 := by rw [Hvo.out]; exact (by decide)
  have bo : lo.length ≤ 1 := ko.len so
  go_wp2_with fail
  refine (add_any ra ro (by omega) (by omega)).mono ?_
  rintro e w9 ⟨adr, nr, cr, lr, rfl, rr, kr, vr, hb⟩
  replace ra := ra.below hb
  replace rb := rb.below hb
  replace rc := rc.below hb
  replace rp := rp.below hb
  replace rq := rq.below hb
  replace ro := ro.below hb
  replace HB := onto HB hb
  clear hb
  have Hvr := Lib.hid vr; clear vr
  have sr : val lr < pw 21 := by rw [Hvr.out]; exact lt_add sa (lt_up so (by decide))
  have br : lr.length ≤ 21 := kr.len sr
  go_wp2_with fail
  refine (cmp_at rr ra (by omega) (by omega) (t := 1) (tell_gt (by rw [Hvr.out, Hvo.out]; show val a < val a + 1; omega))).mono ?_
  rintro e w10 ⟨rfl, hb⟩
  replace ra := ra.below hb
  replace rb := rb.below hb
  replace rc := rc.below hb
  replace rp := rp.below hb
  replace rq := rq.below hb
  replace ro := ro.below hb
  replace rr := rr.below hb
  replace HB := onto HB hb
  clear hb
  go_wp2_with fail
  refine (add_any ra rc (by omega) (by omega)).mono ?_
  rintro e w11 ⟨ads, ns, cs, ls, rfl, rs, ks, vs, hb⟩
  replace ra := ra.below hb
  replace rb := rb.below hb
  replace rc := rc.below hb
  replace rp := rp.below hb
  replace rq := rq.below hb
  replace ro := ro.below hb
  replace rr := rr.below hb
  replace HB := onto HB hb
  clear hb
  have Hvs := Lib.hid vs; clear vs
  have ss : val ls < pw 61 := by rw [Hvs.out]; exact lt_add (lt_up sa (by decide)) sc
  have bs : ls.length ≤ 61 := ks.len ss
  go_wp2_with fail
  refine (add_any rb rc (by omega) (by omega)).mono ?_
  rintro e w12 ⟨adt, nt, ct, lt, rfl, rt, kt, vt, hb⟩
  replace ra := ra.below hb
  replace rb := rb.below hb
  replace rc := rc.below hb
  replace rp := rp.below hb
  replace rq := rq.below hb
  replace ro := ro.below hb
  replace rr := rr.below hb
  replace rs := rs.below hb
  replace HB := onto HB hb
  clear hb
  have Hvt := Lib.hid vt; clear vt
  have st : val lt < pw 61 := by rw [Hvt.out]; exact lt_add (lt_up sb (by decide)) sc
  have bt : lt.length ≤ 61 := kt.len st
  go_wp2_with fail
  refine (cmp_at rs rt (by omega) (by omega) (t := 0) (by rw [Hvs.out, Hvt.out, tell_add]; exact HX.out)).mono ?_
  rintro e w13 ⟨rfl, hb⟩
  replace ra := ra.below hb
  replace rb := rb.below hb
  replace rc := rc.below hb
  replace rp := rp.below hb
  replace rq := rq.below hb
  replace ro := ro.below hb
  replace rr := rr.below hb
  replace rs := rs.below hb
  replace rt := rt.below hb
  replace HB := onto HB hb
  clear hb
  go_wp2
  go_ret
  exact ⟨rfl, HB⟩

set_option maxRecDepth 100000 in
set_option maxHeartbeats 4000000 in
theorem order_eq_neg {w : World} {ada adb adc : Option Addr} {na ca nb cb nc cc : Nat} {a b c : List Nat} (ra : Rd w (.slice ada na ca) a) (rb : Rd w (.slice adb nb cb) b) (rc : Rd w (.slice adc nc cc) c) (ha : na ≤ 20) (hb20 : nb ≤ 20) (hc60 : nc ≤ 60) (hx : tell (val a) (val b) = 0) (y : Int) (hy : tell (val b) (val c) = y ∧ y ≤ 0) :
    Calls Try.prog 7 #[.slice ada na ca, .slice adb nb cb, .slice adc nc cc] w (Samed w true) := by
  have yd : decide ((0 : Int) < y) = false := decide_eq_false (by have := hy.2; omega)
  obtain ⟨z, hz⟩ : ∃ z, tell (val a) (val c) = z ∧ z ≤ 0 := ⟨_, rfl, tell_le' (Nat.le_trans (tell_le (by rw [hx]; decide)) (tell_le (by rw [hy.1]; exact hy.2)))⟩
  have zd : decide (z ≤ (0 : Int)) = true := decide_eq_true hz.2
  have HZ := Lib.hid hz; clear hz
  have HX := Lib.hid hx; clear hx
  have HY := Lib.hid hy; clear hy
  have HB := Below.refl w.heap.size w
  have sa := rd_small ra ha
  have sb := rd_small rb hb20
  have sc := rd_small rc hc60
  have la : a.length ≤ 20 := by rw [← ra.open.1]; exact ha
  have lb : b.length ≤ 20 := by rw [← rb.open.1]; exact hb20
  have lc : c.length ≤ 60 := by rw [← rc.open.1]; exact hc60
  have hd : decide ((60 : Int) < (nc : Int)) = false := decide_eq_false (by omega)
  go_enter Try.func7, Try.ntmps7
  go_wp2_with fail
  refine (head_any w).mono ?_
  rintro e w1 ⟨rfl, hb⟩
  replace ra := ra.below hb
  replace rb := rb.below hb
  replace rc := rc.below hb
  replace HB := onto HB hb
  clear hb
  go_wp2_with fail
  refine (great_no ada adb na ca nb cb w1 ha hb20).mono ?_
  rintro e w0 ⟨rfl, rfl⟩
  go_wp2_with fail
  refine (cmp_at ra rb (by omega) (by omega) (t := 0) HX.out).mono ?_
  rintro e w2 ⟨rfl, hb⟩
  replace ra := ra.below hb
  replace rb := rb.below hb
  replace rc := rc.below hb
  replace HB := onto HB hb
  clear hb
  go_wp2_with fail
  refine (cmp_at rb rc (by omega) (by omega) (t := y) HY.out.1).mono ?_
  rintro e w3 ⟨rfl, hb⟩
  replace ra := ra.below hb
  replace rb := rb.below hb
  replace rc := rc.below hb
  replace HB := onto HB hb
  clear hb
  go_wp2_with fail
  refine (cmp_at rb ra (by omega) (by omega) (t := 0) (by rw [tell_back, HX.out] <;> rfl)).mono ?_
  rintro e w4 ⟨rfl, hb⟩
  replace ra := ra.below hb
  replace rb := rb.below hb
  replace rc := rc.below hb
  replace HB := onto HB hb
  clear hb
  go_wp2_with fail
  refine (norm_any ra (by omega)).mono ?_
  rintro e w5 ⟨adp, np, cp, lp, rfl, rp, kp, vp, hb⟩
  replace ra := ra.below hb
  replace rb := rb.below hb
  replace rc := rc.below hb
  replace HB := onto HB hb
  clear hb
  have Hvp := Lib.hid vp; clear vp
  have sp : val lp < pw 20 := by rw [Hvp.out]; exact sa
  have bp : lp.length ≤ 20 := kp.len sp
  go_wp2_with fail
  refine (norm_any rb (by omega)).mono ?_
  rintro e w6 ⟨adq, nq, cq, lq, rfl, rq, kq, vq, hb⟩
  replace ra := ra.below hb
  replace rb := rb.below hb
  replace rc := rc.below hb
  replace rp := rp.below hb
  replace HB := onto HB hb
  clear hb
  have Hvq := Lib.hid vq; clear vq
  have sq : val lq < pw 20 := by rw [Hvq.out]; exact sb
  have bq : lq.length ≤ 20 := kq.len sq
  go_wp2_with fail
  refine (same_vals rp rq (by omega) kp kq (by rw [Hvp.out, Hvq.out]; exact tell_zero HX.out)).mono ?_
  rintro e w7 ⟨rfl, hb⟩
  replace ra := ra.below hb
  replace rb := rb.below hb
  replace rc := rc.below hb
  replace rp := rp.below hb
  replace rq := rq.below hb
  replace HB := onto HB hb
  clear hb
  go_wp2_with fail
  refine (cmp_at ra rc (by omega) (by omega) (t := z) HZ.out.1).mono ?_
  rintro e w8 ⟨rfl, hb⟩
  replace ra := ra.below hb
  replace rb := rb.below hb
  replace rc := rc.below hb
  replace rp := rp.below hb
  replace rq := rq.below hb
  replace HB := onto HB hb
  clear hb
  go_wp2_with fail
  refine (of_any 1 w8 (by decide) (by decide)).mono ?_
  rintro e w9 ⟨ado, no, co, lo, rfl, ro, ko, vo, hb⟩
  replace ra := ra.below hb
  replace rb := rb.below hb
  replace rc := rc.below hb
  replace rp := rp.below hb
  replace rq := rq.below hb
  replace HB := onto HB hb
  clear hb
  have Hvo := Lib.hid vo; clear vo
  have so : val lo < pw 1 := by rw [Hvo.out]; exact (by decide)
  have bo : lo.length ≤ 1 := ko.len so
  go_wp2_with fail
  refine (add_any ra ro (by omega) (by omega)).mono ?_
  rintro e w10 ⟨adr, nr, cr, lr, rfl, rr, kr, vr, hb⟩
  replace ra := ra.below hb
  replace rb := rb.below hb
  replace rc := rc.below hb
  replace rp := rp.below hb
  replace rq := rq.below hb
  replace ro := ro.below hb
  replace HB := onto HB hb
  clear hb
  have Hvr := Lib.hid vr; clear vr
  have sr : val lr < pw 21 := by rw [Hvr.out]; exact lt_add sa (lt_up so (by decide))
  have br : lr.length ≤ 21 := kr.len sr
  go_wp2_with fail
  refine (cmp_at rr ra (by omega) (by omega) (t := 1) (tell_gt (by rw [Hvr.out, Hvo.out]; show val a < val a + 1; omega))).mono ?_
  rintro e w11 ⟨rfl, hb⟩
  replace ra := ra.below hb
  replace rb := rb.below hb
  replace rc := rc.below hb
  replace rp := rp.below hb
  replace rq := rq.below hb
  replace ro := ro.below hb
  replace rr := rr.below hb
  replace HB := onto HB hb
  clear hb
  go_wp2_with fail
  refine (add_any ra rc (by omega) (by omega)).mono ?_
  rintro e w12 ⟨ads, ns, cs, ls, rfl, rs, ks, vs, hb⟩
  replace ra := ra.below hb
  replace rb := rb.below hb
  replace rc := rc.below hb
  replace rp := rp.below hb
  replace rq := rq.below hb
  replace ro := ro.below hb
  replace rr := rr.below hb
  replace HB := onto HB hb
  clear hb
  have Hvs := Lib.hid vs; clear vs
  have ss : val ls < pw 61 := by rw [Hvs.out]; exact lt_add (lt_up sa (by decide)) sc
  have bs : ls.length ≤ 61 := ks.len ss
  go_wp2_with fail
  refine (add_any rb rc (by omega) (by omega)).mono ?_
  rintro e w13 ⟨adt, nt, ct, lt, rfl, rt, kt, vt, hb⟩
  replace ra := ra.below hb
  replace rb := rb.below hb
  replace rc := rc.below hb
  replace rp := rp.below hb
  replace rq := rq.below hb
  replace ro := ro.below hb
  replace rr := rr.below hb
  replace rs := rs.below hb
  replace HB := onto HB hb
  clear hb
  have Hvt := Lib.hid vt; clear vt
  have st : val lt < pw 61 := by rw [Hvt.out]; exact lt_add (lt_up sb (by decide)) sc
  have bt : lt.length ≤ 61 := kt.len st
  go_wp2_with fail
  refine (cmp_at rs rt (by omega) (by omega) (t := 0) (by rw [Hvs.out, Hvt.out, tell_add]; exact HX.out)).mono ?_
  rintro e w14 ⟨rfl, hb⟩
  replace ra := ra.below hb
  replace rb := rb.below hb
  replace rc := rc.below hb
  replace rp := rp.below hb
  replace rq := rq.below hb
  replace ro := ro.below hb
  replace rr := rr.below hb
  replace rs := rs.below hb
  replace rt := rt.below hb
  replace HB := onto HB hb
  clear hb
  go_wp2
  go_ret
  exact ⟨rfl, HB⟩

set_option maxRecDepth 100000 in
set_option maxHeartbeats 4000000 in
theorem order_lt_pos {w : World} {ada adb adc : Option Addr} {na ca nb cb nc cc : Nat} {a b c : List Nat} (ra : Rd w (.slice ada na ca) a) (rb : Rd w (.slice adb nb cb) b) (rc : Rd w (.slice adc nc cc) c) (ha : na ≤ 20) (hb20 : nb ≤ 20) (hc60 : nc ≤ 60) (hx : tell (val a) (val b) = -1) (y : Int) (hy : tell (val b) (val c) = y ∧ 0 < y) :
    Calls Try.prog 7 #[.slice ada na ca, .slice adb nb cb, .slice adc nc cc] w (Samed w true) := by
  have yd : decide ((0 : Int) < y) = true := decide_eq_true hy.2
  have HX := Lib.hid hx; clear hx
  have HY := Lib.hid hy; clear hy
  have HB := Below.refl w.heap.size w
  have sa := rd_small ra ha
  have sb := rd_small rb hb20
  have sc := rd_small rc hc60
  have la : a.length ≤ 20 := by rw [← ra.open.1]; exact ha
  have lb : b.length ≤ 20 := by rw [← rb.open.1]; exact hb20
  have lc : c.length ≤ 60 := by rw [← rc.open.1]; exact hc60
  have hd : decide ((60 : Int) < (nc : Int)) = false := decide_eq_false (by omega)
  go_enter Try.func7, Try.ntmps7
  go_wp2_with fail
  refine (head_any w).mono ?_
  rintro e w1 ⟨rfl, hb⟩
  replace ra := ra.below hb
  replace rb := rb.below hb
  replace rc := rc.below hb
  replace HB := onto HB hb
  clear hb
  go_wp2_with fail
  refine (great_no ada adb na ca nb cb w1 ha hb20).mono ?_
  rintro e w0 ⟨rfl, rfl⟩
  go_wp2_with fail
  refine (cmp_at ra rb (by omega) (by omega) (t := (-1)) HX.out).mono ?_
  rintro e w2 ⟨rfl, hb⟩
  replace ra := ra.below hb
  replace rb := rb.below hb
  replace rc := rc.below hb
  replace HB := onto HB hb
  clear hb
  go_wp2_with fail
  refine (cmp_at rb rc (by omega) (by omega) (t := y) HY.out.1).mono ?_
  rintro e w3 ⟨rfl, hb⟩
  replace ra := ra.below hb
  replace rb := rb.below hb
  replace rc := rc.below hb
  replace HB := onto HB hb
  clear hb
  go_wp2_with fail
  refine (cmp_at rb ra (by omega) (by omega) (t := 1) (by rw [tell_back, HX.out] <;> rfl)).mono ?_
  rintro e w4 ⟨rfl, hb⟩
  replace ra := ra.below hb
  replace rb := rb.below hb
  replace rc := rc.below hb
  replace HB := onto HB hb
  clear hb
  go_wp2_with fail
  refine (norm_any ra (by omega)).mono ?_
  rintro e w5 ⟨adp, np, cp, lp, rfl, rp, kp, vp, hb⟩
  replace ra := ra.below hb
  replace rb := rb.below hb
  replace rc := rc.below hb
  replace HB := onto HB hb
  clear hb
  have Hvp := Lib.hid vp; clear vp
  have sp : val lp < pw 20 := by rw [Hvp.out]; exact sa
  have bp : lp.length ≤ 20 := kp.len sp
  go_wp2_with fail
  refine (norm_any rb (by omega)).mono ?_
  rintro e w6 ⟨adq, nq, cq, lq, rfl, rq, kq, vq, hb⟩
  replace ra := ra.below hb
  replace rb := rb.below hb
  replace rc := rc.below hb
  replace rp := rp.below hb
  replace HB := onto HB hb
  clear hb
  have Hvq := Lib.hid vq; clear vq
  have sq : val lq < pw 20 := by rw [Hvq.out]; exact sb
  have bq : lq.length ≤ 20 := kq.len sq
  go_wp2_with fail
  refine (same_not rp rq (by omega) (by omega) (fun h => by have e := HX.out; rw [← Hvp.out, ← Hvq.out, h, tell_eq rfl] at e; exact absurd e (by decide))).mono ?_
  rintro e w7 ⟨rfl, hb⟩
  replace ra := ra.below hb
  replace rb := rb.below hb
  replace rc := rc.below hb
  replace rp := rp.below hb
  replace rq := rq.below hb
  replace HB := onto HB hb
  clear hb
  go_wp2_with fail
  refine (of_any 1 w7 (by decide) (by decide)).mono ?_
  rintro e w8 ⟨ado, no, co, lo, rfl, ro, ko, vo, hb⟩
  replace ra := ra.below hb
  replace rb := rb.below hb
  replace rc := rc.below hb
  replace rp := rp.below hb
  replace rq := rq.below hb
  replace HB := onto HB hb
  clear hb
  have Hvo := Lib.hid vo; clear vo
  have so : val lo < pw 1 := by rw [Hvo.out]; exact (by decide)
  have bo : lo.length ≤ 1 := ko.len so
  go_wp2_with fail
  refine (add_any ra ro (by omega) (by omega)).mono ?_
  rintro e w9 ⟨adr, nr, cr, lr, rfl, rr, kr, vr, hb⟩
  replace ra := ra.below hb
  replace rb := rb.below hb
  replace rc := rc.below hb
  replace rp := rp.below hb
  replace rq := rq.below hb
  replace ro := ro.below hb
  replace HB := onto HB hb
  clear hb
  have Hvr := Lib.hid vr; clear vr
  have sr : val lr < pw 21 := by rw [Hvr.out]; exact lt_add sa (lt_up so (by decide))
  have br : lr.length ≤ 21 := kr.len sr
  go_wp2_with fail
  refine (cmp_at rr ra (by omega) (by omega) (t := 1) (tell_gt (by rw [Hvr.out, Hvo.out]; show val a < val a + 1; omega))).mono ?_
  rintro e w10 ⟨rfl, hb⟩
  replace ra := ra.below hb
  replace rb := rb.below hb
  replace rc := rc.below hb
  replace rp := rp.below hb
  replace rq := rq.below hb
  replace ro := ro.below hb
  replace rr := rr.below hb
  replace HB := onto HB hb
  clear hb
  go_wp2_with fail
  refine (add_any ra rc (by omega) (by omega)).mono ?_
  rintro e w11 ⟨ads, ns, cs, ls, rfl, rs, ks, vs, hb⟩
  replace ra := ra.below hb
  replace rb := rb.below hb
  replace rc := rc.below hb
  replace rp := rp.below hb
  replace rq := rq.below hb
  replace ro := ro.below hb
  replace rr := rr.below hb
  replace HB := onto HB hb
  clear hb
  have Hvs := Lib.hid vs; clear vs
  have ss : val ls < pw 61 := by rw [Hvs.out]; exact lt_add (lt_up sa (by decide)) sc
  have bs : ls.length ≤ 61 := ks.len ss
  go_wp2_with fail
  refine (add_any rb rc (by omega) (by omega)).mono ?_
  rintro e w12 ⟨adt, nt, ct, lt, rfl, rt, kt, vt, hb⟩
  replace ra := ra.below hb
  replace rb := rb.below hb
  replace rc := rc.below hb
  replace rp := rp.below hb
  replace rq := rq.below hb
  replace ro := ro.below hb
  replace rr := rr.below hb
  replace rs := rs.below hb
  replace HB := onto HB hb
  clear hb
  have Hvt := Lib.hid vt; clear vt
  have st : val lt < pw 61 := by rw [Hvt.out]; exact lt_add (lt_up sb (by decide)) sc
  have bt : lt.length ≤ 61 := kt.len st
  go_wp2_with fail
  refine (cmp_at rs rt (by omega) (by omega) (t := (-1)) (by rw [Hvs.out, Hvt.out, tell_add]; exact HX.out)).mono ?_
  rintro e w13 ⟨rfl, hb⟩
  replace ra := ra.below hb
  replace rb := rb.below hb
  replace rc := rc.below hb
  replace rp := rp.below hb
  replace rq := rq.below hb
  replace ro := ro.below hb
  replace rr := rr.below hb
  replace rs := rs.below hb
  replace rt := rt.below hb
  replace HB := onto HB hb
  clear hb
  go_wp2
  go_ret
  exact ⟨rfl, HB⟩

set_option maxRecDepth 100000 in
set_option maxHeartbeats 4000000 in
theorem order_lt_neg {w : World} {ada adb adc : Option Addr} {na ca nb cb nc cc : Nat} {a b c : List Nat} (ra : Rd w (.slice ada na ca) a) (rb : Rd w (.slice adb nb cb) b) (rc : Rd w (.slice adc nc cc) c) (ha : na ≤ 20) (hb20 : nb ≤ 20) (hc60 : nc ≤ 60) (hx : tell (val a) (val b) = -1) (y : Int) (hy : tell (val b) (val c) = y ∧ y ≤ 0) :
    Calls Try.prog 7 #[.slice ada na ca, .slice adb nb cb, .slice adc nc cc] w (Samed w true) := by
  have yd : decide ((0 : Int) < y) = false := decide_eq_false (by have := hy.2; omega)
  obtain ⟨z, hz⟩ : ∃ z, tell (val a) (val c) = z ∧ z ≤ 0 := ⟨_, rfl, tell_le' (Nat.le_trans (tell_le (by rw [hx]; decide)) (tell_le (by rw [hy.1]; exact hy.2)))⟩
  have zd : decide (z ≤ (0 : Int)) = true := decide_eq_true hz.2
  have HZ := Lib.hid hz; clear hz
  have HX := Lib.hid hx; clear hx
  have HY := Lib.hid hy; clear hy
  have HB := Below.refl w.heap.size w
  have sa := rd_small ra ha
  have sb := rd_small rb hb20
  have sc := rd_small rc hc60
  have la : a.length ≤ 20 := by rw [← ra.open.1]; exact ha
  have lb : b.length ≤ 20 := by rw [← rb.open.1]; exact hb20
  have lc : c.length ≤ 60 := by rw [← rc.open.1]; exact hc60
  have hd : decide ((60 : Int) < (nc : Int)) = false := decide_eq_false (by omega)
  go_enter Try.func7, Try.ntmps7
  go_wp2_with fail
  refine (head_any w).mono ?_
  rintro e w1 ⟨rfl, hb⟩
  replace ra := ra.below hb
  replace rb := rb.below hb
  replace rc := rc.below hb
  replace HB := onto HB hb
  clear hb
  go_wp2_with fail
  refine (great_no ada adb na ca nb cb w1 ha hb20).mono ?_
  rintro e w0 ⟨rfl, rfl⟩
  go_wp2_with fail
  refine (cmp_at ra rb (by omega) (by omega) (t := (-1)) HX.out).mono ?_
  rintro e w2 ⟨rfl, hb⟩
  replace ra := ra.below hb
  replace rb := rb.below hb
  replace rc := rc.below hb
  replace HB := onto HB hb
  clear hb
  go_wp2_with fail
  refine (cmp_at rb rc (by omega) (by omega) (t := y) HY.out.1).mono ?_
  rintro e w3 ⟨rfl, hb⟩
  replace ra := ra.below hb
  replace rb := rb.below hb
  replace rc := rc.below hb
  replace HB := onto HB hb
  clear hb
  go_wp2_with fail
  refine (cmp_at rb ra (by omega) (by omega) (t := 1) (by rw [tell_back, HX.out] <;> rfl)).mono ?_
  rintro e w4 ⟨rfl, hb⟩
  replace ra := ra.below hb
  replace rb := rb.below hb
  replace rc := rc.below hb
  replace HB := onto HB hb
  clear hb
  go_wp2_with fail
  refine (norm_any ra (by omega)).mono ?_
  rintro e w5 ⟨adp, np, cp, lp, rfl, rp, kp, vp, hb⟩
  replace ra := ra.below hb
  replace rb := rb.below hb
  replace rc := rc.below hb
  replace HB := onto HB hb
  clear hb
  have Hvp := Lib.hid vp; clear vp
  have sp : val lp < pw 20 := by rw [Hvp.out]; exact sa
  have bp : lp.length ≤ 20 := kp.len sp
  go_wp2_with fail
  refine (norm_any rb (by omega)).mono ?_
  rintro e w6 ⟨adq, nq, cq, lq, rfl, rq, kq, vq, hb⟩
  replace ra := ra.below hb
  replace rb := rb.below hb
  replace rc := rc.below hb
  replace rp := rp.below hb
  replace HB := onto HB hb
  clear hb
  have Hvq := Lib.hid vq; clear vq
  have sq : val lq < pw 20 := by rw [Hvq.out]; exact sb
  have bq : lq.length ≤ 20 := kq.len sq
  go_wp2_with fail
  refine (same_not rp rq (by omega) (by omega) (fun h => by have e := HX.out; rw [← Hvp.out, ← Hvq.out, h, tell_eq rfl] at e; exact absurd e (by decide))).mono ?_
  rintro e w7 ⟨rfl, hb⟩
  replace ra := ra.below hb
  replace rb := rb.below hb
  replace rc := rc.below hb
  replace rp := rp.below hb
  replace rq := rq.below hb
  replace HB := onto HB hb
  clear hb
  go_wp2_with fail
  refine (cmp_at ra rc (by omega) (by omega) (t := z) HZ.out.1).mono ?_
  rintro e w8 ⟨rfl, hb⟩
  replace ra := ra.below hb
  replace rb := rb.below hb
  replace rc := rc.below hb
  replace rp := rp.below hb
  replace rq := rq.below hb
  replace HB := onto HB hb
  clear hb
  go_wp2_with fail
  refine (of_any 1 w8 (by decide) (by decide)).mono ?_
  rintro e w9 ⟨ado, no, co, lo, rfl, ro, ko, vo, hb⟩
  replace ra := ra.below hb
  replace rb := rb.below hb
  replace rc := rc.below hb
  replace rp := rp.below hb
  replace rq := rq.below hb
  replace HB := onto HB hb
  clear hb
  have Hvo := Lib.hid vo; clear vo
  have so : val lo < pw 1 := by rw [Hvo.out]; exact (by decide)
  have bo : lo.length ≤ 1 := ko.len so
  go_wp2_with fail
  refine (add_any ra ro (by omega) (by omega)).mono ?_
  rintro e w10 ⟨adr, nr, cr, lr, rfl, rr, kr, vr, hb⟩
  replace ra := ra.below hb
  replace rb := rb.below hb
  replace rc := rc.below hb
  replace rp := rp.below hb
  replace rq := rq.below hb
  replace ro := ro.below hb
  replace HB := onto HB hb
  clear hb
  have Hvr := Lib.hid vr; clear vr
  have sr : val lr < pw 21 := by rw [Hvr.out]; exact lt_add sa (lt_up so (by decide))
  have br : lr.length ≤ 21 := kr.len sr
  go_wp2_with fail
  refine (cmp_at rr ra (by omega) (by omega) (t := 1) (tell_gt (by rw [Hvr.out, Hvo.out]; show val a < val a + 1; omega))).mono ?_
  rintro e w11 ⟨rfl, hb⟩
  replace ra := ra.below hb
  replace rb := rb.below hb
  replace rc := rc.below hb
  replace rp := rp.below hb
  replace rq := rq.below hb
  replace ro := ro.below hb
  replace rr := rr.below hb
  replace HB := onto HB hb
  clear hb
  go_wp2_with fail
  refine (add_any ra rc (by omega) (by omega)).mono ?_
  rintro e w12 ⟨ads, ns, cs, ls, rfl, rs, ks, vs, hb⟩
  replace ra := ra.below hb
  replace rb := rb.below hb
  replace rc := rc.below hb
  replace rp := rp.below hb
  replace rq := rq.below hb
  replace ro := ro.below hb
  replace rr := rr.below hb
  replace HB := onto HB hb
  clear hb
  have Hvs := Lib.hid vs; clear vs
  have ss : val ls < pw 61 := by rw [Hvs.out]; exact lt_add (lt_up sa (by decide)) sc
  have bs : ls.length ≤ 61 := ks.len ss
  go_wp2_with fail
  refine (add_any rb rc (by omega) (by omega)).mono ?_
  rintro e w13 ⟨adt, nt, ct, lt, rfl, rt, kt, vt, hb⟩
  replace ra := ra.below hb
  replace rb := rb.below hb
  replace rc := rc.below hb
  replace rp := rp.below hb
  replace rq := rq.below hb
  replace ro := ro.below hb
  replace rr := rr.below hb
  replace rs := rs.below hb
  replace HB := onto HB hb
  clear hb
  have Hvt := Lib.hid vt; clear vt
  have st : val lt < pw 61 := by rw [Hvt.out]; exact lt_add (lt_up sb (by decide)) sc
  have bt : lt.length ≤ 61 := kt.len st
  go_wp2_with fail
  refine (cmp_at rs rt (by omega) (by omega) (t := (-1)) (by rw [Hvs.out, Hvt.out, tell_add]; exact HX.out)).mono ?_
  rintro e w14 ⟨rfl, hb⟩
  replace ra := ra.below hb
  replace rb := rb.below hb
  replace rc := rc.below hb
  replace rp := rp.below hb
  replace rq := rq.below hb
  replace ro := ro.below hb
  replace rr := rr.below hb
  replace rs := rs.below hb
  replace rt := rt.below hb
  replace HB := onto HB hb
  clear hb
  go_wp2
  go_ret
  exact ⟨rfl, HB⟩

theorem order_law {w : World} {va vb vc : Value} {a b c : List Nat} (ra : Rd w va a) (rb : Rd w vb b) (rc : Rd w vc c) : Calls Try.prog 7 #[va, vb, vc] w (Samed w true) := by
  obtain ⟨ada, na, ca, rfl, -⟩ := id ra
  obtain ⟨adb, nb, cb, rfl, -⟩ := id rb
  obtain ⟨adc, nc, cc, rfl, -⟩ := id rc
  by_cases h : 20 < na ∨ 20 < nb
  · exact order_great ada adb adc na ca nb cb nc cc h
  · by_cases h2 : 60 < nc
    · exact order_long ada adb adc na ca nb cb nc cc (by omega) (by omega) h2
    · have h3 : na ≤ 20 := by omega
      have h4 : nb ≤ 20 := by omega
      have h5 : nc ≤ 60 := by omega
      rcases Nat.lt_trichotomy (val a) (val b) with x | x | x
      · by_cases y : 0 < tell (val b) (val c)
        · exact order_lt_pos ra rb rc h3 h4 h5 (tell_lt x) _ ⟨rfl, y⟩
        · exact order_lt_neg ra rb rc h3 h4 h5 (tell_lt x) _ ⟨rfl, by omega⟩
      · by_cases y : 0 < tell (val b) (val c)
        · exact order_eq_pos ra rb rc h3 h4 h5 (tell_eq x) _ ⟨rfl, y⟩
        · exact order_eq_neg ra rb rc h3 h4 h5 (tell_eq x) _ ⟨rfl, by omega⟩
      · exact order_gt ra rb rc h3 h4 h5 (tell_gt x)

end Go.Proofs.Ytpijjpjpedcbhaa
