/-
  NatRing: sums and products go in any order, and products over sums; 0 and 1 change nothing: the law's body answers true of any three lists.
-/
import Derived.Test.YtpijjpjpedcbhaaLow
namespace Go.Proofs.Ytpijjpjpedcbhaa
open Go.RowKit

set_option maxRecDepth 100000 in
set_option maxHeartbeats 2000000 in
theorem ring_great {w : World} (ada adb adc : Option Addr) (na ca nb cb nc cc : Nat) (h : 20 < na ∨ 20 < nb) :
    Calls Try.prog 4 #[.slice ada na ca, .slice adb nb cb, .slice adc nc cc] w (Samed w true) := by
  have hg := fun w => great_yes ada adb na ca nb cb w h
  have HG := Lib.hid hg; clear hg
  go_enter Try.func4, Try.ntmps4
  go_wp2_with fail
  refine (head_any w).mono ?_
  rintro e w1 ⟨rfl, hb⟩
  go_wp2_with fail
  refine (HG.out w1).mono ?_
  rintro e w0 ⟨rfl, rfl⟩
  go_wp2
  go_ret
  exact ⟨rfl, hb⟩

set_option maxRecDepth 100000 in
set_option maxHeartbeats 2000000 in
theorem ring_long {w : World} (ada adb adc : Option Addr) (na ca nb cb nc cc : Nat) (ha : na ≤ 20) (hb20 : nb ≤ 20) (h : 60 < nc) :
    Calls Try.prog 4 #[.slice ada na ca, .slice adb nb cb, .slice adc nc cc] w (Samed w true) := by
  have hg := fun w => great_no ada adb na ca nb cb w ha hb20
  have HG := Lib.hid hg; clear hg
  have hd : decide ((60 : Int) < (nc : Int)) = true := decide_eq_true (by omega)
  go_enter Try.func4, Try.ntmps4
  go_wp2_with fail
  refine (head_any w).mono ?_
  rintro e w1 ⟨rfl, hb⟩
  go_wp2_with fail
  refine (HG.out w1).mono ?_
  rintro e w0 ⟨rfl, rfl⟩
  go_wp2
  go_ret
  exact ⟨rfl, hb⟩

set_option maxRecDepth 100000 in
set_option maxHeartbeats 4000000 in
theorem ring_body {w : World} {ada adb adc : Option Addr} {na ca nb cb nc cc : Nat} {a b c : List Nat} (ra : Rd w (.slice ada na ca) a) (rb : Rd w (.slice adb nb cb) b) (rc : Rd w (.slice adc nc cc) c) (ha : na ≤ 20) (hb20 : nb ≤ 20) (hc60 : nc ≤ 60) :
    Calls Try.prog 4 #[.slice ada na ca, .slice adb nb cb, .slice adc nc cc] w (Samed w true) := by
  have HB := Below.refl w.heap.size w
  have sa := rd_small ra ha
  have sb := rd_small rb hb20
  have sc := rd_small rc hc60
  have la : a.length ≤ 20 := by rw [← ra.open.1]; exact ha
  have lb : b.length ≤ 20 := by rw [← rb.open.1]; exact hb20
  have lc : c.length ≤ 60 := by rw [← rc.open.1]; exact hc60
  have hd : decide ((60 : Int) < (nc : Int)) = false := decide_eq_false (by omega)
  go_enter Try.func4, Try.ntmps4
  go_wp2_with fail
  refine (head_any w).mono ?_
  rintro e w1 ⟨rfl, hb⟩
  replace ra := ra.below hb
  replace rb := rb.below hb
  replace rc := rc.below hb
  replace HB := onto HB hb
  clear hb
  go_wp2_with fail
  refine (great_no ada adb na ca nb cb w1 ha hb20).mono ?_
  rintro e w0 ⟨rfl, rfl⟩
  go_wp2_with fail
  refine (of_any 1 w1 (by decide) (by decide)).mono ?_
  rintro e w2 ⟨ado, no, co, lo, rfl, ro, ko, vo, hb⟩
  replace ra := ra.below hb
  replace rb := rb.below hb
  replace rc := rc.below hb
  replace HB := onto HB hb
  clear hb
  have Hvo := Lib.hid vo; clear vo
  have so : val lo < pw 1 := by rw [Hvo.out]; exact (by decide)
  have bo : lo.length ≤ 1 := ko.len so
  go_wp2_with fail
  refine (add_any ra rb (by omega) (by omega)).mono ?_
  rintro e w3 ⟨add, nd, cd, ld, rfl, rd, kd, vd, hb⟩
  replace ra := ra.below hb
  replace rb := rb.below hb
  replace rc := rc.below hb
  replace ro := ro.below hb
  replace HB := onto HB hb
  clear hb
  have Hvd := Lib.hid vd; clear vd
  have sd : val ld < pw 21 := by rw [Hvd.out]; exact lt_add sa sb
  have bd : ld.length ≤ 21 := kd.len sd
  go_wp2_with fail
  refine (add_any rb ra (by omega) (by omega)).mono ?_
  rintro e w4 ⟨ade, ne, ce, le, rfl, re, ke, ve, hb⟩
  replace ra := ra.below hb
  replace rb := rb.below hb
  replace rc := rc.below hb
  replace ro := ro.below hb
  replace rd := rd.below hb
  replace HB := onto HB hb
  clear hb
  have Hve := Lib.hid ve; clear ve
  have se : val le < pw 21 := by rw [Hve.out]; exact lt_add sb sa
  have be : le.length ≤ 21 := ke.len se
  go_wp2_with fail
  refine (same_vals rd re (by omega) kd ke (by simp only [Hvd.out, Hve.out]; exact Nat.add_comm _ _)).mono ?_
  rintro e w5 ⟨rfl, hb⟩
  replace ra := ra.below hb
  replace rb := rb.below hb
  replace rc := rc.below hb
  replace ro := ro.below hb
  replace rd := rd.below hb
  replace re := re.below hb
  replace HB := onto HB hb
  clear hb
  go_wp2_with fail
  refine (mul_any ra rb (by omega) (by omega)).mono ?_
  rintro e w6 ⟨adf, nf, cf, lf, rfl, rf, kf, vf, hb⟩
  replace ra := ra.below hb
  replace rb := rb.below hb
  replace rc := rc.below hb
  replace ro := ro.below hb
  replace rd := rd.below hb
  replace re := re.below hb
  replace HB := onto HB hb
  clear hb
  have Hvf := Lib.hid vf; clear vf
  have sf : val lf < pw 40 := by rw [Hvf.out]; exact lt_mul sa sb
  have bf : lf.length ≤ 40 := kf.len sf
  go_wp2_with fail
  refine (mul_any rb ra (by omega) (by omega)).mono ?_
  rintro e w7 ⟨adg, ng, cg, lg, rfl, rg, kg, vg, hb⟩
  replace ra := ra.below hb
  replace rb := rb.below hb
  replace rc := rc.below hb
  replace ro := ro.below hb
  replace rd := rd.below hb
  replace re := re.below hb
  replace rf := rf.below hb
  replace HB := onto HB hb
  clear hb
  have Hvg := Lib.hid vg; clear vg
  have sg : val lg < pw 40 := by rw [Hvg.out]; exact lt_mul sb sa
  have bg : lg.length ≤ 40 := kg.len sg
  go_wp2_with fail
  refine (same_vals rf rg (by omega) kf kg (by simp only [Hvf.out, Hvg.out]; exact Nat.mul_comm _ _)).mono ?_
  rintro e w8 ⟨rfl, hb⟩
  replace ra := ra.below hb
  replace rb := rb.below hb
  replace rc := rc.below hb
  replace ro := ro.below hb
  replace rd := rd.below hb
  replace re := re.below hb
  replace rf := rf.below hb
  replace rg := rg.below hb
  replace HB := onto HB hb
  clear hb
  go_wp2_with fail
  refine (add_any ra rb (by omega) (by omega)).mono ?_
  rintro e w9 ⟨adh, nh, ch, lh, rfl, rh, kh, vh, hb⟩
  replace ra := ra.below hb
  replace rb := rb.below hb
  replace rc := rc.below hb
  replace ro := ro.below hb
  replace rd := rd.below hb
  replace re := re.below hb
  replace rf := rf.below hb
  replace rg := rg.below hb
  replace HB := onto HB hb
  clear hb
  have Hvh := Lib.hid vh; clear vh
  have sh : val lh < pw 21 := by rw [Hvh.out]; exact lt_add sa sb
  have bh : lh.length ≤ 21 := kh.len sh
  go_wp2_with fail
  refine (add_any rh rc (by omega) (by omega)).mono ?_
  rintro e w10 ⟨adi, ni, ci, li, rfl, ri, ki, vi, hb⟩
  replace ra := ra.below hb
  replace rb := rb.below hb
  replace rc := rc.below hb
  replace ro := ro.below hb
  replace rd := rd.below hb
  replace re := re.below hb
  replace rf := rf.below hb
  replace rg := rg.below hb
  replace rh := rh.below hb
  replace HB := onto HB hb
  clear hb
  have Hvi := Lib.hid vi; clear vi
  have si : val li < pw 61 := by rw [Hvi.out]; exact lt_add (lt_up sh (by decide)) sc
  have bi : li.length ≤ 61 := ki.len si
  go_wp2_with fail
  refine (add_any rb rc (by omega) (by omega)).mono ?_
  rintro e w11 ⟨adj, nj, cj, lj, rfl, rj, kj, vj, hb⟩
  replace ra := ra.below hb
  replace rb := rb.below hb
  replace rc := rc.below hb
  replace ro := ro.below hb
  replace rd := rd.below hb
  replace re := re.below hb
  replace rf := rf.below hb
  replace rg := rg.below hb
  replace rh := rh.below hb
  replace ri := ri.below hb
  replace HB := onto HB hb
  clear hb
  have Hvj := Lib.hid vj; clear vj
  have sj : val lj < pw 61 := by rw [Hvj.out]; exact lt_add (lt_up sb (by decide)) sc
  have bj : lj.length ≤ 61 := kj.len sj
  go_wp2_with fail
  refine (add_any ra rj (by omega) (by omega)).mono ?_
  rintro e w12 ⟨adk, nk, ck, lk, rfl, rk, kk, vk, hb⟩
  replace ra := ra.below hb
  replace rb := rb.below hb
  replace rc := rc.below hb
  replace ro := ro.below hb
  replace rd := rd.below hb
  replace re := re.below hb
  replace rf := rf.below hb
  replace rg := rg.below hb
  replace rh := rh.below hb
  replace ri := ri.below hb
  replace rj := rj.below hb
  replace HB := onto HB hb
  clear hb
  have Hvk := Lib.hid vk; clear vk
  have sk : val lk < pw 62 := by rw [Hvk.out]; exact lt_add (lt_up sa (by decide)) sj
  have bk : lk.length ≤ 62 := kk.len sk
  go_wp2_with fail
  refine (same_vals ri rk (by omega) ki kk (by simp only [Hvi.out, Hvh.out, Hvk.out, Hvj.out]; exact Nat.add_assoc _ _ _)).mono ?_
  rintro e w13 ⟨rfl, hb⟩
  replace ra := ra.below hb
  replace rb := rb.below hb
  replace rc := rc.below hb
  replace ro := ro.below hb
  replace rd := rd.below hb
  replace re := re.below hb
  replace rf := rf.below hb
  replace rg := rg.below hb
  replace rh := rh.below hb
  replace ri := ri.below hb
  replace rj := rj.below hb
  replace rk := rk.below hb
  replace HB := onto HB hb
  clear hb
  go_wp2_with fail
  refine (mul_any ra rb (by omega) (by omega)).mono ?_
  rintro e w14 ⟨adl, nl, cl, ll, rfl, rl, kl, vl, hb⟩
  replace ra := ra.below hb
  replace rb := rb.below hb
  replace rc := rc.below hb
  replace ro := ro.below hb
  replace rd := rd.below hb
  replace re := re.below hb
  replace rf := rf.below hb
  replace rg := rg.below hb
  replace rh := rh.below hb
  replace ri := ri.below hb
  replace rj := rj.below hb
  replace rk := rk.below hb
  replace HB := onto HB hb
  clear hb
  have Hvl := Lib.hid vl; clear vl
  have sl : val ll < pw 40 := by rw [Hvl.out]; exact lt_mul sa sb
  have bl : ll.length ≤ 40 := kl.len sl
  go_wp2_with fail
  refine (mul_any rl rc (by omega) (by omega)).mono ?_
  rintro e w15 ⟨adm, nm, cm, lm, rfl, rm, km, vm, hb⟩
  replace ra := ra.below hb
  replace rb := rb.below hb
  replace rc := rc.below hb
  replace ro := ro.below hb
  replace rd := rd.below hb
  replace re := re.below hb
  replace rf := rf.below hb
  replace rg := rg.below hb
  replace rh := rh.below hb
  replace ri := ri.below hb
  replace rj := rj.below hb
  replace rk := rk.below hb
  replace rl := rl.below hb
  replace HB := onto HB hb
  clear hb
  have Hvm := Lib.hid vm; clear vm
  have sm : val lm < pw 100 := by rw [Hvm.out]; exact lt_mul sl sc
  have bm : lm.length ≤ 100 := km.len sm
  go_wp2_with fail
  refine (mul_any rb rc (by omega) (by omega)).mono ?_
  rintro e w16 ⟨adn, nn, cn, ln, rfl, rn, kn, vn, hb⟩
  replace ra := ra.below hb
  replace rb := rb.below hb
  replace rc := rc.below hb
  replace ro := ro.below hb
  replace rd := rd.below hb
  replace re := re.below hb
  replace rf := rf.below hb
  replace rg := rg.below hb
  replace rh := rh.below hb
  replace ri := ri.below hb
  replace rj := rj.below hb
  replace rk := rk.below hb
  replace rl := rl.below hb
  replace rm := rm.below hb
  replace HB := onto HB hb
  clear hb
  have Hvn := Lib.hid vn; clear vn
  have sn : val ln < pw 80 := by rw [Hvn.out]; exact lt_mul sb sc
  have bn : ln.length ≤ 80 := kn.len sn
  go_wp2_with fail
  refine (mul_any ra rn (by omega) (by omega)).mono ?_
  rintro e w17 ⟨adp, np, cp, lp, rfl, rp, kp, vp, hb⟩
  replace ra := ra.below hb
  replace rb := rb.below hb
  replace rc := rc.below hb
  replace ro := ro.below hb
  replace rd := rd.below hb
  replace re := re.below hb
  replace rf := rf.below hb
  replace rg := rg.below hb
  replace rh := rh.below hb
  replace ri := ri.below hb
  replace rj := rj.below hb
  replace rk := rk.below hb
  replace rl := rl.below hb
  replace rm := rm.below hb
  replace rn := rn.below hb
  replace HB := onto HB hb
  clear hb
  have Hvp := Lib.hid vp; clear vp
  have sp : val lp < pw 100 := by rw [Hvp.out]; exact lt_mul sa sn
  have bp : lp.length ≤ 100 := kp.len sp
  go_wp2_with fail
  refine (same_vals rm rp (by omega) km kp (by simp only [Hvm.out, Hvl.out, Hvp.out, Hvn.out]; exact Nat.mul_assoc _ _ _)).mono ?_
  rintro e w18 ⟨rfl, hb⟩
  replace ra := ra.below hb
  replace rb := rb.below hb
  replace rc := rc.below hb
  replace ro := ro.below hb
  replace rd := rd.below hb
  replace re := re.below hb
  replace rf := rf.below hb
  replace rg := rg.below hb
  replace rh := rh.below hb
  replace ri := ri.below hb
  replace rj := rj.below hb
  replace rk := rk.below hb
  replace rl := rl.below hb
  replace rm := rm.below hb
  replace rn := rn.below hb
  replace rp := rp.below hb
  replace HB := onto HB hb
  clear hb
  go_wp2_with fail
  refine (add_any rb rc (by omega) (by omega)).mono ?_
  rintro e w19 ⟨adq, nq, cq, lq, rfl, rq, kq, vq, hb⟩
  replace ra := ra.below hb
  replace rb := rb.below hb
  replace rc := rc.below hb
  replace ro := ro.below hb
  replace rd := rd.below hb
  replace re := re.below hb
  replace rf := rf.below hb
  replace rg := rg.below hb
  replace rh := rh.below hb
  replace ri := ri.below hb
  replace rj := rj.below hb
  replace rk := rk.below hb
  replace rl := rl.below hb
  replace rm := rm.below hb
  replace rn := rn.below hb
  replace rp := rp.below hb
  replace HB := onto HB hb
  clear hb
  have Hvq := Lib.hid vq; clear vq
  have sq : val lq < pw 61 := by rw [Hvq.out]; exact lt_add (lt_up sb (by decide)) sc
  have bq : lq.length ≤ 61 := kq.len sq
  go_wp2_with fail
  refine (mul_any ra rq (by omega) (by omega)).mono ?_
  rintro e w20 ⟨adr, nr, cr, lr, rfl, rr, kr, vr, hb⟩
  replace ra := ra.below hb
  replace rb := rb.below hb
  replace rc := rc.below hb
  replace ro := ro.below hb
  replace rd := rd.below hb
  replace re := re.below hb
  replace rf := rf.below hb
  replace rg := rg.below hb
  replace rh := rh.below hb
  replace ri := ri.below hb
  replace rj := rj.below hb
  replace rk := rk.below hb
  replace rl := rl.below hb
  replace rm := rm.below hb
  replace rn := rn.below hb
  replace rp := rp.below hb
  replace rq := rq.below hb
  replace HB := onto HB hb
  clear hb
  have Hvr := Lib.hid vr; clear vr
  have sr : val lr < pw 81 := by rw [Hvr.out]; exact lt_mul sa sq
  have br : lr.length ≤ 81 := kr.len sr
  go_wp2_with fail
  refine (mul_any ra rb (by omega) (by omega)).mono ?_
  rintro e w21 ⟨ads, ns, cs, ls, rfl, rs, ks, vs, hb⟩
  replace ra := ra.below hb
  replace rb := rb.below hb
  replace rc := rc.below hb
  replace ro := ro.below hb
  replace rd := rd.below hb
  replace re := re.below hb
  replace rf := rf.below hb
  replace rg := rg.below hb
  replace rh := rh.below hb
  replace ri := ri.below hb
  replace rj := rj.below hb
  replace rk := rk.below hb
  replace rl := rl.below hb
  replace rm := rm.below hb
  replace rn := rn.below hb
  replace rp := rp.below hb
  replace rq := rq.below hb
  replace rr := rr.below hb
  replace HB := onto HB hb
  clear hb
  have Hvs := Lib.hid vs; clear vs
  have ss : val ls < pw 40 := by rw [Hvs.out]; exact lt_mul sa sb
  have bs : ls.length ≤ 40 := ks.len ss
  go_wp2_with fail
  refine (mul_any ra rc (by omega) (by omega)).mono ?_
  rintro e w22 ⟨adt, nt, ct, lt, rfl, rt, kt, vt, hb⟩
  replace ra := ra.below hb
  replace rb := rb.below hb
  replace rc := rc.below hb
  replace ro := ro.below hb
  replace rd := rd.below hb
  replace re := re.below hb
  replace rf := rf.below hb
  replace rg := rg.below hb
  replace rh := rh.below hb
  replace ri := ri.below hb
  replace rj := rj.below hb
  replace rk := rk.below hb
  replace rl := rl.below hb
  replace rm := rm.below hb
  replace rn := rn.below hb
  replace rp := rp.below hb
  replace rq := rq.below hb
  replace rr := rr.below hb
  replace rs := rs.below hb
  replace HB := onto HB hb
  clear hb
  have Hvt := Lib.hid vt; clear vt
  have st : val lt < pw 80 := by rw [Hvt.out]; exact lt_mul sa sc
  have bt : lt.length ≤ 80 := kt.len st
  go_wp2_with fail
  refine (add_any rs rt (by omega) (by omega)).mono ?_
  rintro e w23 ⟨adu, nu, cu, lu, rfl, ru, ku, vu, hb⟩
  replace ra := ra.below hb
  replace rb := rb.below hb
  replace rc := rc.below hb
  replace ro := ro.below hb
  replace rd := rd.below hb
  replace re := re.below hb
  replace rf := rf.below hb
  replace rg := rg.below hb
  replace rh := rh.below hb
  replace ri := ri.below hb
  replace rj := rj.below hb
  replace rk := rk.below hb
  replace rl := rl.below hb
  replace rm := rm.below hb
  replace rn := rn.below hb
  replace rp := rp.below hb
  replace rq := rq.below hb
  replace rr := rr.below hb
  replace rs := rs.below hb
  replace rt := rt.below hb
  replace HB := onto HB hb
  clear hb
  have Hvu := Lib.hid vu; clear vu
  have su : val lu < pw 81 := by rw [Hvu.out]; exact lt_add (lt_up ss (by decide)) st
  have bu : lu.length ≤ 81 := ku.len su
  go_wp2_with fail
  refine (same_vals rr ru (by omega) kr ku (by simp only [Hvr.out, Hvq.out, Hvu.out, Hvs.out, Hvt.out]; exact Nat.mul_add _ _ _)).mono ?_
  rintro e w24 ⟨rfl, hb⟩
  replace ra := ra.below hb
  replace rb := rb.below hb
  replace rc := rc.below hb
  replace ro := ro.below hb
  replace rd := rd.below hb
  replace re := re.below hb
  replace rf := rf.below hb
  replace rg := rg.below hb
  replace rh := rh.below hb
  replace ri := ri.below hb
  replace rj := rj.below hb
  replace rk := rk.below hb
  replace rl := rl.below hb
  replace rm := rm.below hb
  replace rn := rn.below hb
  replace rp := rp.below hb
  replace rq := rq.below hb
  replace rr := rr.below hb
  replace rs := rs.below hb
  replace rt := rt.below hb
  replace ru := ru.below hb
  replace HB := onto HB hb
  clear hb
  go_wp2_with fail
  refine (add_any ra (Rd.nil _) (by omega) (by simp)).mono ?_
  rintro e w25 ⟨adv, nv, cv, lv, rfl, rv, kv, vv, hb⟩
  replace ra := ra.below hb
  replace rb := rb.below hb
  replace rc := rc.below hb
  replace ro := ro.below hb
  replace rd := rd.below hb
  replace re := re.below hb
  replace rf := rf.below hb
  replace rg := rg.below hb
  replace rh := rh.below hb
  replace ri := ri.below hb
  replace rj := rj.below hb
  replace rk := rk.below hb
  replace rl := rl.below hb
  replace rm := rm.below hb
  replace rn := rn.below hb
  replace rp := rp.below hb
  replace rq := rq.below hb
  replace rr := rr.below hb
  replace rs := rs.below hb
  replace rt := rt.below hb
  replace ru := ru.below hb
  replace HB := onto HB hb
  clear hb
  have Hvv := Lib.hid vv; clear vv
  have sv : val lv < pw 21 := by rw [Hvv.out]; exact lt_add sa (pw_pos _)
  have bv : lv.length ≤ 21 := kv.len sv
  go_wp2_with fail
  refine (norm_any ra (by omega)).mono ?_
  rintro e w26 ⟨adw, nw, cw, lw, rfl, rw, kw, vw, hb⟩
  replace ra := ra.below hb
  replace rb := rb.below hb
  replace rc := rc.below hb
  replace ro := ro.below hb
  replace rd := rd.below hb
  replace re := re.below hb
  replace rf := rf.below hb
  replace rg := rg.below hb
  replace rh := rh.below hb
  replace ri := ri.below hb
  replace rj := rj.below hb
  replace rk := rk.below hb
  replace rl := rl.below hb
  replace rm := rm.below hb
  replace rn := rn.below hb
  replace rp := rp.below hb
  replace rq := rq.below hb
  replace rr := rr.below hb
  replace rs := rs.below hb
  replace rt := rt.below hb
  replace ru := ru.below hb
  replace rv := rv.below hb
  replace HB := onto HB hb
  clear hb
  have Hvw := Lib.hid vw; clear vw
  have sw : val lw < pw 20 := by rw [Hvw.out]; exact sa
  have bw : lw.length ≤ 20 := kw.len sw
  go_wp2_with fail
  refine (same_vals rv rw (by omega) kv kw (by simp only [Hvv.out, Hvw.out]; exact Nat.add_zero _)).mono ?_
  rintro e w27 ⟨rfl, hb⟩
  replace ra := ra.below hb
  replace rb := rb.below hb
  replace rc := rc.below hb
  replace ro := ro.below hb
  replace rd := rd.below hb
  replace re := re.below hb
  replace rf := rf.below hb
  replace rg := rg.below hb
  replace rh := rh.below hb
  replace ri := ri.below hb
  replace rj := rj.below hb
  replace rk := rk.below hb
  replace rl := rl.below hb
  replace rm := rm.below hb
  replace rn := rn.below hb
  replace rp := rp.below hb
  replace rq := rq.below hb
  replace rr := rr.below hb
  replace rs := rs.below hb
  replace rt := rt.below hb
  replace ru := ru.below hb
  replace rv := rv.below hb
  replace rw := rw.below hb
  replace HB := onto HB hb
  clear hb
  go_wp2_with fail
  refine (mul_any ra ro (by omega) (by omega)).mono ?_
  rintro e w28 ⟨adx, nx, cx, lx, rfl, rx, kx, vx, hb⟩
  replace ra := ra.below hb
  replace rb := rb.below hb
  replace rc := rc.below hb
  replace ro := ro.below hb
  replace rd := rd.below hb
  replace re := re.below hb
  replace rf := rf.below hb
  replace rg := rg.below hb
  replace rh := rh.below hb
  replace ri := ri.below hb
  replace rj := rj.below hb
  replace rk := rk.below hb
  replace rl := rl.below hb
  replace rm := rm.below hb
  replace rn := rn.below hb
  replace rp := rp.below hb
  replace rq := rq.below hb
  replace rr := rr.below hb
  replace rs := rs.below hb
  replace rt := rt.below hb
  replace ru := ru.below hb
  replace rv := rv.below hb
  replace rw := rw.below hb
  replace HB := onto HB hb
  clear hb
  have Hvx := Lib.hid vx; clear vx
  have sx : val lx < pw 21 := by rw [Hvx.out]; exact lt_mul sa so
  have bx : lx.length ≤ 21 := kx.len sx
  go_wp2_with fail
  refine (norm_any ra (by omega)).mono ?_
  rintro e w29 ⟨adzz, nzz, czz, lzz, rfl, rzz, kzz, vzz, hb⟩
  replace ra := ra.below hb
  replace rb := rb.below hb
  replace rc := rc.below hb
  replace ro := ro.below hb
  replace rd := rd.below hb
  replace re := re.below hb
  replace rf := rf.below hb
  replace rg := rg.below hb
  replace rh := rh.below hb
  replace ri := ri.below hb
  replace rj := rj.below hb
  replace rk := rk.below hb
  replace rl := rl.below hb
  replace rm := rm.below hb
  replace rn := rn.below hb
  replace rp := rp.below hb
  replace rq := rq.below hb
  replace rr := rr.below hb
  replace rs := rs.below hb
  replace rt := rt.below hb
  replace ru := ru.below hb
  replace rv := rv.below hb
  replace rw := rw.below hb
  replace rx := rx.below hb
  replace HB := onto HB hb
  clear hb
  have Hvzz := Lib.hid vzz; clear vzz
  have szz : val lzz < pw 20 := by rw [Hvzz.out]; exact sa
  have bzz : lzz.length ≤ 20 := kzz.len szz
  go_wp2_with fail
  refine (same_vals rx rzz (by omega) kx kzz (by simp only [Hvx.out, Hvo.out, Hvzz.out]; exact Nat.mul_one _)).mono ?_
  rintro e w30 ⟨rfl, hb⟩
  replace ra := ra.below hb
  replace rb := rb.below hb
  replace rc := rc.below hb
  replace ro := ro.below hb
  replace rd := rd.below hb
  replace re := re.below hb
  replace rf := rf.below hb
  replace rg := rg.below hb
  replace rh := rh.below hb
  replace ri := ri.below hb
  replace rj := rj.below hb
  replace rk := rk.below hb
  replace rl := rl.below hb
  replace rm := rm.below hb
  replace rn := rn.below hb
  replace rp := rp.below hb
  replace rq := rq.below hb
  replace rr := rr.below hb
  replace rs := rs.below hb
  replace rt := rt.below hb
  replace ru := ru.below hb
  replace rv := rv.below hb
  replace rw := rw.below hb
  replace rx := rx.below hb
  replace rzz := rzz.below hb
  replace HB := onto HB hb
  clear hb
  go_wp2_with fail
  refine (mul_any ra (Rd.nil _) (by omega) (by simp)).mono ?_
  rintro e w31 ⟨adz, nz, cz, lz, rfl, rz, kz, vz, hb⟩
  replace ra := ra.below hb
  replace rb := rb.below hb
  replace rc := rc.below hb
  replace ro := ro.below hb
  replace rd := rd.below hb
  replace re := re.below hb
  replace rf := rf.below hb
  replace rg := rg.below hb
  replace rh := rh.below hb
  replace ri := ri.below hb
  replace rj := rj.below hb
  replace rk := rk.below hb
  replace rl := rl.below hb
  replace rm := rm.below hb
  replace rn := rn.below hb
  replace rp := rp.below hb
  replace rq := rq.below hb
  replace rr := rr.below hb
  replace rs := rs.below hb
  replace rt := rt.below hb
  replace ru := ru.below hb
  replace rv := rv.below hb
  replace rw := rw.below hb
  replace rx := rx.below hb
  replace rzz := rzz.below hb
  replace HB := onto HB hb
  clear hb
  have Hvz := Lib.hid vz; clear vz
  obtain rfl : lz = [] := kz.zero (Hvz.out.trans (Nat.mul_zero _))
  obtain rfl : nz = 0 := rz.open.1
  go_wp2
  go_ret
  exact ⟨rfl, HB⟩

theorem ring_law {w : World} {va vb vc : Value} {a b c : List Nat} (ra : Rd w va a) (rb : Rd w vb b) (rc : Rd w vc c) : Calls Try.prog 4 #[va, vb, vc] w (Samed w true) := by
  obtain ⟨ada, na, ca, rfl, -⟩ := id ra
  obtain ⟨adb, nb, cb, rfl, -⟩ := id rb
  obtain ⟨adc, nc, cc, rfl, -⟩ := id rc
  by_cases h : 20 < na ∨ 20 < nb
  · exact ring_great ada adb adc na ca nb cb nc cc h
  · by_cases h2 : 60 < nc
    · exact ring_long ada adb adc na ca nb cb nc cc (by omega) (by omega) h2
    · exact ring_body ra rb rc (by omega) (by omega) (by omega)

end Go.Proofs.Ytpijjpjpedcbhaa
