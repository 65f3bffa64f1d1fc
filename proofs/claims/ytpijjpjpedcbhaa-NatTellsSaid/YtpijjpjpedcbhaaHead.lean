/-
  The statements' live question: with the program's answers to a few fixed calls it answers true. No condition.
-/
import Derived.Test.YtpijjpjpedcbhaaForms
namespace Go.Proofs.Ytpijjpjpedcbhaa
open Go.RowKit

set_option maxRecDepth 100000 in
set_option maxHeartbeats 4000000 in
theorem head_any (w : World) : Calls Try.prog 10 #[] w (Samed w true) := by
  have HB := Below.refl w.heap.size w
  go_enter Try.func10, Try.ntmps10
  go_wp2_with fail
  refine (of_any 4294967296 w (by decide) (by decide)).mono ?_
  rintro e w1 ⟨ada, na, ca, la, rfl, ra, ka, va, hb⟩
  replace HB := onto HB hb
  clear hb
  have Hva := Lib.hid va; clear va
  have la : la.length ≤ 2 := ka.len (by rw [Hva.out]; decide)
  go_wp2_with fail
  refine (of_any 10 w1 (by decide) (by decide)).mono ?_
  rintro e w2 ⟨adb, nb, cb, lb, rfl, rb, kb, vb, hb⟩
  replace ra := ra.below hb
  replace HB := onto HB hb
  clear hb
  have Hvb := Lib.hid vb; clear vb
  have lb : lb.length ≤ 1 := kb.len (by rw [Hvb.out]; decide)
  go_wp2_with fail
  refine (sub_yes ra rb (by omega) (by omega) (by rw [Hva.out, Hvb.out]; decide)).mono ?_
  rintro e w3 ⟨ads, ns, cs, ls, rfl, rs, ks, vs, hb⟩
  replace ra := ra.below hb
  replace rb := rb.below hb
  replace HB := onto HB hb
  clear hb
  have Hvs := Lib.hid vs; clear vs
  have ls : ls.length ≤ 2 := ks.len (by rw [Hvs.out, Hva.out, Hvb.out]; decide)
  go_wp2_with fail
  refine (sub_no rb ra (by omega) (by omega) (by rw [Hva.out, Hvb.out]; decide)).mono ?_
  rintro e w4 ⟨rfl, hb⟩
  replace ra := ra.below hb
  replace rb := rb.below hb
  replace rs := rs.below hb
  replace HB := onto HB hb
  clear hb
  go_wp2_with fail
  refine (div_yes ra rb (by omega) (by omega) (by rw [Hvb.out]; decide)).mono ?_
  rintro e w5 ⟨adq, nq, cq, lq, adr, nr, cr, lr, rfl, rq, kq, vq, rr, kr, vr, hb⟩
  replace ra := ra.below hb
  replace rb := rb.below hb
  replace rs := rs.below hb
  replace HB := onto HB hb
  clear hb
  have Hvq := Lib.hid vq; clear vq
  have Hvr := Lib.hid vr; clear vr
  have lq : lq.length ≤ 2 := kq.len (by rw [Hvq.out, Hva.out, Hvb.out]; decide)
  have lr : lr.length ≤ 2 := kr.len (by rw [Hvr.out, Hva.out, Hvb.out]; decide)
  go_wp2_with fail
  refine (div_no ra (Rd.nil _) (by omega) (by simp) rfl).mono ?_
  rintro e w6 ⟨rfl, hb⟩
  replace ra := ra.below hb
  replace rb := rb.below hb
  replace rs := rs.below hb
  replace rq := rq.below hb
  replace rr := rr.below hb
  replace HB := onto HB hb
  clear hb
  go_wp2_with fail
  refine (same_vals (ra.below (alb _ _)) (lit2 _ 0 1 (by decide) (by decide)) (by omega) ka (can2 0 1 (by decide) (by decide) (by decide)) (by rw [Hva.out]; decide)).mono ?_
  rintro e w7 ⟨rfl, hb⟩
  replace hb := past hb
  replace ra := ra.below hb
  replace rb := rb.below hb
  replace rs := rs.below hb
  replace rq := rq.below hb
  replace rr := rr.below hb
  replace HB := onto HB hb
  clear hb
  go_wp2_with fail
  refine (same_vals (rs.below (alb _ _)) (lit1 _ 4294967286 (by decide)) (by omega) ks (can1 _ (by decide) (by decide)) (by rw [Hvs.out, Hva.out, Hvb.out]; decide)).mono ?_
  rintro e w8 ⟨rfl, hb⟩
  replace hb := past hb
  replace ra := ra.below hb
  replace rb := rb.below hb
  replace rs := rs.below hb
  replace rq := rq.below hb
  replace rr := rr.below hb
  replace HB := onto HB hb
  clear hb
  go_wp2_with fail
  refine (same_vals (rq.below (alb _ _)) (lit1 _ 429496729 (by decide)) (by omega) kq (can1 _ (by decide) (by decide)) (by rw [Hvq.out, Hva.out, Hvb.out]; decide)).mono ?_
  rintro e w9 ⟨rfl, hb⟩
  replace hb := past hb
  replace ra := ra.below hb
  replace rb := rb.below hb
  replace rs := rs.below hb
  replace rq := rq.below hb
  replace rr := rr.below hb
  replace HB := onto HB hb
  clear hb
  go_wp2_with fail
  refine (same_vals (rr.below (alb _ _)) (lit1 _ 6 (by decide)) (by omega) kr (can1 _ (by decide) (by decide)) (by rw [Hvr.out, Hva.out, Hvb.out]; decide)).mono ?_
  rintro e w10 ⟨rfl, hb⟩
  replace hb := past hb
  replace ra := ra.below hb
  replace rb := rb.below hb
  replace rs := rs.below hb
  replace rq := rq.below hb
  replace rr := rr.below hb
  replace HB := onto HB hb
  clear hb
  go_wp2_with fail
  refine (mul_any ra ra (by omega) (by omega)).mono ?_
  rintro e w11 ⟨adm, nm, cm, lm, rfl, rm, km, vm, hb⟩
  replace ra := ra.below hb
  replace rb := rb.below hb
  replace rs := rs.below hb
  replace rq := rq.below hb
  replace rr := rr.below hb
  replace HB := onto HB hb
  clear hb
  have Hvm := Lib.hid vm; clear vm
  have lm : lm.length ≤ 3 := km.len (by rw [Hvm.out, Hva.out]; decide)
  go_wp2_with fail
  refine (same_vals (rm.below (alb _ _)) (lit3 _ 0 0 1 (by decide) (by decide) (by decide)) (by omega) km (can3 0 0 1 (by decide) (by decide) (by decide) (by decide)) (by rw [Hvm.out, Hva.out]; decide)).mono ?_
  rintro e w12 ⟨rfl, hb⟩
  replace hb := past hb
  replace ra := ra.below hb
  replace rb := rb.below hb
  replace rs := rs.below hb
  replace rq := rq.below hb
  replace rr := rr.below hb
  replace rm := rm.below hb
  replace HB := onto HB hb
  clear hb
  go_wp2_with fail
  refine (of_any 12 w12 (by decide) (by decide)).mono ?_
  rintro e w13 ⟨adx, nx, cx, lx, rfl, rx, kx, vx, hb⟩
  replace ra := ra.below hb
  replace rb := rb.below hb
  replace rs := rs.below hb
  replace rq := rq.below hb
  replace rr := rr.below hb
  replace rm := rm.below hb
  replace HB := onto HB hb
  clear hb
  have Hvx := Lib.hid vx; clear vx
  have lx : lx.length ≤ 1 := kx.len (by rw [Hvx.out]; decide)
  go_wp2_with fail
  refine (of_any 18 w13 (by decide) (by decide)).mono ?_
  rintro e w14 ⟨ady, ny, cy, ly, rfl, ry, ky, vy, hb⟩
  replace ra := ra.below hb
  replace rb := rb.below hb
  replace rs := rs.below hb
  replace rq := rq.below hb
  replace rr := rr.below hb
  replace rm := rm.below hb
  replace rx := rx.below hb
  replace HB := onto HB hb
  clear hb
  have Hvy := Lib.hid vy; clear vy
  have ly : ly.length ≤ 1 := ky.len (by rw [Hvy.out]; decide)
  go_wp2_with fail
  refine (gcd_walk rx ry (by omega) (by omega) (fun h => absurd h (by omega))).mono ?_
  rintro e w15 ⟨adg, ng, cg, lg, rfl, rg, kg, vg, hb⟩
  replace ra := ra.below hb
  replace rb := rb.below hb
  replace rs := rs.below hb
  replace rq := rq.below hb
  replace rr := rr.below hb
  replace rm := rm.below hb
  replace rx := rx.below hb
  replace ry := ry.below hb
  replace HB := onto HB hb
  clear hb
  have Hvg := Lib.hid vg; clear vg
  have lg : lg.length ≤ 1 := kg.len (by rw [Hvg.out, Hvx.out, Hvy.out]; decide)
  go_wp2_with fail
  refine (same_vals (rg.below (alb _ _)) (lit1 _ 6 (by decide)) (by omega) kg (can1 _ (by decide) (by decide)) (by rw [Hvg.out, Hvx.out, Hvy.out]; decide)).mono ?_
  rintro e w16 ⟨rfl, hb⟩
  replace hb := past hb
  replace ra := ra.below hb
  replace rb := rb.below hb
  replace rs := rs.below hb
  replace rq := rq.below hb
  replace rr := rr.below hb
  replace rm := rm.below hb
  replace rx := rx.below hb
  replace ry := ry.below hb
  replace rg := rg.below hb
  replace HB := onto HB hb
  clear hb
  go_wp2_with fail
  refine (cmp_at ra rb (by omega) (by omega) (t := 1) (by rw [Hva.out, Hvb.out]; decide)).mono ?_
  rintro e w17 ⟨rfl, hb⟩
  replace ra := ra.below hb
  replace rb := rb.below hb
  replace rs := rs.below hb
  replace rq := rq.below hb
  replace rr := rr.below hb
  replace rm := rm.below hb
  replace rx := rx.below hb
  replace ry := ry.below hb
  replace rg := rg.below hb
  replace HB := onto HB hb
  clear hb
  go_wp2_with fail
  refine (cmp_at rb ra (by omega) (by omega) (t := -1) (by rw [Hva.out, Hvb.out]; decide)).mono ?_
  rintro e w18 ⟨rfl, hb⟩
  replace ra := ra.below hb
  replace rb := rb.below hb
  replace rs := rs.below hb
  replace rq := rq.below hb
  replace rr := rr.below hb
  replace rm := rm.below hb
  replace rx := rx.below hb
  replace ry := ry.below hb
  replace rg := rg.below hb
  replace HB := onto HB hb
  clear hb
  go_wp2_with fail
  refine (add_any rs rb (by omega) (by omega)).mono ?_
  rintro e w19 ⟨adt, nt, ct, lt, rfl, rt, kt, vt, hb⟩
  replace ra := ra.below hb
  replace rb := rb.below hb
  replace rs := rs.below hb
  replace rq := rq.below hb
  replace rr := rr.below hb
  replace rm := rm.below hb
  replace rx := rx.below hb
  replace ry := ry.below hb
  replace rg := rg.below hb
  replace HB := onto HB hb
  clear hb
  have Hvt := Lib.hid vt; clear vt
  have lt : lt.length ≤ 2 := kt.len (by rw [Hvt.out, Hvs.out, Hva.out, Hvb.out]; decide)
  go_wp2_with fail
  refine (same_vals rt ra (by omega) kt ka (by rw [Hvt.out, Hvs.out, Hva.out, Hvb.out]; decide)).mono ?_
  rintro e w20 ⟨rfl, hb⟩
  replace ra := ra.below hb
  replace rb := rb.below hb
  replace rs := rs.below hb
  replace rq := rq.below hb
  replace rr := rr.below hb
  replace rm := rm.below hb
  replace rx := rx.below hb
  replace ry := ry.below hb
  replace rg := rg.below hb
  replace rt := rt.below hb
  replace HB := onto HB hb
  clear hb
  go_wp2_with fail
  refine (norm_any (lit2 _ 0 0 (by decide) (by decide)) (by simp)).mono ?_
  rintro e w21 ⟨adz, nz, cz, lz, rfl, rz, kz, vz, hb⟩
  replace hb := past hb
  replace ra := ra.below hb
  replace rb := rb.below hb
  replace rs := rs.below hb
  replace rq := rq.below hb
  replace rr := rr.below hb
  replace rm := rm.below hb
  replace rx := rx.below hb
  replace ry := ry.below hb
  replace rg := rg.below hb
  replace rt := rt.below hb
  replace HB := onto HB hb
  clear hb
  have Hvz := Lib.hid vz; clear vz
  obtain rfl : lz = [] := kz.zero (by rw [Hvz.out]; decide)
  obtain rfl : nz = 0 := rz.open.1
  go_wp2
  go_ret
  exact ⟨rfl, HB⟩

set_option maxHeartbeats 400000 in
theorem great_no (ada adb : Option Addr) (na ca nb cb : Nat) (w : World) (ha : na ≤ 20) (hb : nb ≤ 20) :
    Calls Try.prog 11 #[.slice ada na ca, .slice adb nb cb] w fun e w' => e = .returned (.bool false) ∧ w = w' := by
  have hd : decide ((20 : Int) < (na : Int)) = false := decide_eq_false (by omega)
  have hd2 : decide ((20 : Int) < (nb : Int)) = false := decide_eq_false (by omega)
  go_enter Try.func11, Try.ntmps11
  go_wp2
  go_ret
  exact ⟨rfl, rfl⟩

set_option maxHeartbeats 400000 in
theorem great_yes (ada adb : Option Addr) (na ca nb cb : Nat) (w : World) (h : 20 < na ∨ 20 < nb) :
    Calls Try.prog 11 #[.slice ada na ca, .slice adb nb cb] w fun e w' => e = .returned (.bool true) ∧ w = w' := by
  by_cases ha : 20 < na
  · have hd : decide ((20 : Int) < (na : Int)) = true := decide_eq_true (by omega)
    clear h
    go_enter Try.func11, Try.ntmps11
    go_wp2
    go_ret
    exact ⟨rfl, rfl⟩
  · have hd : decide ((20 : Int) < (na : Int)) = false := decide_eq_false (by omega)
    have hb : 20 < nb := by omega
    have hd2 : decide ((20 : Int) < (nb : Int)) = true := decide_eq_true (by omega)
    clear h
    go_enter Try.func11, Try.ntmps11
    go_wp2
    go_ret
    exact ⟨rfl, rfl⟩

end Go.Proofs.Ytpijjpjpedcbhaa
