/-
  NatTells: of any two numbers, which is greater, their sum, difference, product, quotient and rest, and the greatest one that divides both, are the document's: the law's body answers true of any two lists and any number of 64 bits.
-/
import Derived.Test.YtpijjpjpedcbhaaBlendAll
import Derived.Test.YtpijjpjpedcbhaaLow
import Derived.Test.YtpijjpjpedcbhaaRefGcd
namespace Go.Proofs.Ytpijjpjpedcbhaa
open Go.RowKit

theorem u64_bounds {n : Int} (h : (Lit.int .u64 n).wf = true) : 0 ≤ n ∧ n < 18446744073709551616 := by
  simp only [Lit.wf, IntKind.min, IntKind.max, IntKind.bits, IntKind.signed, Bool.and_eq_true] at h
  have : 0 ≤ n ∧ n ≤ 18446744073709551615 := by simpa using h
  omega

section
variable {w : World} {va vb : Value} {a b : List Nat} (ha : Rd w va a) (hb : Rd w vb b)
include ha hb

theorem rcmp_at (la : a.length ≤ 10000) (lb : b.length ≤ 10000) {t : Int} (h : tell (val a) (val b) = t) :
    Calls Try.prog 17 #[va, vb] w fun e w' => e = .returned (.int .i64 t) ∧ Below w.heap.size w w' := h ▸ rcmp_any ha hb la lb

theorem radd_made (la : a.length ≤ 10000) (lb : b.length ≤ 10000) : Calls Try.prog 20 #[va, vb] w (Made w (val a + val b)) := (radd_any ha hb la lb).mono fun _ _ h => h.made
theorem rmul_made (la : a.length ≤ 1000) (lb : b.length ≤ 1000) : Calls Try.prog 22 #[va, vb] w (Made w (val a * val b)) := (rmul_any ha hb la lb).mono fun _ _ h => h.made

theorem rsub_yes (la : a.length ≤ 10000) (lb : b.length ≤ 10000) (h : val b ≤ val a) :
    Calls Try.prog 13 #[va, vb] w fun e w' => ∃ ad n cap l, e = .returned (.tuple #[.slice ad n cap, .bool true]) ∧ Rd w' (.slice ad n cap) l ∧ Can l ∧ val l = val a - val b ∧ Below w.heap.size w w' :=
  (rsub_any ha hb la lb).mono fun e w' h' => by
    rcases h' with ⟨_, ad, n, cap, l, h1, _, h2⟩ | ⟨h', _⟩
    · exact ⟨ad, n, cap, l, h1, h2⟩
    · omega

theorem rsub_no (la : a.length ≤ 10000) (lb : b.length ≤ 10000) (h : val a < val b) :
    Calls Try.prog 13 #[va, vb] w fun e w' => e = .returned (.tuple #[.slice none 0 0, .bool false]) ∧ Below w.heap.size w w' :=
  (rsub_any ha hb la lb).mono fun e w' h' => by
    rcases h' with ⟨h', _⟩ | ⟨_, h'⟩
    · omega
    · exact h'

theorem rdiv_yes (la : a.length ≤ 1000) (lb : b.length ≤ 1000) (h : 0 < val b) :
    Calls Try.prog 15 #[va, vb] w fun e w' => ∃ ad n cap l ad2 n2 cap2 l2, e = .returned (.tuple #[.slice ad n cap, .slice ad2 n2 cap2, .bool true]) ∧ Rd w' (.slice ad n cap) l ∧ Can l ∧ val l = val a / val b ∧ Rd w' (.slice ad2 n2 cap2) l2 ∧ Can l2 ∧ val l2 = val a % val b ∧ Below w.heap.size w w' :=
  (rdiv_any ha hb la lb).mono fun e w' h' => by
    rcases h' with ⟨h', _⟩ | ⟨_, h'⟩
    · omega
    · exact h'

theorem rdiv_no (la : a.length ≤ 1000) (lb : b.length ≤ 1000) (h : val b = 0) :
    Calls Try.prog 15 #[va, vb] w fun e w' => e = .returned (.tuple #[.slice none 0 0, .slice none 0 0, .bool false]) ∧ Below w.heap.size w w' :=
  (rdiv_any ha hb la lb).mono fun e w' h' => by
    rcases h' with ⟨_, h'⟩ | ⟨h', _⟩
    · exact h'
    · omega
end

theorem rnorm_made {w : World} {v : Value} {l : List Nat} (h : Rd w v l) (hl : l.length ≤ 1000000) : Calls Try.prog 26 #[v] w (Made w (val l)) := (rnorm_any h hl).mono fun _ _ h => h.made

theorem same_none (w : World) : Calls Try.prog 18 #[.slice none 0 0, .slice none 0 0] w (Samed w true) := same_yes (Rd.nil _) (Rd.nil _) (by simp) rfl

set_option maxRecDepth 100000 in
set_option maxHeartbeats 2000000 in
theorem tells_great {w : World} (ada adb : Option Addr) (na ca nb cb : Nat) (x : Int) (h : 20 < na ∨ 20 < nb) :
    Calls Try.prog 3 #[.slice ada na ca, .slice adb nb cb, .int .u64 x] w (Samed w true) := by
  have hg := fun w => great_yes ada adb na ca nb cb w h
  have HG := Lib.hid hg; clear hg
  go_enter Try.func3, Try.ntmps3
  go_wp2_with fail
  refine (head_any w).mono ?_
  rintro e w1 ⟨rfl, hb⟩
  go_wp2_with fail
  refine (HG.out w1).mono ?_
  rintro e w0 ⟨rfl, rfl⟩
  go_wp2
  go_ret
  exact ⟨rfl, hb⟩

theorem gcd_small {x y k : Nat} (hx : x < pw k) (hy : y < pw k) : Nat.gcd x y < pw k := by
  rcases Nat.eq_zero_or_pos x with h | h
  · rw [h, Nat.gcd_zero_left]; exact hy
  · exact Nat.lt_of_le_of_lt (Nat.gcd_le_left y h) hx

theorem of_small {x : Int} (h0 : 0 ≤ x) (h1 : x < 18446744073709551616) : x.toNat < pw 2 := by
  have e : pw 2 = 18446744073709551616 := by decide
  omega

set_option maxRecDepth 100000 in
set_option maxHeartbeats 4000000 in
theorem tells_zero {w : World} {ada adb : Option Addr} {na ca nb cb : Nat} {a b : List Nat} {x : Int} (ra : Rd w (.slice ada na ca) a) (rb : Rd w (.slice adb nb cb) b) (ha : na ≤ 20) (hb20 : nb ≤ 20) (hx0 : 0 ≤ x) (hx1 : x < 18446744073709551616) (h0 : val b = 0) (h1 : val b ≤ val a) :
    Calls Try.prog 3 #[.slice ada na ca, .slice adb nb cb, .int .u64 x] w (Samed w true) := by
  have HB := Below.refl w.heap.size w
  have H0 := Lib.hid h0; clear h0
  have H1 := Lib.hid h1; clear h1
  have sa := rd_small ra ha
  have sb := rd_small rb hb20
  have la : a.length ≤ 20 := by rw [← ra.open.1]; exact ha
  have lb : b.length ≤ 20 := by rw [← rb.open.1]; exact hb20
  obtain ⟨t, ht⟩ : ∃ t, tell (val a) (val b) = t := ⟨_, rfl⟩
  have HT := Lib.hid ht; clear ht
  go_enter Try.func3, Try.ntmps3
  go_wp2_with fail
  refine (head_any w).mono ?_
  rintro e w1 ⟨rfl, hb⟩
  replace ra := ra.below hb
  replace rb := rb.below hb
  replace HB := onto HB hb
  clear hb
  go_wp2_with fail
  refine (great_no ada adb na ca nb cb w1 ha hb20).mono ?_
  rintro e w0 ⟨rfl, rfl⟩
  go_wp2_with fail
  refine (sub_yes ra rb (by omega) (by omega) H1.out).mono ?_
  rintro e w2 ⟨adc, nc, cc, lc, rfl, rc, kc, vc, hb⟩
  replace ra := ra.below hb
  replace rb := rb.below hb
  replace HB := onto HB hb
  clear hb
  have Hvc := Lib.hid vc; clear vc
  have bc : lc.length ≤ 20 := kc.len (by rw [Hvc.out]; exact Nat.lt_of_le_of_lt (Nat.sub_le _ _) sa)
  go_wp2_with fail
  refine (rsub_yes ra rb (by omega) (by omega) H1.out).mono ?_
  rintro e w3 ⟨add, nd, cd, ld, rfl, rd, kd, vd, hb⟩
  replace ra := ra.below hb
  replace rb := rb.below hb
  replace rc := rc.below hb
  replace HB := onto HB hb
  clear hb
  have Hvd := Lib.hid vd; clear vd
  have bd : ld.length ≤ 20 := kd.len (by rw [Hvd.out]; exact Nat.lt_of_le_of_lt (Nat.sub_le _ _) sa)
  go_wp2_with fail
  refine (div_no ra rb (by omega) (by omega) H0.out).mono ?_
  rintro e w4 ⟨rfl, hb⟩
  replace ra := ra.below hb
  replace rb := rb.below hb
  replace rc := rc.below hb
  replace rd := rd.below hb
  replace HB := onto HB hb
  clear hb
  go_wp2_with fail
  refine (rdiv_no ra rb (by omega) (by omega) H0.out).mono ?_
  rintro e w5 ⟨rfl, hb⟩
  replace ra := ra.below hb
  replace rb := rb.below hb
  replace rc := rc.below hb
  replace rd := rd.below hb
  replace HB := onto HB hb
  clear hb
  go_wp2_with fail
  refine (cmp_at ra rb (by omega) (by omega) HT.out).mono ?_
  rintro e w6 ⟨rfl, hb⟩
  replace ra := ra.below hb
  replace rb := rb.below hb
  replace rc := rc.below hb
  replace rd := rd.below hb
  replace HB := onto HB hb
  clear hb
  go_wp2_with fail
  refine (rcmp_at ra rb (by omega) (by omega) HT.out).mono ?_
  rintro e w7 ⟨rfl, hb⟩
  replace ra := ra.below hb
  replace rb := rb.below hb
  replace rc := rc.below hb
  replace rd := rd.below hb
  replace HB := onto HB hb
  clear hb
  go_wp2_with fail
  refine (add_any ra rb (by omega) (by omega)).mono ?_
  rintro e w8 ⟨ade, ne, ce, le, rfl, re, ke, ve, hb⟩
  replace ra := ra.below hb
  replace rb := rb.below hb
  replace rc := rc.below hb
  replace rd := rd.below hb
  replace HB := onto HB hb
  clear hb
  have Hve := Lib.hid ve; clear ve
  have se : val le < pw 21 := by rw [Hve.out]; exact lt_add sa sb
  have be : le.length ≤ 21 := ke.len se
  go_wp2_with fail
  refine (radd_made ra rb (by omega) (by omega)).mono ?_
  rintro e w9 ⟨adf, nf, cf, lf, rfl, rf, kf, vf, hb⟩
  replace ra := ra.below hb
  replace rb := rb.below hb
  replace rc := rc.below hb
  replace rd := rd.below hb
  replace re := re.below hb
  replace HB := onto HB hb
  clear hb
  have Hvf := Lib.hid vf; clear vf
  have sf : val lf < pw 21 := by rw [Hvf.out]; exact lt_add sa sb
  have bf : lf.length ≤ 21 := kf.len sf
  go_wp2_with fail
  refine (same_vals re rf (by omega) ke kf (Hve.out.trans Hvf.out.symm)).mono ?_
  rintro e w10 ⟨rfl, hb⟩
  replace ra := ra.below hb
  replace rb := rb.below hb
  replace rc := rc.below hb
  replace rd := rd.below hb
  replace re := re.below hb
  replace rf := rf.below hb
  replace HB := onto HB hb
  clear hb
  go_wp2_with fail
  refine (same_vals rc rd (by omega) kc kd (Hvc.out.trans Hvd.out.symm)).mono ?_
  rintro e w11 ⟨rfl, hb⟩
  replace ra := ra.below hb
  replace rb := rb.below hb
  replace rc := rc.below hb
  replace rd := rd.below hb
  replace re := re.below hb
  replace rf := rf.below hb
  replace HB := onto HB hb
  clear hb
  go_wp2_with fail
  refine (mul_any ra rb (by omega) (by omega)).mono ?_
  rintro e w12 ⟨adg, ng, cg, lg, rfl, rg, kg, vg, hb⟩
  replace ra := ra.below hb
  replace rb := rb.below hb
  replace rc := rc.below hb
  replace rd := rd.below hb
  replace re := re.below hb
  replace rf := rf.below hb
  replace HB := onto HB hb
  clear hb
  have Hvg := Lib.hid vg; clear vg
  have sg : val lg < pw 40 := by rw [Hvg.out]; exact lt_mul sa sb
  have bg : lg.length ≤ 40 := kg.len sg
  go_wp2_with fail
  refine (rmul_made ra rb (by omega) (by omega)).mono ?_
  rintro e w13 ⟨adh, nh, ch, lh, rfl, rh, kh, vh, hb⟩
  replace ra := ra.below hb
  replace rb := rb.below hb
  replace rc := rc.below hb
  replace rd := rd.below hb
  replace re := re.below hb
  replace rf := rf.below hb
  replace rg := rg.below hb
  replace HB := onto HB hb
  clear hb
  have Hvh := Lib.hid vh; clear vh
  have sh : val lh < pw 40 := by rw [Hvh.out]; exact lt_mul sa sb
  have bh : lh.length ≤ 40 := kh.len sh
  go_wp2_with fail
  refine (same_vals rg rh (by omega) kg kh (Hvg.out.trans Hvh.out.symm)).mono ?_
  rintro e w14 ⟨rfl, hb⟩
  replace ra := ra.below hb
  replace rb := rb.below hb
  replace rc := rc.below hb
  replace rd := rd.below hb
  replace re := re.below hb
  replace rf := rf.below hb
  replace rg := rg.below hb
  replace rh := rh.below hb
  replace HB := onto HB hb
  clear hb
  go_wp2_with fail
  refine (same_none _).mono ?_
  rintro e w15 ⟨rfl, hb⟩
  replace ra := ra.below hb
  replace rb := rb.below hb
  replace rc := rc.below hb
  replace rd := rd.below hb
  replace re := re.below hb
  replace rf := rf.below hb
  replace rg := rg.below hb
  replace rh := rh.below hb
  replace HB := onto HB hb
  clear hb
  go_wp2_with fail
  refine (same_none _).mono ?_
  rintro e w16 ⟨rfl, hb⟩
  replace ra := ra.below hb
  replace rb := rb.below hb
  replace rc := rc.below hb
  replace rd := rd.below hb
  replace re := re.below hb
  replace rf := rf.below hb
  replace rg := rg.below hb
  replace rh := rh.below hb
  replace HB := onto HB hb
  clear hb
  go_wp2_with fail
  refine (gcd_any ra rb (by omega) (by omega)).mono ?_
  rintro e w17 ⟨adi, ni, ci, li, rfl, ri, ki, vi, hb⟩
  replace ra := ra.below hb
  replace rb := rb.below hb
  replace rc := rc.below hb
  replace rd := rd.below hb
  replace re := re.below hb
  replace rf := rf.below hb
  replace rg := rg.below hb
  replace rh := rh.below hb
  replace HB := onto HB hb
  clear hb
  have Hvi := Lib.hid vi; clear vi
  have bi : li.length ≤ 20 := ki.len (by rw [Hvi.out]; exact gcd_small sa sb)
  go_wp2_with fail
  refine (rgcd_any ra rb (by omega) (by omega)).mono ?_
  rintro e w18 ⟨adj, nj, cj, lj, rfl, rj, kj, vj, hb⟩
  replace ra := ra.below hb
  replace rb := rb.below hb
  replace rc := rc.below hb
  replace rd := rd.below hb
  replace re := re.below hb
  replace rf := rf.below hb
  replace rg := rg.below hb
  replace rh := rh.below hb
  replace ri := ri.below hb
  replace HB := onto HB hb
  clear hb
  have Hvj := Lib.hid vj; clear vj
  go_wp2_with fail
  refine (same_vals ri rj (by omega) ki kj (Hvi.out.trans Hvj.out.symm)).mono ?_
  rintro e w19 ⟨rfl, hb⟩
  replace ra := ra.below hb
  replace rb := rb.below hb
  replace rc := rc.below hb
  replace rd := rd.below hb
  replace re := re.below hb
  replace rf := rf.below hb
  replace rg := rg.below hb
  replace rh := rh.below hb
  replace ri := ri.below hb
  replace rj := rj.below hb
  replace HB := onto HB hb
  clear hb
  go_wp2_with fail
  refine (norm_any ra (by omega)).mono ?_
  rintro e w20 ⟨adm, nm, cm, lm, rfl, rm, km, vm, hb⟩
  replace ra := ra.below hb
  replace rb := rb.below hb
  replace rc := rc.below hb
  replace rd := rd.below hb
  replace re := re.below hb
  replace rf := rf.below hb
  replace rg := rg.below hb
  replace rh := rh.below hb
  replace ri := ri.below hb
  replace rj := rj.below hb
  replace HB := onto HB hb
  clear hb
  have Hvm := Lib.hid vm; clear vm
  have sm : val lm < pw 20 := by rw [Hvm.out]; exact sa
  have bm : lm.length ≤ 20 := km.len sm
  go_wp2_with fail
  refine (rnorm_made ra (by omega)).mono ?_
  rintro e w21 ⟨adn, nn, cn, ln, rfl, rn, kn, vn, hb⟩
  replace ra := ra.below hb
  replace rb := rb.below hb
  replace rc := rc.below hb
  replace rd := rd.below hb
  replace re := re.below hb
  replace rf := rf.below hb
  replace rg := rg.below hb
  replace rh := rh.below hb
  replace ri := ri.below hb
  replace rj := rj.below hb
  replace rm := rm.below hb
  replace HB := onto HB hb
  clear hb
  have Hvn := Lib.hid vn; clear vn
  have sn : val ln < pw 20 := by rw [Hvn.out]; exact sa
  have bn : ln.length ≤ 20 := kn.len sn
  go_wp2_with fail
  refine (same_vals rm rn (by omega) km kn (Hvm.out.trans Hvn.out.symm)).mono ?_
  rintro e w22 ⟨rfl, hb⟩
  replace ra := ra.below hb
  replace rb := rb.below hb
  replace rc := rc.below hb
  replace rd := rd.below hb
  replace re := re.below hb
  replace rf := rf.below hb
  replace rg := rg.below hb
  replace rh := rh.below hb
  replace ri := ri.below hb
  replace rj := rj.below hb
  replace rm := rm.below hb
  replace rn := rn.below hb
  replace HB := onto HB hb
  clear hb
  go_wp2_with fail
  refine (of_any x _ hx0 hx1).mono ?_
  rintro e w23 ⟨adu, nu, cu, lu, rfl, ru, ku, vu, hb⟩
  replace ra := ra.below hb
  replace rb := rb.below hb
  replace rc := rc.below hb
  replace rd := rd.below hb
  replace re := re.below hb
  replace rf := rf.below hb
  replace rg := rg.below hb
  replace rh := rh.below hb
  replace ri := ri.below hb
  replace rj := rj.below hb
  replace rm := rm.below hb
  replace rn := rn.below hb
  replace HB := onto HB hb
  clear hb
  have Hvu := Lib.hid vu; clear vu
  have bu : lu.length ≤ 2 := ku.len (by rw [Hvu.out]; exact of_small hx0 hx1)
  go_wp2_with fail
  refine (rof_any x _ hx0 hx1).mono ?_
  rintro e w24 ⟨adv, nv, cv, lv, rfl, rv, kv, vv, hb⟩
  replace ra := ra.below hb
  replace rb := rb.below hb
  replace rc := rc.below hb
  replace rd := rd.below hb
  replace re := re.below hb
  replace rf := rf.below hb
  replace rg := rg.below hb
  replace rh := rh.below hb
  replace ri := ri.below hb
  replace rj := rj.below hb
  replace rm := rm.below hb
  replace rn := rn.below hb
  replace ru := ru.below hb
  replace HB := onto HB hb
  clear hb
  have Hvv := Lib.hid vv; clear vv
  go_wp2_with fail
  refine (same_vals ru rv (by omega) ku kv (Hvu.out.trans Hvv.out.symm)).mono ?_
  rintro e w25 ⟨rfl, hb⟩
  replace ra := ra.below hb
  replace rb := rb.below hb
  replace rc := rc.below hb
  replace rd := rd.below hb
  replace re := re.below hb
  replace rf := rf.below hb
  replace rg := rg.below hb
  replace rh := rh.below hb
  replace ri := ri.below hb
  replace rj := rj.below hb
  replace rm := rm.below hb
  replace rn := rn.below hb
  replace ru := ru.below hb
  replace rv := rv.below hb
  replace HB := onto HB hb
  clear hb
  go_wp2
  go_ret
  exact ⟨rfl, HB⟩

set_option maxRecDepth 100000 in
set_option maxHeartbeats 4000000 in
theorem tells_less {w : World} {ada adb : Option Addr} {na ca nb cb : Nat} {a b : List Nat} {x : Int} (ra : Rd w (.slice ada na ca) a) (rb : Rd w (.slice adb nb cb) b) (ha : na ≤ 20) (hb20 : nb ≤ 20) (hx0 : 0 ≤ x) (hx1 : x < 18446744073709551616) (h0 : 0 < val b) (h1 : val a < val b) :
    Calls Try.prog 3 #[.slice ada na ca, .slice adb nb cb, .int .u64 x] w (Samed w true) := by
  have HB := Below.refl w.heap.size w
  have H0 := Lib.hid h0; clear h0
  have H1 := Lib.hid h1; clear h1
  have sa := rd_small ra ha
  have sb := rd_small rb hb20
  have la : a.length ≤ 20 := by rw [← ra.open.1]; exact ha
  have lb : b.length ≤ 20 := by rw [← rb.open.1]; exact hb20
  obtain ⟨t, ht⟩ : ∃ t, tell (val a) (val b) = t := ⟨_, rfl⟩
  have HT := Lib.hid ht; clear ht
  go_enter Try.func3, Try.ntmps3
  go_wp2_with fail
  refine (head_any w).mono ?_
  rintro e w1 ⟨rfl, hb⟩
  replace ra := ra.below hb
  replace rb := rb.below hb
  replace HB := onto HB hb
  clear hb
  go_wp2_with fail
  refine (great_no ada adb na ca nb cb w1 ha hb20).mono ?_
  rintro e w0 ⟨rfl, rfl⟩
  go_wp2_with fail
  refine (sub_no ra rb (by omega) (by omega) H1.out).mono ?_
  rintro e w2 ⟨rfl, hb⟩
  replace ra := ra.below hb
  replace rb := rb.below hb
  replace HB := onto HB hb
  clear hb
  go_wp2_with fail
  refine (rsub_no ra rb (by omega) (by omega) H1.out).mono ?_
  rintro e w3 ⟨rfl, hb⟩
  replace ra := ra.below hb
  replace rb := rb.below hb
  replace HB := onto HB hb
  clear hb
  go_wp2_with fail
  refine (div_yes ra rb (by omega) (by omega) H0.out).mono ?_
  rintro e w4 ⟨adq, nq, cq, lq, adr, nr, cr, lr, rfl, rq, kq, vq, rr, kr, vr, hb⟩
  replace ra := ra.below hb
  replace rb := rb.below hb
  replace HB := onto HB hb
  clear hb
  have Hvq := Lib.hid vq; clear vq
  have Hvr := Lib.hid vr; clear vr
  have bq : lq.length ≤ 20 := kq.len (by rw [Hvq.out]; exact Nat.lt_of_le_of_lt (Nat.div_le_self _ _) sa)
  have br : lr.length ≤ 20 := kr.len (by rw [Hvr.out]; exact Nat.lt_of_le_of_lt (Nat.mod_le _ _) sa)
  go_wp2_with fail
  refine (rdiv_yes ra rb (by omega) (by omega) H0.out).mono ?_
  rintro e w5 ⟨adp, np, cp, lp, adl, nl, cl, ll, rfl, rp, kp, vp, rl, kl, vl, hb⟩
  replace ra := ra.below hb
  replace rb := rb.below hb
  replace rq := rq.below hb
  replace rr := rr.below hb
  replace HB := onto HB hb
  clear hb
  have Hvp := Lib.hid vp; clear vp
  have Hvl := Lib.hid vl; clear vl
  have bp : lp.length ≤ 20 := kp.len (by rw [Hvp.out]; exact Nat.lt_of_le_of_lt (Nat.div_le_self _ _) sa)
  have bl : ll.length ≤ 20 := kl.len (by rw [Hvl.out]; exact Nat.lt_of_le_of_lt (Nat.mod_le _ _) sa)
  go_wp2_with fail
  refine (cmp_at ra rb (by omega) (by omega) HT.out).mono ?_
  rintro e w6 ⟨rfl, hb⟩
  replace ra := ra.below hb
  replace rb := rb.below hb
  replace rq := rq.below hb
  replace rr := rr.below hb
  replace rp := rp.below hb
  replace rl := rl.below hb
  replace HB := onto HB hb
  clear hb
  go_wp2_with fail
  refine (rcmp_at ra rb (by omega) (by omega) HT.out).mono ?_
  rintro e w7 ⟨rfl, hb⟩
  replace ra := ra.below hb
  replace rb := rb.below hb
  replace rq := rq.below hb
  replace rr := rr.below hb
  replace rp := rp.below hb
  replace rl := rl.below hb
  replace HB := onto HB hb
  clear hb
  go_wp2_with fail
  refine (add_any ra rb (by omega) (by omega)).mono ?_
  rintro e w8 ⟨ade, ne, ce, le, rfl, re, ke, ve, hb⟩
  replace ra := ra.below hb
  replace rb := rb.below hb
  replace rq := rq.below hb
  replace rr := rr.below hb
  replace rp := rp.below hb
  replace rl := rl.below hb
  replace HB := onto HB hb
  clear hb
  have Hve := Lib.hid ve; clear ve
  have se : val le < pw 21 := by rw [Hve.out]; exact lt_add sa sb
  have be : le.length ≤ 21 := ke.len se
  go_wp2_with fail
  refine (radd_made ra rb (by omega) (by omega)).mono ?_
  rintro e w9 ⟨adf, nf, cf, lf, rfl, rf, kf, vf, hb⟩
  replace ra := ra.below hb
  replace rb := rb.below hb
  replace rq := rq.below hb
  replace rr := rr.below hb
  replace rp := rp.below hb
  replace rl := rl.below hb
  replace re := re.below hb
  replace HB := onto HB hb
  clear hb
  have Hvf := Lib.hid vf; clear vf
  have sf : val lf < pw 21 := by rw [Hvf.out]; exact lt_add sa sb
  have bf : lf.length ≤ 21 := kf.len sf
  go_wp2_with fail
  refine (same_vals re rf (by omega) ke kf (Hve.out.trans Hvf.out.symm)).mono ?_
  rintro e w10 ⟨rfl, hb⟩
  replace ra := ra.below hb
  replace rb := rb.below hb
  replace rq := rq.below hb
  replace rr := rr.below hb
  replace rp := rp.below hb
  replace rl := rl.below hb
  replace re := re.below hb
  replace rf := rf.below hb
  replace HB := onto HB hb
  clear hb
  go_wp2_with fail
  refine (same_none _).mono ?_
  rintro e w11 ⟨rfl, hb⟩
  replace ra := ra.below hb
  replace rb := rb.below hb
  replace rq := rq.below hb
  replace rr := rr.below hb
  replace rp := rp.below hb
  replace rl := rl.below hb
  replace re := re.below hb
  replace rf := rf.below hb
  replace HB := onto HB hb
  clear hb
  go_wp2_with fail
  refine (mul_any ra rb (by omega) (by omega)).mono ?_
  rintro e w12 ⟨adg, ng, cg, lg, rfl, rg, kg, vg, hb⟩
  replace ra := ra.below hb
  replace rb := rb.below hb
  replace rq := rq.below hb
  replace rr := rr.below hb
  replace rp := rp.below hb
  replace rl := rl.below hb
  replace re := re.below hb
  replace rf := rf.below hb
  replace HB := onto HB hb
  clear hb
  have Hvg := Lib.hid vg; clear vg
  have sg : val lg < pw 40 := by rw [Hvg.out]; exact lt_mul sa sb
  have bg : lg.length ≤ 40 := kg.len sg
  go_wp2_with fail
  refine (rmul_made ra rb (by omega) (by omega)).mono ?_
  rintro e w13 ⟨adh, nh, ch, lh, rfl, rh, kh, vh, hb⟩
  replace ra := ra.below hb
  replace rb := rb.below hb
  replace rq := rq.below hb
  replace rr := rr.below hb
  replace rp := rp.below hb
  replace rl := rl.below hb
  replace re := re.below hb
  replace rf := rf.below hb
  replace rg := rg.below hb
  replace HB := onto HB hb
  clear hb
  have Hvh := Lib.hid vh; clear vh
  have sh : val lh < pw 40 := by rw [Hvh.out]; exact lt_mul sa sb
  have bh : lh.length ≤ 40 := kh.len sh
  go_wp2_with fail
  refine (same_vals rg rh (by omega) kg kh (Hvg.out.trans Hvh.out.symm)).mono ?_
  rintro e w14 ⟨rfl, hb⟩
  replace ra := ra.below hb
  replace rb := rb.below hb
  replace rq := rq.below hb
  replace rr := rr.below hb
  replace rp := rp.below hb
  replace rl := rl.below hb
  replace re := re.below hb
  replace rf := rf.below hb
  replace rg := rg.below hb
  replace rh := rh.below hb
  replace HB := onto HB hb
  clear hb
  go_wp2_with fail
  refine (same_vals rq rp (by omega) kq kp (Hvq.out.trans Hvp.out.symm)).mono ?_
  rintro e w15 ⟨rfl, hb⟩
  replace ra := ra.below hb
  replace rb := rb.below hb
  replace rq := rq.below hb
  replace rr := rr.below hb
  replace rp := rp.below hb
  replace rl := rl.below hb
  replace re := re.below hb
  replace rf := rf.below hb
  replace rg := rg.below hb
  replace rh := rh.below hb
  replace HB := onto HB hb
  clear hb
  go_wp2_with fail
  refine (same_vals rr rl (by omega) kr kl (Hvr.out.trans Hvl.out.symm)).mono ?_
  rintro e w16 ⟨rfl, hb⟩
  replace ra := ra.below hb
  replace rb := rb.below hb
  replace rq := rq.below hb
  replace rr := rr.below hb
  replace rp := rp.below hb
  replace rl := rl.below hb
  replace re := re.below hb
  replace rf := rf.below hb
  replace rg := rg.below hb
  replace rh := rh.below hb
  replace HB := onto HB hb
  clear hb
  go_wp2_with fail
  refine (gcd_any ra rb (by omega) (by omega)).mono ?_
  rintro e w17 ⟨adi, ni, ci, li, rfl, ri, ki, vi, hb⟩
  replace ra := ra.below hb
  replace rb := rb.below hb
  replace rq := rq.below hb
  replace rr := rr.below hb
  replace rp := rp.below hb
  replace rl := rl.below hb
  replace re := re.below hb
  replace rf := rf.below hb
  replace rg := rg.below hb
  replace rh := rh.below hb
  replace HB := onto HB hb
  clear hb
  have Hvi := Lib.hid vi; clear vi
  have bi : li.length ≤ 20 := ki.len (by rw [Hvi.out]; exact gcd_small sa sb)
  go_wp2_with fail
  refine (rgcd_any ra rb (by omega) (by omega)).mono ?_
  rintro e w18 ⟨adj, nj, cj, lj, rfl, rj, kj, vj, hb⟩
  replace ra := ra.below hb
  replace rb := rb.below hb
  replace rq := rq.below hb
  replace rr := rr.below hb
  replace rp := rp.below hb
  replace rl := rl.below hb
  replace re := re.below hb
  replace rf := rf.below hb
  replace rg := rg.below hb
  replace rh := rh.below hb
  replace ri := ri.below hb
  replace HB := onto HB hb
  clear hb
  have Hvj := Lib.hid vj; clear vj
  go_wp2_with fail
  refine (same_vals ri rj (by omega) ki kj (Hvi.out.trans Hvj.out.symm)).mono ?_
  rintro e w19 ⟨rfl, hb⟩
  replace ra := ra.below hb
  replace rb := rb.below hb
  replace rq := rq.below hb
  replace rr := rr.below hb
  replace rp := rp.below hb
  replace rl := rl.below hb
  replace re := re.below hb
  replace rf := rf.below hb
  replace rg := rg.below hb
  replace rh := rh.below hb
  replace ri := ri.below hb
  replace rj := rj.below hb
  replace HB := onto HB hb
  clear hb
  go_wp2_with fail
  refine (norm_any ra (by omega)).mono ?_
  rintro e w20 ⟨adm, nm, cm, lm, rfl, rm, km, vm, hb⟩
  replace ra := ra.below hb
  replace rb := rb.below hb
  replace rq := rq.below hb
  replace rr := rr.below hb
  replace rp := rp.below hb
  replace rl := rl.below hb
  replace re := re.below hb
  replace rf := rf.below hb
  replace rg := rg.below hb
  replace rh := rh.below hb
  replace ri := ri.below hb
  replace rj := rj.below hb
  replace HB := onto HB hb
  clear hb
  have Hvm := Lib.hid vm; clear vm
  have sm : val lm < pw 20 := by rw [Hvm.out]; exact sa
  have bm : lm.length ≤ 20 := km.len sm
  go_wp2_with fail
  refine (rnorm_made ra (by omega)).mono ?_
  rintro e w21 ⟨adn, nn, cn, ln, rfl, rn, kn, vn, hb⟩
  replace ra := ra.below hb
  replace rb := rb.below hb
  replace rq := rq.below hb
  replace rr := rr.below hb
  replace rp := rp.below hb
  replace rl := rl.below hb
  replace re := re.below hb
  replace rf := rf.below hb
  replace rg := rg.below hb
  replace rh := rh.below hb
  replace ri := ri.below hb
  replace rj := rj.below hb
  replace rm := rm.below hb
  replace HB := onto HB hb
  clear hb
  have Hvn := Lib.hid vn; clear vn
  have sn : val ln < pw 20 := by rw [Hvn.out]; exact sa
  have bn : ln.length ≤ 20 := kn.len sn
  go_wp2_with fail
  refine (same_vals rm rn (by omega) km kn (Hvm.out.trans Hvn.out.symm)).mono ?_
  rintro e w22 ⟨rfl, hb⟩
  replace ra := ra.below hb
  replace rb := rb.below hb
  replace rq := rq.below hb
  replace rr := rr.below hb
  replace rp := rp.below hb
  replace rl := rl.below hb
  replace re := re.below hb
  replace rf := rf.below hb
  replace rg := rg.below hb
  replace rh := rh.below hb
  replace ri := ri.below hb
  replace rj := rj.below hb
  replace rm := rm.below hb
  replace rn := rn.below hb
  replace HB := onto HB hb
  clear hb
  go_wp2_with fail
  refine (of_any x _ hx0 hx1).mono ?_
  rintro e w23 ⟨adu, nu, cu, lu, rfl, ru, ku, vu, hb⟩
  replace ra := ra.below hb
  replace rb := rb.below hb
  replace rq := rq.below hb
  replace rr := rr.below hb
  replace rp := rp.below hb
  replace rl := rl.below hb
  replace re := re.below hb
  replace rf := rf.below hb
  replace rg := rg.below hb
  replace rh := rh.below hb
  replace ri := ri.below hb
  replace rj := rj.below hb
  replace rm := rm.below hb
  replace rn := rn.below hb
  replace HB := onto HB hb
  clear hb
  have Hvu := Lib.hid vu; clear vu
  have bu : lu.length ≤ 2 := ku.len (by rw [Hvu.out]; exact of_small hx0 hx1)
  go_wp2_with fail
  refine (rof_any x _ hx0 hx1).mono ?_
  rintro e w24 ⟨adv, nv, cv, lv, rfl, rv, kv, vv, hb⟩
  replace ra := ra.below hb
  replace rb := rb.below hb
  replace rq := rq.below hb
  replace rr := rr.below hb
  replace rp := rp.below hb
  replace rl := rl.below hb
  replace re := re.below hb
  replace rf := rf.below hb
  replace rg := rg.below hb
  replace rh := rh.below hb
  replace ri := ri.below hb
  replace rj := rj.below hb
  replace rm := rm.below hb
  replace rn := rn.below hb
  replace ru := ru.below hb
  replace HB := onto HB hb
  clear hb
  have Hvv := Lib.hid vv; clear vv
  go_wp2_with fail
  refine (same_vals ru rv (by omega) ku kv (Hvu.out.trans Hvv.out.symm)).mono ?_
  rintro e w25 ⟨rfl, hb⟩
  replace ra := ra.below hb
  replace rb := rb.below hb
  replace rq := rq.below hb
  replace rr := rr.below hb
  replace rp := rp.below hb
  replace rl := rl.below hb
  replace re := re.below hb
  replace rf := rf.below hb
  replace rg := rg.below hb
  replace rh := rh.below hb
  replace ri := ri.below hb
  replace rj := rj.below hb
  replace rm := rm.below hb
  replace rn := rn.below hb
  replace ru := ru.below hb
  replace rv := rv.below hb
  replace HB := onto HB hb
  clear hb
  go_wp2
  go_ret
  exact ⟨rfl, HB⟩

set_option maxRecDepth 100000 in
set_option maxHeartbeats 4000000 in
theorem tells_more {w : World} {ada adb : Option Addr} {na ca nb cb : Nat} {a b : List Nat} {x : Int} (ra : Rd w (.slice ada na ca) a) (rb : Rd w (.slice adb nb cb) b) (ha : na ≤ 20) (hb20 : nb ≤ 20) (hx0 : 0 ≤ x) (hx1 : x < 18446744073709551616) (h0 : 0 < val b) (h1 : val b ≤ val a) :
    Calls Try.prog 3 #[.slice ada na ca, .slice adb nb cb, .int .u64 x] w (Samed w true) := by
  have HB := Below.refl w.heap.size w
  have H0 := Lib.hid h0; clear h0
  have H1 := Lib.hid h1; clear h1
  have sa := rd_small ra ha
  have sb := rd_small rb hb20
  have la : a.length ≤ 20 := by rw [← ra.open.1]; exact ha
  have lb : b.length ≤ 20 := by rw [← rb.open.1]; exact hb20
  obtain ⟨t, ht⟩ : ∃ t, tell (val a) (val b) = t := ⟨_, rfl⟩
  have HT := Lib.hid ht; clear ht
  go_enter Try.func3, Try.ntmps3
  go_wp2_with fail
  refine (head_any w).mono ?_
  rintro e w1 ⟨rfl, hb⟩
  replace ra := ra.below hb
  replace rb := rb.below hb
  replace HB := onto HB hb
  clear hb
  go_wp2_with fail
  refine (great_no ada adb na ca nb cb w1 ha hb20).mono ?_
  rintro e w0 ⟨rfl, rfl⟩
  go_wp2_with fail
  refine (sub_yes ra rb (by omega) (by omega) H1.out).mono ?_
  rintro e w2 ⟨adc, nc, cc, lc, rfl, rc, kc, vc, hb⟩
  replace ra := ra.below hb
  replace rb := rb.below hb
  replace HB := onto HB hb
  clear hb
  have Hvc := Lib.hid vc; clear vc
  have bc : lc.length ≤ 20 := kc.len (by rw [Hvc.out]; exact Nat.lt_of_le_of_lt (Nat.sub_le _ _) sa)
  go_wp2_with fail
  refine (rsub_yes ra rb (by omega) (by omega) H1.out).mono ?_
  rintro e w3 ⟨add, nd, cd, ld, rfl, rd, kd, vd, hb⟩
  replace ra := ra.below hb
  replace rb := rb.below hb
  replace rc := rc.below hb
  replace HB := onto HB hb
  clear hb
  have Hvd := Lib.hid vd; clear vd
  have bd : ld.length ≤ 20 := kd.len (by rw [Hvd.out]; exact Nat.lt_of_le_of_lt (Nat.sub_le _ _) sa)
  go_wp2_with fail
  refine (div_yes ra rb (by omega) (by omega) H0.out).mono ?_
  rintro e w4 ⟨adq, nq, cq, lq, adr, nr, cr, lr, rfl, rq, kq, vq, rr, kr, vr, hb⟩
  replace ra := ra.below hb
  replace rb := rb.below hb
  replace rc := rc.below hb
  replace rd := rd.below hb
  replace HB := onto HB hb
  clear hb
  have Hvq := Lib.hid vq; clear vq
  have Hvr := Lib.hid vr; clear vr
  have bq : lq.length ≤ 20 := kq.len (by rw [Hvq.out]; exact Nat.lt_of_le_of_lt (Nat.div_le_self _ _) sa)
  have br : lr.length ≤ 20 := kr.len (by rw [Hvr.out]; exact Nat.lt_of_le_of_lt (Nat.mod_le _ _) sa)
  go_wp2_with fail
  refine (rdiv_yes ra rb (by omega) (by omega) H0.out).mono ?_
  rintro e w5 ⟨adp, np, cp, lp, adl, nl, cl, ll, rfl, rp, kp, vp, rl, kl, vl, hb⟩
  replace ra := ra.below hb
  replace rb := rb.below hb
  replace rc := rc.below hb
  replace rd := rd.below hb
  replace rq := rq.below hb
  replace rr := rr.below hb
  replace HB := onto HB hb
  clear hb
  have Hvp := Lib.hid vp; clear vp
  have Hvl := Lib.hid vl; clear vl
  have bp : lp.length ≤ 20 := kp.len (by rw [Hvp.out]; exact Nat.lt_of_le_of_lt (Nat.div_le_self _ _) sa)
  have bl : ll.length ≤ 20 := kl.len (by rw [Hvl.out]; exact Nat.lt_of_le_of_lt (Nat.mod_le _ _) sa)
  go_wp2_with fail
  refine (cmp_at ra rb (by omega) (by omega) HT.out).mono ?_
  rintro e w6 ⟨rfl, hb⟩
  replace ra := ra.below hb
  replace rb := rb.below hb
  replace rc := rc.below hb
  replace rd := rd.below hb
  replace rq := rq.below hb
  replace rr := rr.below hb
  replace rp := rp.below hb
  replace rl := rl.below hb
  replace HB := onto HB hb
  clear hb
  go_wp2_with fail
  refine (rcmp_at ra rb (by omega) (by omega) HT.out).mono ?_
  rintro e w7 ⟨rfl, hb⟩
  replace ra := ra.below hb
  replace rb := rb.below hb
  replace rc := rc.below hb
  replace rd := rd.below hb
  replace rq := rq.below hb
  replace rr := rr.below hb
  replace rp := rp.below hb
  replace rl := rl.below hb
  replace HB := onto HB hb
  clear hb
  go_wp2_with fail
  refine (add_any ra rb (by omega) (by omega)).mono ?_
  rintro e w8 ⟨ade, ne, ce, le, rfl, re, ke, ve, hb⟩
  replace ra := ra.below hb
  replace rb := rb.below hb
  replace rc := rc.below hb
  replace rd := rd.below hb
  replace rq := rq.below hb
  replace rr := rr.below hb
  replace rp := rp.below hb
  replace rl := rl.below hb
  replace HB := onto HB hb
  clear hb
  have Hve := Lib.hid ve; clear ve
  have se : val le < pw 21 := by rw [Hve.out]; exact lt_add sa sb
  have be : le.length ≤ 21 := ke.len se
  go_wp2_with fail
  refine (radd_made ra rb (by omega) (by omega)).mono ?_
  rintro e w9 ⟨adf, nf, cf, lf, rfl, rf, kf, vf, hb⟩
  replace ra := ra.below hb
  replace rb := rb.below hb
  replace rc := rc.below hb
  replace rd := rd.below hb
  replace rq := rq.below hb
  replace rr := rr.below hb
  replace rp := rp.below hb
  replace rl := rl.below hb
  replace re := re.below hb
  replace HB := onto HB hb
  clear hb
  have Hvf := Lib.hid vf; clear vf
  have sf : val lf < pw 21 := by rw [Hvf.out]; exact lt_add sa sb
  have bf : lf.length ≤ 21 := kf.len sf
  go_wp2_with fail
  refine (same_vals re rf (by omega) ke kf (Hve.out.trans Hvf.out.symm)).mono ?_
  rintro e w10 ⟨rfl, hb⟩
  replace ra := ra.below hb
  replace rb := rb.below hb
  replace rc := rc.below hb
  replace rd := rd.below hb
  replace rq := rq.below hb
  replace rr := rr.below hb
  replace rp := rp.below hb
  replace rl := rl.below hb
  replace re := re.below hb
  replace rf := rf.below hb
  replace HB := onto HB hb
  clear hb
  go_wp2_with fail
  refine (same_vals rc rd (by omega) kc kd (Hvc.out.trans Hvd.out.symm)).mono ?_
  rintro e w11 ⟨rfl, hb⟩
  replace ra := ra.below hb
  replace rb := rb.below hb
  replace rc := rc.below hb
  replace rd := rd.below hb
  replace rq := rq.below hb
  replace rr := rr.below hb
  replace rp := rp.below hb
  replace rl := rl.below hb
  replace re := re.below hb
  replace rf := rf.below hb
  replace HB := onto HB hb
  clear hb
  go_wp2_with fail
  refine (mul_any ra rb (by omega) (by omega)).mono ?_
  rintro e w12 ⟨adg, ng, cg, lg, rfl, rg, kg, vg, hb⟩
  replace ra := ra.below hb
  replace rb := rb.below hb
  replace rc := rc.below hb
  replace rd := rd.below hb
  replace rq := rq.below hb
  replace rr := rr.below hb
  replace rp := rp.below hb
  replace rl := rl.below hb
  replace re := re.below hb
  replace rf := rf.below hb
  replace HB := onto HB hb
  clear hb
  have Hvg := Lib.hid vg; clear vg
  have sg : val lg < pw 40 := by rw [Hvg.out]; exact lt_mul sa sb
  have bg : lg.length ≤ 40 := kg.len sg
  go_wp2_with fail
  refine (rmul_made ra rb (by omega) (by omega)).mono ?_
  rintro e w13 ⟨adh, nh, ch, lh, rfl, rh, kh, vh, hb⟩
  replace ra := ra.below hb
  replace rb := rb.below hb
  replace rc := rc.below hb
  replace rd := rd.below hb
  replace rq := rq.below hb
  replace rr := rr.below hb
  replace rp := rp.below hb
  replace rl := rl.below hb
  replace re := re.below hb
  replace rf := rf.below hb
  replace rg := rg.below hb
  replace HB := onto HB hb
  clear hb
  have Hvh := Lib.hid vh; clear vh
  have sh : val lh < pw 40 := by rw [Hvh.out]; exact lt_mul sa sb
  have bh : lh.length ≤ 40 := kh.len sh
  go_wp2_with fail
  refine (same_vals rg rh (by omega) kg kh (Hvg.out.trans Hvh.out.symm)).mono ?_
  rintro e w14 ⟨rfl, hb⟩
  replace ra := ra.below hb
  replace rb := rb.below hb
  replace rc := rc.below hb
  replace rd := rd.below hb
  replace rq := rq.below hb
  replace rr := rr.below hb
  replace rp := rp.below hb
  replace rl := rl.below hb
  replace re := re.below hb
  replace rf := rf.below hb
  replace rg := rg.below hb
  replace rh := rh.below hb
  replace HB := onto HB hb
  clear hb
  go_wp2_with fail
  refine (same_vals rq rp (by omega) kq kp (Hvq.out.trans Hvp.out.symm)).mono ?_
  rintro e w15 ⟨rfl, hb⟩
  replace ra := ra.below hb
  replace rb := rb.below hb
  replace rc := rc.below hb
  replace rd := rd.below hb
  replace rq := rq.below hb
  replace rr := rr.below hb
  replace rp := rp.below hb
  replace rl := rl.below hb
  replace re := re.below hb
  replace rf := rf.below hb
  replace rg := rg.below hb
  replace rh := rh.below hb
  replace HB := onto HB hb
  clear hb
  go_wp2_with fail
  refine (same_vals rr rl (by omega) kr kl (Hvr.out.trans Hvl.out.symm)).mono ?_
  rintro e w16 ⟨rfl, hb⟩
  replace ra := ra.below hb
  replace rb := rb.below hb
  replace rc := rc.below hb
  replace rd := rd.below hb
  replace rq := rq.below hb
  replace rr := rr.below hb
  replace rp := rp.below hb
  replace rl := rl.below hb
  replace re := re.below hb
  replace rf := rf.below hb
  replace rg := rg.below hb
  replace rh := rh.below hb
  replace HB := onto HB hb
  clear hb
  go_wp2_with fail
  refine (gcd_any ra rb (by omega) (by omega)).mono ?_
  rintro e w17 ⟨adi, ni, ci, li, rfl, ri, ki, vi, hb⟩
  replace ra := ra.below hb
  replace rb := rb.below hb
  replace rc := rc.below hb
  replace rd := rd.below hb
  replace rq := rq.below hb
  replace rr := rr.below hb
  replace rp := rp.below hb
  replace rl := rl.below hb
  replace re := re.below hb
  replace rf := rf.below hb
  replace rg := rg.below hb
  replace rh := rh.below hb
  replace HB := onto HB hb
  clear hb
  have Hvi := Lib.hid vi; clear vi
  have bi : li.length ≤ 20 := ki.len (by rw [Hvi.out]; exact gcd_small sa sb)
  go_wp2_with fail
  refine (rgcd_any ra rb (by omega) (by omega)).mono ?_
  rintro e w18 ⟨adj, nj, cj, lj, rfl, rj, kj, vj, hb⟩
  replace ra := ra.below hb
  replace rb := rb.below hb
  replace rc := rc.below hb
  replace rd := rd.below hb
  replace rq := rq.below hb
  replace rr := rr.below hb
  replace rp := rp.below hb
  replace rl := rl.below hb
  replace re := re.below hb
  replace rf := rf.below hb
  replace rg := rg.below hb
  replace rh := rh.below hb
  replace ri := ri.below hb
  replace HB := onto HB hb
  clear hb
  have Hvj := Lib.hid vj; clear vj
  go_wp2_with fail
  refine (same_vals ri rj (by omega) ki kj (Hvi.out.trans Hvj.out.symm)).mono ?_
  rintro e w19 ⟨rfl, hb⟩
  replace ra := ra.below hb
  replace rb := rb.below hb
  replace rc := rc.below hb
  replace rd := rd.below hb
  replace rq := rq.below hb
  replace rr := rr.below hb
  replace rp := rp.below hb
  replace rl := rl.below hb
  replace re := re.below hb
  replace rf := rf.below hb
  replace rg := rg.below hb
  replace rh := rh.below hb
  replace ri := ri.below hb
  replace rj := rj.below hb
  replace HB := onto HB hb
  clear hb
  go_wp2_with fail
  refine (norm_any ra (by omega)).mono ?_
  rintro e w20 ⟨adm, nm, cm, lm, rfl, rm, km, vm, hb⟩
  replace ra := ra.below hb
  replace rb := rb.below hb
  replace rc := rc.below hb
  replace rd := rd.below hb
  replace rq := rq.below hb
  replace rr := rr.below hb
  replace rp := rp.below hb
  replace rl := rl.below hb
  replace re := re.below hb
  replace rf := rf.below hb
  replace rg := rg.below hb
  replace rh := rh.below hb
  replace ri := ri.below hb
  replace rj := rj.below hb
  replace HB := onto HB hb
  clear hb
  have Hvm := Lib.hid vm; clear vm
  have sm : val lm < pw 20 := by rw [Hvm.out]; exact sa
  have bm : lm.length ≤ 20 := km.len sm
  go_wp2_with fail
  refine (rnorm_made ra (by omega)).mono ?_
  rintro e w21 ⟨adn, nn, cn, ln, rfl, rn, kn, vn, hb⟩
  replace ra := ra.below hb
  replace rb := rb.below hb
  replace rc := rc.below hb
  replace rd := rd.below hb
  replace rq := rq.below hb
  replace rr := rr.below hb
  replace rp := rp.below hb
  replace rl := rl.below hb
  replace re := re.below hb
  replace rf := rf.below hb
  replace rg := rg.below hb
  replace rh := rh.below hb
  replace ri := ri.below hb
  replace rj := rj.below hb
  replace rm := rm.below hb
  replace HB := onto HB hb
  clear hb
  have Hvn := Lib.hid vn; clear vn
  have sn : val ln < pw 20 := by rw [Hvn.out]; exact sa
  have bn : ln.length ≤ 20 := kn.len sn
  go_wp2_with fail
  refine (same_vals rm rn (by omega) km kn (Hvm.out.trans Hvn.out.symm)).mono ?_
  rintro e w22 ⟨rfl, hb⟩
  replace ra := ra.below hb
  replace rb := rb.below hb
  replace rc := rc.below hb
  replace rd := rd.below hb
  replace rq := rq.below hb
  replace rr := rr.below hb
  replace rp := rp.below hb
  replace rl := rl.below hb
  replace re := re.below hb
  replace rf := rf.below hb
  replace rg := rg.below hb
  replace rh := rh.below hb
  replace ri := ri.below hb
  replace rj := rj.below hb
  replace rm := rm.below hb
  replace rn := rn.below hb
  replace HB := onto HB hb
  clear hb
  go_wp2_with fail
  refine (of_any x _ hx0 hx1).mono ?_
  rintro e w23 ⟨adu, nu, cu, lu, rfl, ru, ku, vu, hb⟩
  replace ra := ra.below hb
  replace rb := rb.below hb
  replace rc := rc.below hb
  replace rd := rd.below hb
  replace rq := rq.below hb
  replace rr := rr.below hb
  replace rp := rp.below hb
  replace rl := rl.below hb
  replace re := re.below hb
  replace rf := rf.below hb
  replace rg := rg.below hb
  replace rh := rh.below hb
  replace ri := ri.below hb
  replace rj := rj.below hb
  replace rm := rm.below hb
  replace rn := rn.below hb
  replace HB := onto HB hb
  clear hb
  have Hvu := Lib.hid vu; clear vu
  have bu : lu.length ≤ 2 := ku.len (by rw [Hvu.out]; exact of_small hx0 hx1)
  go_wp2_with fail
  refine (rof_any x _ hx0 hx1).mono ?_
  rintro e w24 ⟨adv, nv, cv, lv, rfl, rv, kv, vv, hb⟩
  replace ra := ra.below hb
  replace rb := rb.below hb
  replace rc := rc.below hb
  replace rd := rd.below hb
  replace rq := rq.below hb
  replace rr := rr.below hb
  replace rp := rp.below hb
  replace rl := rl.below hb
  replace re := re.below hb
  replace rf := rf.below hb
  replace rg := rg.below hb
  replace rh := rh.below hb
  replace ri := ri.below hb
  replace rj := rj.below hb
  replace rm := rm.below hb
  replace rn := rn.below hb
  replace ru := ru.below hb
  replace HB := onto HB hb
  clear hb
  have Hvv := Lib.hid vv; clear vv
  go_wp2_with fail
  refine (same_vals ru rv (by omega) ku kv (Hvu.out.trans Hvv.out.symm)).mono ?_
  rintro e w25 ⟨rfl, hb⟩
  replace ra := ra.below hb
  replace rb := rb.below hb
  replace rc := rc.below hb
  replace rd := rd.below hb
  replace rq := rq.below hb
  replace rr := rr.below hb
  replace rp := rp.below hb
  replace rl := rl.below hb
  replace re := re.below hb
  replace rf := rf.below hb
  replace rg := rg.below hb
  replace rh := rh.below hb
  replace ri := ri.below hb
  replace rj := rj.below hb
  replace rm := rm.below hb
  replace rn := rn.below hb
  replace ru := ru.below hb
  replace rv := rv.below hb
  replace HB := onto HB hb
  clear hb
  go_wp2
  go_ret
  exact ⟨rfl, HB⟩

theorem tells_law {w : World} {va vb : Value} {a b : List Nat} {x : Int} (ra : Rd w va a) (rb : Rd w vb b) (hx : (Lit.int .u64 x).wf = true) : Calls Try.prog 3 #[va, vb, .int .u64 x] w (Samed w true) := by
  obtain ⟨ada, na, ca, rfl, -⟩ := id ra
  obtain ⟨adb, nb, cb, rfl, -⟩ := id rb
  obtain ⟨h0, h1⟩ := u64_bounds hx
  by_cases h : 20 < na ∨ 20 < nb
  · exact tells_great ada adb na ca nb cb x h
  · rcases Nat.eq_zero_or_pos (val b) with hz | hz
    · exact tells_zero ra rb (by omega) (by omega) h0 h1 hz (by omega)
    · rcases Nat.lt_or_ge (val a) (val b) with hl | hl
      · exact tells_less ra rb (by omega) (by omega) h0 h1 hz hl
      · exact tells_more ra rb (by omega) (by omega) h0 h1 hz hl

end Go.Proofs.Ytpijjpjpedcbhaa
