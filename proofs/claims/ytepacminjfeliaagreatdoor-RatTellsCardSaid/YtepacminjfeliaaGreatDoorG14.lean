/-
  A part of the proof: RefTold, RefTimes, RefOrd, RefNumOf, Law3, Great.
-/
import Derived.Test.YtepacminjfeliaaGreatDoorG13
import Derived.Test.YtepacminjfeliaaGreatDoorG12
/-
  The document's Right, told, Add, Sub, Mul, Div, Neg, Cmp and Norm of texts.
-/
namespace Go.Proofs.YtepacminjfeliaaGreatDoor
open Go.RowKit

set_option maxRecDepth 100000 in
set_option maxHeartbeats 8000000 in
theorem qright_any (s : ByteArray) (w : World) (hs : s.size ≤ 1000000) : Calls Tryz.prog 12 #[.string s] w fun e w' => e = .returned (.bool (decide (Good (by0 s)))) ∧ Below w.heap.size w w' := by
  go_enter Tryz.func12, Tryz.ntmps12
  go_wp2_with fail
  refine (get_any s _ hs).mono ?_
  rintro e w1 ⟨hb, hg⟩
  rcases hg with ⟨hg, rfl⟩ | ⟨hg, adp, np, cp, adq, nq, cq, P, Q, rfl, -⟩
  · go_wp2
    go_ret
    exact ⟨by rw [decide_eq_false hg]; rfl, onto hb (alb _ _)⟩
  · go_wp2
    go_ret
    exact ⟨by rw [decide_eq_true hg]; rfl, onto hb (alb _ _)⟩

set_option maxRecDepth 100000 in
set_option maxHeartbeats 8000000 in
theorem told_any {w : World} {vp vq : Value} {P Q : List Nat} (neg : Bool) (rp : Rd w vp P) (rq : Rd w vq Q) (lp : P.length ≤ 450) (lq : Q.length ≤ 450) (hq : val Q ≠ 0) :
    Calls Tryz.prog 36 #[numV neg vp vq] w (RTold w (qv neg (val P) (val Q))) := by
  have HB := alb w (.cells #[.bool neg, vp, vq] 49)
  obtain ⟨adp, np, cp, rfl, -⟩ := id rp
  obtain ⟨adq, nq, cq, rfl, -⟩ := id rq
  replace rp := rp.below HB
  replace rq := rq.below HB
  go_enter Tryz.func36, Tryz.ntmps36
  go_wp2_with fail
  refine (rtxt_any neg rp rq lp lq hq).mono ?_
  rintro e w1 ⟨s, rfl, hs, hb⟩
  replace hb := onto HB hb
  have hlen : s.size = (rtxt (qv neg (val P) (val Q))).length := by rw [← hs, by0_len]
  by_cases hl : 1900 < s.size
  · have z : decide ((1900 : Int) < (s.size : Int)) = true := decide_eq_true (by omega)
    have HL := Lib.hid hl; clear hl
    have HN := Lib.hid hlen; clear hlen
    go_wp2
    go_ret2
    exact ⟨hb, .inr ⟨by rw [← HN.out]; exact HL.out, rfl⟩⟩
  · have z : decide ((1900 : Int) < (s.size : Int)) = false := decide_eq_false (by omega)
    have HL := Lib.hid hl; clear hl
    have HN := Lib.hid hlen; clear hlen
    go_wp2
    go_ret2
    exact ⟨hb, .inl ⟨by rw [← HN.out]; exact Nat.le_of_not_lt HL.out, s, rfl, hs⟩⟩

theorem sum_small {l : List Nat} (h : Can l) {A B C D : List Nat} (hA : Lim A) (hB : Lim B) (hC : Lim C) (hD : Lim D) (lA : A.length ≤ 200) (lB : B.length ≤ 200) (lC : C.length ≤ 200) (lD : D.length ≤ 200) (hv : val l ≤ val A * val D + val C * val B) : l.length ≤ 401 := by
  refine h.len (Nat.lt_of_le_of_lt hv ?_)
  have h1 : val A * val D < pw 200 * pw 200 := Nat.mul_lt_mul_of_lt_of_le (val_small hA lA) (Nat.le_of_lt (val_small hD lD)) (pw_pos 200)
  have h2 : val C * val B < pw 200 * pw 200 := Nat.mul_lt_mul_of_lt_of_le (val_small hC lC) (Nat.le_of_lt (val_small hB lB)) (pw_pos 200)
  rw [← pw_add] at h1 h2
  have h3 : pw (400 + 1) = 4294967296 * pw 400 := pw_succ 400
  show _ < pw (400 + 1)
  rw [h3]
  generalize pw 400 = X at h1 h2 ⊢
  change val A * val D < X at h1
  change val C * val B < X at h2
  omega

set_option maxRecDepth 100000 in
set_option maxHeartbeats 8000000 in
theorem qadd_any (a b : ByteArray) (w : World) (ha : a.size ≤ 1000000) (hb : b.size ≤ 1000000) : Calls Tryz.prog 10 #[.string a, .string b] w (Ans w (Good (by0 a) ∧ Good (by0 b)) (worth (by0 a) + worth (by0 b))) := by
  have HZ := Lib.hid hb; clear hb
  go_enter Tryz.func10, Tryz.ntmps10
  go_wp2_with fail
  refine (get_any a _ ha).mono ?_
  rintro e w1 ⟨hb, hg⟩
  have HB := hb
  clear hb
  rcases hg with ⟨hg, rfl⟩ | ⟨hg, adp, np, cp, adq, nq, cq, P, Q, rfl, rp, rq, kp, kq, vp, vq⟩
  · replace HB := onto HB (alb w1 (.cells #[.bool false, .slice none 0 0, .slice none 0 0] 49))
    go_wp2_with fail
    refine (get_any b _ HZ.out).mono ?_
    rintro e w2 ⟨hb, hk⟩
    replace HB := onto HB hb
    clear hb
    rcases hk with ⟨hk, rfl⟩ | ⟨hk, adr, nr, cr, ads, ns, cs, R, S, rfl, rr, rs, kr, ks, vr, vs⟩
    · go_wp2
      go_ret2
      exact ⟨onto HB (alb _ _), .inl ⟨fun g => hg g.1, rfl⟩⟩
    · go_wp2
      go_ret2
      exact ⟨onto HB (alb _ _), .inl ⟨fun g => hg g.1, rfl⟩⟩
  · have bx : Box3 (w1.alloc (.cells #[.bool (negB (by0 a)), .slice adp np cp, .slice adq nq cq] 49)) w1.heap.size (negB (by0 a)) (.slice adp np cp) (.slice adq nq cq) := heap_alloc_new w1 _
    have hal := alb w1 (.cells #[.bool (negB (by0 a)), .slice adp np cp, .slice adq nq cq] 49)
    replace HB := onto HB hal
    replace rp := rp.below hal
    replace rq := rq.below hal
    clear hal
    go_wp2_with fail
    refine (get_any b _ HZ.out).mono ?_
    rintro e w2 ⟨hb, hk⟩
    replace HB := onto HB hb
    replace rp := rp.below hb
    replace rq := rq.below hb
    replace bx := bx.below hb
    clear hb
    rcases hk with ⟨hk, rfl⟩ | ⟨hk, adr, nr, cr, ads, ns, cs, R, S, rfl, rr, rs, kr, ks, vr, vs⟩
    · go_wp2
      go_ret2
      exact ⟨onto HB (alb _ _), .inl ⟨fun g => hk g.2, rfl⟩⟩
    · have by1 : Box3 (w2.alloc (.cells #[.bool (negB (by0 b)), .slice adr nr cr, .slice ads ns cs] 49)) w2.heap.size (negB (by0 b)) (.slice adr nr cr) (.slice ads ns cs) := heap_alloc_new w2 _
      have hal := alb w2 (.cells #[.bool (negB (by0 b)), .slice adr nr cr, .slice ads ns cs] 49)
      have hlt : w1.heap.size ≠ w2.heap.size := by
        have := lt_heap bx
        omega
      have hin : w.heap.size ≤ w2.heap.size := HB.size
      replace HB := onto HB hal
      replace rp := rp.below hal
      replace rq := rq.below hal
      replace rr := rr.below hal
      replace rs := rs.below hal
      replace bx := bx.below hal
      clear hal
      have lp := ahead_small hg kp vp
      have lq := behind_small hg kq vq
      have lr := ahead_small hk kr vr
      have ls := behind_small hk ks vs
      have Vp := Lib.hid vp; clear vp
      have Vq := Lib.hid vq; clear vq
      have Vr := Lib.hid vr; clear vr
      have Vs := Lib.hid vs; clear vs
      have hq0 := Lib.hid (show val Q ≠ 0 by rw [Vq.out]; exact hg.den)
      have hs0 := Lib.hid (show val S ≠ 0 by rw [Vs.out]; exact hk.den)
      have wa : Hid (worth (by0 a) = qv (negB (by0 a)) (val P) (val Q)) := Lib.hid (by rw [Vp.out, Vq.out, worth_qv])
      have wb : Hid (worth (by0 b) = qv (negB (by0 b)) (val R) (val S)) := Lib.hid (by rw [Vr.out, Vs.out, worth_qv])
      have cx0 := bx.cell0
      have cx1 := bx.cell1
      have cx2 := bx.cell2
      have cy0 := by1.cell0
      have cy1 := by1.cell1
      have cy2 := by1.cell2
      go_wp2_with fail
      refine (rsum_any _ _ rp rq rr rs (by omega) (by omega) (by omega) (by omega) hq0.out hs0.out).mono ?_
      rintro e w3 ⟨neg, ad, n, c, l, ad2, n2, c2, l2, rfl, r1, k1, r2, k2, v2, hv, hs, hb⟩
      replace HB := onto HB hb
      clear hb
      have j1 := sum_small k1 rp.lim rq.lim rr.lim rs.lim lp lq lr ls hv
      have j2 := mul_small k2 rq.lim rs.lim lq ls v2
      have hd := Lib.hid (show val l2 ≠ 0 by rw [v2]; exact Nat.mul_ne_zero hq0.out hs0.out)
      have HS := Lib.hid (show qv neg (val l) (val l2) = worth (by0 a) + worth (by0 b) by rw [v2, wa.out, wb.out]; exact hs)
      clear hv hs v2
      go_wp2_with fail
      refine (told_any _ r1 r2 (by omega) (by omega) hd.out).mono ?_
      rintro e w4 ⟨hb, hh⟩
      replace HB := onto HB hb
      clear hb
      rw [HS.out] at hh
      rcases hh with ⟨hl, t, rfl, ht⟩ | ⟨hl, rfl⟩
      · go_wp2
        go_ret2
        exact ⟨HB, .inr ⟨⟨hg, hk⟩, .inl ⟨hl, t, rfl, ht⟩⟩⟩
      · go_wp2
        go_ret2
        exact ⟨HB, .inr ⟨⟨hg, hk⟩, .inr ⟨hl, rfl⟩⟩⟩

set_option maxRecDepth 100000 in
set_option maxHeartbeats 8000000 in
theorem qsub_any (a b : ByteArray) (w : World) (ha : a.size ≤ 1000000) (hb : b.size ≤ 1000000) : Calls Tryz.prog 16 #[.string a, .string b] w (Ans w (Good (by0 a) ∧ Good (by0 b)) (worth (by0 a) - worth (by0 b))) := by
  have HZ := Lib.hid hb; clear hb
  go_enter Tryz.func16, Tryz.ntmps16
  go_wp2_with fail
  refine (get_any a _ ha).mono ?_
  rintro e w1 ⟨hb, hg⟩
  have HB := hb
  clear hb
  rcases hg with ⟨hg, rfl⟩ | ⟨hg, adp, np, cp, adq, nq, cq, P, Q, rfl, rp, rq, kp, kq, vp, vq⟩
  · replace HB := onto HB (alb w1 (.cells #[.bool false, .slice none 0 0, .slice none 0 0] 49))
    go_wp2_with fail
    refine (get_any b _ HZ.out).mono ?_
    rintro e w2 ⟨hb, hk⟩
    replace HB := onto HB hb
    clear hb
    rcases hk with ⟨hk, rfl⟩ | ⟨hk, adr, nr, cr, ads, ns, cs, R, S, rfl, rr, rs, kr, ks, vr, vs⟩
    · go_wp2
      go_ret2
      exact ⟨onto HB (alb _ _), .inl ⟨fun g => hg g.1, rfl⟩⟩
    · go_wp2
      go_ret2
      exact ⟨onto HB (alb _ _), .inl ⟨fun g => hg g.1, rfl⟩⟩
  · have bx : Box3 (w1.alloc (.cells #[.bool (negB (by0 a)), .slice adp np cp, .slice adq nq cq] 49)) w1.heap.size (negB (by0 a)) (.slice adp np cp) (.slice adq nq cq) := heap_alloc_new w1 _
    have hal := alb w1 (.cells #[.bool (negB (by0 a)), .slice adp np cp, .slice adq nq cq] 49)
    replace HB := onto HB hal
    replace rp := rp.below hal
    replace rq := rq.below hal
    clear hal
    go_wp2_with fail
    refine (get_any b _ HZ.out).mono ?_
    rintro e w2 ⟨hb, hk⟩
    replace HB := onto HB hb
    replace rp := rp.below hb
    replace rq := rq.below hb
    replace bx := bx.below hb
    clear hb
    rcases hk with ⟨hk, rfl⟩ | ⟨hk, adr, nr, cr, ads, ns, cs, R, S, rfl, rr, rs, kr, ks, vr, vs⟩
    · go_wp2
      go_ret2
      exact ⟨onto HB (alb _ _), .inl ⟨fun g => hk g.2, rfl⟩⟩
    · have by1 : Box3 (w2.alloc (.cells #[.bool (!(negB (by0 b))), .slice adr nr cr, .slice ads ns cs] 49)) w2.heap.size (!(negB (by0 b))) (.slice adr nr cr) (.slice ads ns cs) := heap_alloc_new w2 _
      have hal := alb w2 (.cells #[.bool (!(negB (by0 b))), .slice adr nr cr, .slice ads ns cs] 49)
      have hlt : w1.heap.size ≠ w2.heap.size := by
        have := lt_heap bx
        omega
      have hin : w.heap.size ≤ w2.heap.size := HB.size
      replace HB := onto HB hal
      replace rp := rp.below hal
      replace rq := rq.below hal
      replace rr := rr.below hal
      replace rs := rs.below hal
      replace bx := bx.below hal
      clear hal
      have lp := ahead_small hg kp vp
      have lq := behind_small hg kq vq
      have lr := ahead_small hk kr vr
      have ls := behind_small hk ks vs
      have Vp := Lib.hid vp; clear vp
      have Vq := Lib.hid vq; clear vq
      have Vr := Lib.hid vr; clear vr
      have Vs := Lib.hid vs; clear vs
      have hq0 := Lib.hid (show val Q ≠ 0 by rw [Vq.out]; exact hg.den)
      have hs0 := Lib.hid (show val S ≠ 0 by rw [Vs.out]; exact hk.den)
      have wa : Hid (worth (by0 a) = qv (negB (by0 a)) (val P) (val Q)) := Lib.hid (by rw [Vp.out, Vq.out, worth_qv])
      have wb : Hid (worth (by0 b) = qv (negB (by0 b)) (val R) (val S)) := Lib.hid (by rw [Vr.out, Vs.out, worth_qv])
      have cx0 := bx.cell0
      have cx1 := bx.cell1
      have cx2 := bx.cell2
      go_wp2_with fail
      refine (rsum_any _ _ rp rq rr rs (by omega) (by omega) (by omega) (by omega) hq0.out hs0.out).mono ?_
      rintro e w3 ⟨neg, ad, n, c, l, ad2, n2, c2, l2, rfl, r1, k1, r2, k2, v2, hv, hs, hb⟩
      replace HB := onto HB hb
      clear hb
      have j1 := sum_small k1 rp.lim rq.lim rr.lim rs.lim lp lq lr ls hv
      have j2 := mul_small k2 rq.lim rs.lim lq ls v2
      have hd := Lib.hid (show val l2 ≠ 0 by rw [v2]; exact Nat.mul_ne_zero hq0.out hs0.out)
      have HS := Lib.hid (show qv neg (val l) (val l2) = worth (by0 a) - worth (by0 b) by rw [v2, Rat.sub_eq_add_neg, wa.out, wb.out, qv_neg]; exact hs)
      clear hv hs v2
      go_wp2_with fail
      refine (told_any _ r1 r2 (by omega) (by omega) hd.out).mono ?_
      rintro e w4 ⟨hb, hh⟩
      replace HB := onto HB hb
      clear hb
      rw [HS.out] at hh
      rcases hh with ⟨hl, t, rfl, ht⟩ | ⟨hl, rfl⟩
      · go_wp2
        go_ret2
        exact ⟨HB, .inr ⟨⟨hg, hk⟩, .inl ⟨hl, t, rfl, ht⟩⟩⟩
      · go_wp2
        go_ret2
        exact ⟨HB, .inr ⟨⟨hg, hk⟩, .inr ⟨hl, rfl⟩⟩⟩

end Go.Proofs.YtepacminjfeliaaGreatDoor

/-
  The document's Mul and Div of texts.
-/
namespace Go.Proofs.YtepacminjfeliaaGreatDoor
open Go.RowKit

theorem OverS.six {w0 : World} {g k : Nat} {na nb : Bool} {vp vq vr vs : Value} {P Q R S : List Nat} {W : World} (h : OverS w0 g k na nb vp vq vr vs P Q R S W) :
    (W.cell? ⟨g, 0, none⟩ = some (.bool na) ∧ W.cell? ⟨g, 1, none⟩ = some vp ∧ W.cell? ⟨g, 2, none⟩ = some vq ∧ W.cell? ⟨k, 0, none⟩ = some (.bool nb) ∧ W.cell? ⟨k, 1, none⟩ = some vr ∧ W.cell? ⟨k, 2, none⟩ = some vs) ∧ OverS w0 g k na nb vp vq vr vs P Q R S W :=
  ⟨⟨h.1.cell0, h.1.cell1, h.1.cell2, h.2.1.cell0, h.2.1.cell1, h.2.1.cell2⟩, h⟩

theorem told_is {w : World} {vp vq : Value} {P Q : List Nat} (neg : Bool) (rp : Rd w vp P) (rq : Rd w vq Q) (lp : P.length ≤ 450) (lq : Q.length ≤ 450) (hq : val Q ≠ 0) :
    Calls Tryz.prog 36 #[numV neg vp vq] w fun e w' => ∃ t n, e = .returned (.tuple #[.string t, .int .i64 n]) ∧ ToldIs (qv neg (val P) (val Q)) t n ∧ Below w.heap.size w w' :=
  (told_any neg rp rq lp lq hq).mono fun e w' h => by
    obtain ⟨hb, ⟨h1, t, h2, h3⟩ | ⟨h1, h2⟩⟩ := h
    · exact ⟨t, 0, h2, .inl ⟨h1, h3, rfl⟩, hb⟩
    · exact ⟨⟨#[]⟩, 2, h2, .inr ⟨h1, rfl, rfl⟩, hb⟩

set_option maxRecDepth 100000 in
set_option maxHeartbeats 8000000 in
theorem qmul_any (a b : ByteArray) (w : World) (ha : a.size ≤ 1000000) (hb : b.size ≤ 1000000) : Calls Tryz.prog 18 #[.string a, .string b] w (Ans w (Good (by0 a) ∧ Good (by0 b)) (worth (by0 a) * worth (by0 b))) := by
  have HZ := Lib.hid hb; clear hb
  go_enter Tryz.func18, Tryz.ntmps18
  go_wp2_with fail
  refine (get_any a _ ha).mono ?_
  rintro e w1 ⟨hb, hg⟩
  have HB := hb
  clear hb
  rcases hg with ⟨hg, rfl⟩ | ⟨hg, adp, np, cp, adq, nq, cq, P, Q, rfl, rp, rq, kp, kq, vp, vq⟩
  · replace HB := onto HB (alb w1 (.cells #[.bool false, .slice none 0 0, .slice none 0 0] 49))
    go_wp2_with fail
    refine (get_any b _ HZ.out).mono ?_
    rintro e w2 ⟨hb, hk⟩
    replace HB := onto HB hb
    clear hb
    rcases hk with ⟨hk, rfl⟩ | ⟨hk, adr, nr, cr, ads, ns, cs, R, S, rfl, rr, rs, kr, ks, vr, vs⟩
    · go_wp2
      go_ret2
      exact ⟨onto HB (alb _ _), .inl ⟨fun g => hg g.1, rfl⟩⟩
    · go_wp2
      go_ret2
      exact ⟨onto HB (alb _ _), .inl ⟨fun g => hg g.1, rfl⟩⟩
  · have bx : Box3 (w1.alloc (.cells #[.bool (negB (by0 a)), .slice adp np cp, .slice adq nq cq] 49)) w1.heap.size (negB (by0 a)) (.slice adp np cp) (.slice adq nq cq) := heap_alloc_new w1 _
    have hal := alb w1 (.cells #[.bool (negB (by0 a)), .slice adp np cp, .slice adq nq cq] 49)
    replace HB := onto HB hal
    replace rp := rp.below hal
    replace rq := rq.below hal
    clear hal
    go_wp2_with fail
    refine (get_any b _ HZ.out).mono ?_
    rintro e w2 ⟨hb, hk⟩
    replace HB := onto HB hb
    replace rp := rp.below hb
    replace rq := rq.below hb
    replace bx := bx.below hb
    clear hb
    rcases hk with ⟨hk, rfl⟩ | ⟨hk, adr, nr, cr, ads, ns, cs, R, S, rfl, rr, rs, kr, ks, vr, vs⟩
    · go_wp2
      go_ret2
      exact ⟨onto HB (alb _ _), .inl ⟨fun g => hk g.2, rfl⟩⟩
    · have by1 : Box3 (w2.alloc (.cells #[.bool (negB (by0 b)), .slice adr nr cr, .slice ads ns cs] 49)) w2.heap.size (negB (by0 b)) (.slice adr nr cr) (.slice ads ns cs) := heap_alloc_new w2 _
      have hal := alb w2 (.cells #[.bool (negB (by0 b)), .slice adr nr cr, .slice ads ns cs] 49)
      have hlt : w1.heap.size ≠ w2.heap.size := by
        have := lt_heap bx
        omega
      have hin : w.heap.size ≤ w2.heap.size := HB.size
      replace HB := onto HB hal
      replace rp := rp.below hal
      replace rq := rq.below hal
      replace rr := rr.below hal
      replace rs := rs.below hal
      replace bx := bx.below hal
      clear hal
      have lp := ahead_small hg kp vp
      have lq := behind_small hg kq vq
      have lr := ahead_small hk kr vr
      have ls := behind_small hk ks vs
      have Vp := Lib.hid vp; clear vp
      have Vq := Lib.hid vq; clear vq
      have Vr := Lib.hid vr; clear vr
      have Vs := Lib.hid vs; clear vs
      have hq0 := Lib.hid (show val Q ≠ 0 by rw [Vq.out]; exact hg.den)
      have hs0 := Lib.hid (show val S ≠ 0 by rw [Vs.out]; exact hk.den)
      have wa : Hid (worth (by0 a) = qv (negB (by0 a)) (val P) (val Q)) := Lib.hid (by rw [Vp.out, Vq.out, worth_qv])
      have wb : Hid (worth (by0 b) = qv (negB (by0 b)) (val R) (val S)) := Lib.hid (by rw [Vr.out, Vs.out, worth_qv])
      have mp := rp.lim
      have mq := rq.lim
      have mr := rr.lim
      have ms := rs.lim
      have hS0 : OverS w w1.heap.size w2.heap.size (negB (by0 a)) (negB (by0 b)) (.slice adp np cp) (.slice adq nq cq) (.slice adr nr cr) (.slice ads ns cs) P Q R S (w2.alloc (.cells #[.bool (negB (by0 b)), .slice adr nr cr, .slice ads ns cs] 49)) := ⟨bx, by1, rp, rq, rr, rs, HB⟩
      have hS1 := hS0.below (bel_drew (Below.refl _ _))
      clear rp rq rr rs HB by1 bx
      have hcs := hS0.six.1
      obtain ⟨cx0, cx1, cx2, cy0, cy1, cy2⟩ := hcs
      go_wp2_with fail
      clear cx0 cx1 cx2 cy0 cy1 cy2
      go_region_held3 (fun W => (W.cell? ⟨w1.heap.size, 0, none⟩ = some (.bool (negB (by0 a))) ∧ W.cell? ⟨w1.heap.size, 1, none⟩ = some (.slice adp np cp) ∧ W.cell? ⟨w1.heap.size, 2, none⟩ = some (.slice adq nq cq) ∧ W.cell? ⟨w2.heap.size, 0, none⟩ = some (.bool (negB (by0 b))) ∧ W.cell? ⟨w2.heap.size, 1, none⟩ = some (.slice adr nr cr) ∧ W.cell? ⟨w2.heap.size, 2, none⟩ = some (.slice ads ns cs)) ∧ OverS w w1.heap.size w2.heap.size (negB (by0 a)) (negB (by0 b)) (.slice adp np cp) (.slice adq nq cq) (.slice adr nr cr) (.slice ads ns cs) P Q R S W)
        ((exact OverS.six (by assumption)))
        ((first
          | ((go_split_ands; go_at_call 45; (with_reducible (show Calls _ _ #[.slice adp np cp, .slice adr nr cr] _ _)); refine (rmul_any (va := .slice adp np cp) (vb := .slice adr nr cr) (OverS.rp (by assumption)) (OverS.rr (by assumption)) (by omega) (by omega)).mono ?_; rintro e u1 ⟨ad1, n1, c1, l1, rfl, -, r1, k1, v1, b1⟩; (try replace r2 := r2.below b1); have hS1 : OverS w w1.heap.size w2.heap.size (negB (by0 a)) (negB (by0 b)) (.slice adp np cp) (.slice adq nq cq) (.slice adr nr cr) (.slice ads ns cs) P Q R S u1 := OverS.below (by assumption) b1; have j1 := mul_small k1 mp mr lp lr v1))
          | ((go_split_ands; go_at_call 45; (with_reducible (show Calls _ _ #[.slice adq nq cq, .slice ads ns cs] _ _)); refine (rmul_any (va := .slice adq nq cq) (vb := .slice ads ns cs) (OverS.rq (by assumption)) (OverS.rs (by assumption)) (by omega) (by omega)).mono ?_; rintro e u2 ⟨ad2, n2, c2, l2, rfl, -, r2, k2, v2, b2⟩; (try replace r1 := r1.below b2); have hS2 : OverS w w1.heap.size w2.heap.size (negB (by0 a)) (negB (by0 b)) (.slice adp np cp) (.slice adq nq cq) (.slice adr nr cr) (.slice ads ns cs) P Q R S u2 := OverS.below (by assumption) b2; have j2 := mul_small k2 mq ms lq ls v2; have hd : val l2 ≠ 0 := by rw [v2]; exact Nat.mul_ne_zero hq0.out hs0.out))
          | ((go_split_ands; go_at_call 36; refine (told_is _ r1 r2 (by omega) (by omega) hd).mono ?_; rintro e u3 ⟨t, n, rfl, hh, b3⟩; have hS3 : OverS w w1.heap.size w2.heap.size (negB (by0 a)) (negB (by0 b)) (.slice adp np cp) (.slice adq nq cq) (.slice adr nr cr) (.slice ads ns cs) P Q R S u3 := OverS.below (by assumption) b3))))
      all_goals
        go_wp2
        go_ret2
        refine ToldIs.ans (q := worth (by0 a) * worth (by0 b)) ?_ hS3.bel ⟨hg, hk⟩
        rw [show worth (by0 a) * worth (by0 b) = _ from by rw [wa.out, wb.out, qv_mul], ← v1, ← v2]
        exact hh

set_option maxRecDepth 100000 in
set_option maxHeartbeats 8000000 in
theorem qdiv_any (a b : ByteArray) (w : World) (ha : a.size ≤ 1000000) (hb : b.size ≤ 1000000) : Calls Tryz.prog 20 #[.string a, .string b] w (AnsDiv w (Good (by0 a) ∧ Good (by0 b)) (worth (by0 b)) (worth (by0 a) / worth (by0 b))) := by
  have HZ := Lib.hid hb; clear hb
  go_enter Tryz.func20, Tryz.ntmps20
  go_wp2_with fail
  refine (get_any a _ ha).mono ?_
  rintro e w1 ⟨hb, hg⟩
  have HB := hb
  clear hb
  rcases hg with ⟨hg, rfl⟩ | ⟨hg, adp, np, cp, adq, nq, cq, P, Q, rfl, rp, rq, kp, kq, vp, vq⟩
  · replace HB := onto HB (alb w1 (.cells #[.bool false, .slice none 0 0, .slice none 0 0] 49))
    go_wp2_with fail
    refine (get_any b _ HZ.out).mono ?_
    rintro e w2 ⟨hb, hk⟩
    replace HB := onto HB hb
    clear hb
    rcases hk with ⟨hk, rfl⟩ | ⟨hk, adr, nr, cr, ads, ns, cs, R, S, rfl, rr, rs, kr, ks, vr, vs⟩
    · go_wp2
      go_ret2
      exact ⟨onto HB (alb _ _), .inl ⟨fun g => hg g.1, rfl⟩⟩
    · go_wp2
      go_ret2
      exact ⟨onto HB (alb _ _), .inl ⟨fun g => hg g.1, rfl⟩⟩
  · have bx : Box3 (w1.alloc (.cells #[.bool (negB (by0 a)), .slice adp np cp, .slice adq nq cq] 49)) w1.heap.size (negB (by0 a)) (.slice adp np cp) (.slice adq nq cq) := heap_alloc_new w1 _
    have hal := alb w1 (.cells #[.bool (negB (by0 a)), .slice adp np cp, .slice adq nq cq] 49)
    replace HB := onto HB hal
    replace rp := rp.below hal
    replace rq := rq.below hal
    clear hal
    go_wp2_with fail
    refine (get_any b _ HZ.out).mono ?_
    rintro e w2 ⟨hb, hk⟩
    replace HB := onto HB hb
    replace rp := rp.below hb
    replace rq := rq.below hb
    replace bx := bx.below hb
    clear hb
    rcases hk with ⟨hk, rfl⟩ | ⟨hk, adr, nr, cr, ads, ns, cs, R, S, rfl, rr, rs, kr, ks, vr, vs⟩
    · go_wp2
      go_ret2
      exact ⟨onto HB (alb _ _), .inl ⟨fun g => hk g.2, rfl⟩⟩
    · have by1 : Box3 (w2.alloc (.cells #[.bool (negB (by0 b)), .slice adr nr cr, .slice ads ns cs] 49)) w2.heap.size (negB (by0 b)) (.slice adr nr cr) (.slice ads ns cs) := heap_alloc_new w2 _
      have hal := alb w2 (.cells #[.bool (negB (by0 b)), .slice adr nr cr, .slice ads ns cs] 49)
      have hlt : w1.heap.size ≠ w2.heap.size := by
        have := lt_heap bx
        omega
      have hin : w.heap.size ≤ w2.heap.size := HB.size
      replace HB := onto HB hal
      replace rp := rp.below hal
      replace rq := rq.below hal
      replace rr := rr.below hal
      replace rs := rs.below hal
      replace bx := bx.below hal
      clear hal
      have lp := ahead_small hg kp vp
      have lq := behind_small hg kq vq
      have lr := ahead_small hk kr vr
      have ls := behind_small hk ks vs
      have Vp := Lib.hid vp; clear vp
      have Vq := Lib.hid vq; clear vq
      have Vr := Lib.hid vr; clear vr
      have Vs := Lib.hid vs; clear vs
      have hq0 := Lib.hid (show val Q ≠ 0 by rw [Vq.out]; exact hg.den)
      have hs0 := Lib.hid (show val S ≠ 0 by rw [Vs.out]; exact hk.den)
      have wa : Hid (worth (by0 a) = qv (negB (by0 a)) (val P) (val Q)) := Lib.hid (by rw [Vp.out, Vq.out, worth_qv])
      have wb : Hid (worth (by0 b) = qv (negB (by0 b)) (val R) (val S)) := Lib.hid (by rw [Vr.out, Vs.out, worth_qv])
      have hnr := len_zero rr kr
      have hwz : Hid (worth (by0 b) = 0 ↔ val R = 0) := Lib.hid (by rw [wb.out, qv_zero _ _ hs0.out])
      by_cases h0 : nr = 0
      · have hz := Lib.hid (hwz.out.2 (hnr.1 h0))
        have z0 : ((nr : Int) == 0) = true := by simp; omega
        have cy1 := by1.cell1
        clear hnr hwz h0
        go_wp2
        go_ret2
        exact ⟨HB, .inr (.inl ⟨⟨hg, hk⟩, hz.out, rfl⟩)⟩
      have hr0 := Lib.hid (show val R ≠ 0 from fun h => h0 (hnr.2 h))
      have hz := Lib.hid (show worth (by0 b) ≠ 0 from fun h => hr0.out (hwz.out.1 h))
      have z0 : ((nr : Int) == 0) = false := by simp; omega
      clear hnr hwz h0
      have mp := rp.lim
      have mq := rq.lim
      have mr := rr.lim
      have ms := rs.lim
      have hS0 : OverS w w1.heap.size w2.heap.size (negB (by0 a)) (negB (by0 b)) (.slice adp np cp) (.slice adq nq cq) (.slice adr nr cr) (.slice ads ns cs) P Q R S (w2.alloc (.cells #[.bool (negB (by0 b)), .slice adr nr cr, .slice ads ns cs] 49)) := ⟨bx, by1, rp, rq, rr, rs, HB⟩
      have hS1 := hS0.below (bel_drew (Below.refl _ _))
      clear rp rq rr rs HB by1 bx
      have hcs := hS0.six.1
      obtain ⟨cx0, cx1, cx2, cy0, cy1, cy2⟩ := hcs
      go_wp2_with fail
      clear cx0 cx1 cx2 cy0 cy1 cy2
      go_region_held3 (fun W => (W.cell? ⟨w1.heap.size, 0, none⟩ = some (.bool (negB (by0 a))) ∧ W.cell? ⟨w1.heap.size, 1, none⟩ = some (.slice adp np cp) ∧ W.cell? ⟨w1.heap.size, 2, none⟩ = some (.slice adq nq cq) ∧ W.cell? ⟨w2.heap.size, 0, none⟩ = some (.bool (negB (by0 b))) ∧ W.cell? ⟨w2.heap.size, 1, none⟩ = some (.slice adr nr cr) ∧ W.cell? ⟨w2.heap.size, 2, none⟩ = some (.slice ads ns cs)) ∧ OverS w w1.heap.size w2.heap.size (negB (by0 a)) (negB (by0 b)) (.slice adp np cp) (.slice adq nq cq) (.slice adr nr cr) (.slice ads ns cs) P Q R S W)
        ((exact OverS.six (by assumption)))
        ((first
          | ((go_split_ands; go_at_call 45; (with_reducible (show Calls _ _ #[.slice adp np cp, .slice ads ns cs] _ _)); refine (rmul_any (va := .slice adp np cp) (vb := .slice ads ns cs) (OverS.rp (by assumption)) (OverS.rs (by assumption)) (by omega) (by omega)).mono ?_; rintro e u1 ⟨ad1, n1, c1, l1, rfl, -, r1, k1, v1, b1⟩; (try replace r2 := r2.below b1); have hS1 : OverS w w1.heap.size w2.heap.size (negB (by0 a)) (negB (by0 b)) (.slice adp np cp) (.slice adq nq cq) (.slice adr nr cr) (.slice ads ns cs) P Q R S u1 := OverS.below (by assumption) b1; have j1 := mul_small k1 mp ms lp ls v1))
          | ((go_split_ands; go_at_call 45; (with_reducible (show Calls _ _ #[.slice adq nq cq, .slice adr nr cr] _ _)); refine (rmul_any (va := .slice adq nq cq) (vb := .slice adr nr cr) (OverS.rq (by assumption)) (OverS.rr (by assumption)) (by omega) (by omega)).mono ?_; rintro e u2 ⟨ad2, n2, c2, l2, rfl, -, r2, k2, v2, b2⟩; (try replace r1 := r1.below b2); have hS2 : OverS w w1.heap.size w2.heap.size (negB (by0 a)) (negB (by0 b)) (.slice adp np cp) (.slice adq nq cq) (.slice adr nr cr) (.slice ads ns cs) P Q R S u2 := OverS.below (by assumption) b2; have j2 := mul_small k2 mq mr lq lr v2; have hd : val l2 ≠ 0 := by rw [v2]; exact Nat.mul_ne_zero hq0.out hr0.out))
          | ((go_split_ands; go_at_call 36; refine (told_is _ r1 r2 (by omega) (by omega) hd).mono ?_; rintro e u3 ⟨t, n, rfl, hh, b3⟩; have hS3 : OverS w w1.heap.size w2.heap.size (negB (by0 a)) (negB (by0 b)) (.slice adp np cp) (.slice adq nq cq) (.slice adr nr cr) (.slice ads ns cs) P Q R S u3 := OverS.below (by assumption) b3))))
      all_goals
        go_wp2
        go_ret2
        refine ⟨hS3.bel, .inr (.inr ⟨hz.out, ?_⟩)⟩
        refine ToldIs.ans (q := worth (by0 a) / worth (by0 b)) ?_ hS3.bel ⟨hg, hk⟩
        rw [show worth (by0 a) / worth (by0 b) = _ from by rw [wa.out, wb.out, qv_div _ _ _ hq0.out hr0.out hs0.out], ← v1, ← v2]
        exact hh

end Go.Proofs.YtepacminjfeliaaGreatDoor

/-
  The document's Cmp of texts.
-/
namespace Go.Proofs.YtepacminjfeliaaGreatDoor
open Go.RowKit

set_option maxRecDepth 100000 in
set_option maxHeartbeats 8000000 in
theorem qcmp_any (a b : ByteArray) (w : World) (ha : a.size ≤ 1000000) (hb : b.size ≤ 1000000) : Calls Tryz.prog 14 #[.string a, .string b] w (Compd w (Good (by0 a) ∧ Good (by0 b)) (worth (by0 a)) (worth (by0 b))) := by
  have HZ := Lib.hid hb; clear hb
  go_enter Tryz.func14, Tryz.ntmps14
  go_wp2_with fail
  refine (get_any a _ ha).mono ?_
  rintro e w1 ⟨hb, hg⟩
  have HB := hb
  clear hb
  rcases hg with ⟨hg, rfl⟩ | ⟨hg, adp, np, cp, adq, nq, cq, P, Q, rfl, rp, rq, kp, kq, vp, vq⟩
  · replace HB := onto HB (alb w1 (.cells #[.bool false, .slice none 0 0, .slice none 0 0] 49))
    go_wp2_with fail
    refine (get_any b _ HZ.out).mono ?_
    rintro e w2 ⟨hb, hk⟩
    replace HB := onto HB hb
    clear hb
    rcases hk with ⟨hk, rfl⟩ | ⟨hk, adr, nr, cr, ads, ns, cs, R, S, rfl, rr, rs, kr, ks, vr, vs⟩
    · go_wp2
      go_ret
      exact ⟨onto HB (alb _ _), .inl ⟨fun g => hg g.1, rfl⟩⟩
    · go_wp2
      go_ret
      exact ⟨onto HB (alb _ _), .inl ⟨fun g => hg g.1, rfl⟩⟩
  · have bx : Box3 (w1.alloc (.cells #[.bool (negB (by0 a)), .slice adp np cp, .slice adq nq cq] 49)) w1.heap.size (negB (by0 a)) (.slice adp np cp) (.slice adq nq cq) := heap_alloc_new w1 _
    have hal := alb w1 (.cells #[.bool (negB (by0 a)), .slice adp np cp, .slice adq nq cq] 49)
    replace HB := onto HB hal
    replace rp := rp.below hal
    replace rq := rq.below hal
    clear hal
    go_wp2_with fail
    refine (get_any b _ HZ.out).mono ?_
    rintro e w2 ⟨hb, hk⟩
    replace HB := onto HB hb
    replace rp := rp.below hb
    replace rq := rq.below hb
    replace bx := bx.below hb
    clear hb
    rcases hk with ⟨hk, rfl⟩ | ⟨hk, adr, nr, cr, ads, ns, cs, R, S, rfl, rr, rs, kr, ks, vr, vs⟩
    · go_wp2
      go_ret
      exact ⟨onto HB (alb _ _), .inl ⟨fun g => hk g.2, rfl⟩⟩
    · have by1 : Box3 (w2.alloc (.cells #[.bool (negB (by0 b)), .slice adr nr cr, .slice ads ns cs] 49)) w2.heap.size (negB (by0 b)) (.slice adr nr cr) (.slice ads ns cs) := heap_alloc_new w2 _
      have hal := alb w2 (.cells #[.bool (negB (by0 b)), .slice adr nr cr, .slice ads ns cs] 49)
      have hlt : w1.heap.size ≠ w2.heap.size := by
        have := lt_heap bx
        omega
      have hin : w.heap.size ≤ w2.heap.size := HB.size
      replace HB := onto HB hal
      replace rp := rp.below hal
      replace rq := rq.below hal
      replace rr := rr.below hal
      replace rs := rs.below hal
      replace bx := bx.below hal
      clear hal
      have lp := ahead_small hg kp vp
      have lq := behind_small hg kq vq
      have lr := ahead_small hk kr vr
      have ls := behind_small hk ks vs
      have Vp := Lib.hid vp; clear vp
      have Vq := Lib.hid vq; clear vq
      have Vr := Lib.hid vr; clear vr
      have Vs := Lib.hid vs; clear vs
      have hq0 := Lib.hid (show val Q ≠ 0 by rw [Vq.out]; exact hg.den)
      have hs0 := Lib.hid (show val S ≠ 0 by rw [Vs.out]; exact hk.den)
      have wa : Hid (worth (by0 a) = qv (negB (by0 a)) (val P) (val Q)) := Lib.hid (by rw [Vp.out, Vq.out, worth_qv])
      have wb : Hid (worth (by0 b) = qv (negB (by0 b)) (val R) (val S)) := Lib.hid (by rw [Vr.out, Vs.out, worth_qv])
      have na0 := Lib.hid (show negB (by0 a) = true → val P ≠ 0 from fun h => by rw [Vp.out]; exact hg.neg h)
      have nb0 := Lib.hid (show negB (by0 b) = true → val R ≠ 0 from fun h => by rw [Vr.out]; exact hk.neg h)
      have HX : Hid (∀ r : Int, cmpQ (qv (negB (by0 a)) (val P) (val Q)) (qv (negB (by0 b)) (val R) (val S)) = r → ∀ w' : World, Below w.heap.size w w' → Compd w (Good (by0 a) ∧ Good (by0 b)) (worth (by0 a)) (worth (by0 b)) (.returned (.int .i64 r)) w') := Lib.hid (fun r h w' k => ⟨k, .inr ⟨⟨hg, hk⟩, by rw [wa.out, wb.out, h]⟩⟩)
      clear wa wb Vp Vr Vq Vs
      generalize negB (by0 a) = na at bx rp rq rr rs HB by1 na0 HX ⊢
      generalize negB (by0 b) = nb at bx rp rq rr rs HB by1 nb0 HX ⊢
      have cx0 := bx.cell0
      have cx1 := bx.cell1
      have cx2 := bx.cell2
      go_wp2_with fail
      refine (rover_any _ _ rp rq rr rs (by omega) (by omega) (by omega) (by omega)).mono ?_
      rintro e w3 ⟨ad1, n1, c1, l1, ad2, n2, c2, l2, ad3, n3, c3, l3, rfl, r1, k1, v1, r2, k2, v2, -, -, -, hb⟩
      have j1 := mul_small k1 rp.lim rs.lim lp ls v1
      have j2 := mul_small k2 rr.lim rq.lim lr lq v2
      replace HB := onto HB hb
      replace bx := bx.below hb
      replace by1 := by1.below hb
      clear hb cx0 cx1 cx2
      have V1 := Lib.hid v1; clear v1
      have V2 := Lib.hid v2; clear v2
      have cx0 := bx.cell0
      have cy0 := by1.cell0
      cases na <;> cases nb
      · go_wp2_with fail
        refine (rcmp_any r1 r2 (by omega) (by omega)).mono ?_
        rintro e w4 ⟨rfl, hb⟩
        replace HB := onto HB hb
        replace bx := bx.below hb
        have cz0 := bx.cell0
        have hr := Lib.hid (HX.out _ (cmp_pos (val P) (val R) hq0.out hs0.out))
        rw [V1.out, V2.out]
        generalize tell (val P * val S) (val R * val Q) = r at hr ⊢
        go_wp2
        go_ret
        exact hr.out _ HB
      · have hr := Lib.hid (HX.out _ (cmp_pn (val P) hq0.out hs0.out (nb0.out rfl)))
        go_wp2
        go_ret
        exact hr.out _ HB
      · have hr := Lib.hid (HX.out _ (cmp_np (val R) hq0.out hs0.out (na0.out rfl)))
        go_wp2
        go_ret
        exact hr.out _ HB
      · go_wp2_with fail
        refine (rcmp_any r1 r2 (by omega) (by omega)).mono ?_
        rintro e w4 ⟨rfl, hb⟩
        replace HB := onto HB hb
        replace bx := bx.below hb
        have cz0 := bx.cell0
        have hr := Lib.hid (HX.out _ (cmp_neg (val P) (val R) hq0.out hs0.out))
        rw [V1.out, V2.out]
        have ht : tell (val P * val S) (val R * val Q) = 1 ∨ tell (val P * val S) (val R * val Q) = 0 ∨ tell (val P * val S) (val R * val Q) = -1 := by
          unfold tell; split <;> (try split) <;> simp
        generalize tell (val P * val S) (val R * val Q) = r at hr ht ⊢
        rcases ht with rfl | rfl | rfl
        all_goals
          go_wp2
          go_ret
          exact hr.out _ HB

end Go.Proofs.YtepacminjfeliaaGreatDoor

/-
  The document's Norm of a text, and its Neg. The text has 1000000 bytes at most.
-/
namespace Go.Proofs.YtepacminjfeliaaGreatDoor
open Go.RowKit

set_option maxRecDepth 100000 in
set_option maxHeartbeats 8000000 in
theorem qnorm_any (s : ByteArray) (w : World) (hs : s.size ≤ 1000000) : Calls Tryz.prog 8 #[.string s] w (Normd w (by0 s)) := by
  have HB := Below.refl w.heap.size w
  have HS := Lib.hid hs; clear hs
  have hsa := Lib.hid (aheadS_size s)
  have hsb := Lib.hid (behindS_size s)
  have hlen := Lib.hid (by0_len s)
  go_enter Tryz.func8, Tryz.ntmps8
  go_wp2_with fail
  refine (cut_any s _ HS.out).mono ?_
  rintro e w1 ⟨rfl, hb⟩
  replace HB := onto HB hb
  clear hb
  unfold Cutted
  by_cases ha : ¬ Dec (ahead (by0 s))
  · have hd := Lib.hid ha; clear ha
    go_wp2_with fail
    refine (rright_is (aheadS s) _ (by have := hsa.out; have := HS.out; omega) (b := false) (by rw [aheadS_by0]; exact decide_eq_false hd.out)).mono ?_
    rintro e w2 ⟨rfl, hb⟩
    replace HB := onto HB hb
    clear hb
    go_wp2
    go_ret2
    exact ⟨HB, .inl ⟨fun g => hd.out g.1, rfl⟩⟩
  have hA := Lib.hid (Decidable.not_not.1 ha); clear ha
  go_wp2_with fail
  refine (rright_is (aheadS s) _ (by have := hsa.out; have := HS.out; omega) (b := true) (by rw [aheadS_by0]; exact decide_eq_true hA.out)).mono ?_
  rintro e w2 ⟨rfl, hb⟩
  replace HB := onto HB hb
  clear hb
  by_cases ha : ¬ Dec (behind (by0 s))
  · have hd := Lib.hid ha; clear ha
    go_wp2_with fail
    refine (rright_is (behindS s) _ (by have := hsb.out; have := HS.out; omega) (b := false) (by rw [behindS_by0]; exact decide_eq_false hd.out)).mono ?_
    rintro e w3 ⟨rfl, hb⟩
    replace HB := onto HB hb
    clear hb
    go_wp2
    go_ret2
    exact ⟨HB, .inl ⟨fun g => hd.out g.2, rfl⟩⟩
  have hD := Lib.hid (Decidable.not_not.1 ha); clear ha
  go_wp2_with fail
  refine (rright_is (behindS s) _ (by have := hsb.out; have := HS.out; omega) (b := true) (by rw [behindS_by0]; exact decide_eq_true hD.out)).mono ?_
  rintro e w3 ⟨rfl, hb⟩
  replace HB := onto HB hb
  clear hb
  by_cases hl : 900 < s.size
  · have HL := Lib.hid hl
    have z : decide ((900 : Int) < (s.size : Int)) = true := decide_eq_true (by omega)
    clear hl
    go_wp2
    go_ret2
    exact ⟨HB, .inr ⟨⟨hA.out, hD.out⟩, .inl ⟨by rw [hlen.out]; exact HL.out, rfl⟩⟩⟩
  have HL := Lib.hid (Nat.le_of_not_lt hl)
  have z : decide ((900 : Int) < (s.size : Int)) = false := decide_eq_false (by omega)
  clear hl
  go_wp2_with fail
  refine (rparse_ok (aheadS s) _ (by rw [aheadS_by0]; exact hA.out) (by have := hsa.out; have := HL.out; omega)).mono ?_
  rintro e w4 ⟨adp, np, cp, P, rfl, rp, kp, vp, hb⟩
  replace HB := onto HB hb
  clear hb
  have Hvp := Lib.hid vp; clear vp
  go_wp2_with fail
  refine (rparse_ok (behindS s) _ (by rw [behindS_by0]; exact hD.out) (by have := hsb.out; have := HL.out; omega)).mono ?_
  rintro e w5 ⟨adq, nq, cq, Q, rfl, rq, kq, vq, hb⟩
  replace rp := rp.below hb
  replace HB := onto HB hb
  clear hb
  have Hvq := Lib.hid vq; clear vq
  have HPV := Lib.hid (show val P = num (ahead (by0 s)) by rw [Hvp.out, aheadS_by0])
  have HQV := Lib.hid (show val Q = num (behind (by0 s)) by rw [Hvq.out, behindS_by0])
  have lp : P.length ≤ 450 := by have := few_limbs (by rw [aheadS_by0]; exact hA.out.1 : Digs (by0 (aheadS s))) (by rw [by0_len]; have := hsa.out; have := HL.out; omega) kp (by rw [Hvp.out]; exact Nat.le_refl _); omega
  have lq : Q.length ≤ 450 := by have := few_limbs (by rw [behindS_by0]; exact hD.out.1 : Digs (by0 (behindS s))) (by rw [by0_len]; have := hsb.out; have := HL.out; omega) kq (by rw [Hvq.out]; exact Nat.le_refl _); omega
  have hnq := len_zero rq kq
  clear Hvp Hvq
  by_cases h0 : nq = 0
  · have hz := Lib.hid (show num (behind (by0 s)) = 0 by rw [← HQV.out]; exact hnq.1 h0)
    have z0 : ((nq : Int) == 0) = true := by simp; omega
    clear hnq h0
    go_wp2
    go_ret2
    exact ⟨HB, .inr ⟨⟨hA.out, hD.out⟩, .inr (.inl ⟨by rw [hlen.out]; exact HL.out, hz.out, rfl⟩)⟩⟩
  have hz := Lib.hid (show val Q ≠ 0 from fun h => h0 (hnq.2 h))
  have z0 : ((nq : Int) == 0) = false := by simp; omega
  clear hnq h0
  go_wp2_with fail
  refine (rtxt_any _ rp rq lp lq hz.out).mono ?_
  rintro e w6 ⟨t, rfl, ht, hb⟩
  replace HB := onto HB hb
  clear hb
  have HT := Lib.hid ht; clear ht
  go_wp2
  go_ret2
  exact ⟨HB, .inr ⟨⟨hA.out, hD.out⟩, .inr (.inr ⟨by rw [hlen.out]; exact HL.out, by rw [← HQV.out]; exact hz.out, t, rfl, by rw [HT.out, worth_qv, HPV.out, HQV.out]⟩)⟩⟩

set_option maxRecDepth 100000 in
set_option maxHeartbeats 8000000 in
theorem qneg_any (s : ByteArray) (w : World) (hs : s.size ≤ 1000000) : Calls Tryz.prog 22 #[.string s] w (Ans w (Good (by0 s)) (-worth (by0 s))) := by
  go_enter Tryz.func22, Tryz.ntmps22
  go_wp2_with fail
  refine (qsub_any ⟨#[48]⟩ s _ (by decide) hs).mono ?_
  rintro e w1 ⟨hb, hh⟩
  have hw : worth (by0 ⟨#[48]⟩) - worth (by0 s) = -worth (by0 s) := by
    rw [show by0 ⟨#[48]⟩ = [48] from rfl, nought_worth, Rat.sub_eq_add_neg, Rat.zero_add]
  rw [hw] at hh
  rcases hh with ⟨hn, rfl⟩ | ⟨hg, ⟨hl, t, rfl, ht⟩ | ⟨hl, rfl⟩⟩
  · go_wp2
    go_ret2
    exact ⟨hb, .inl ⟨fun g => hn ⟨nought_good, g⟩, rfl⟩⟩
  · go_wp2
    go_ret2
    exact ⟨hb, .inr ⟨hg.2, .inl ⟨hl, t, rfl, ht⟩⟩⟩
  · go_wp2
    go_ret2
    exact ⟨hb, .inr ⟨hg.2, .inr ⟨hl, rfl⟩⟩⟩

end Go.Proofs.YtepacminjfeliaaGreatDoor

/-
  rat's calls by the text that is answered, and layer 3's live question.
-/
namespace Go.Proofs.YtepacminjfeliaaGreatDoor
open Go.RowKit

theorem Good.short {s : ByteArray} (h : Good (by0 s)) : s.size ≤ 1000000 := by have := h.1; rw [by0_len] at this; omega

theorem same_text {t u : ByteArray} {q : Rat} (hu : Good (by0 u)) (hq : q = worth (by0 u)) (ht : by0 t = rtxt q) : t = u := bytes_eq (by rw [ht, hq, hu.2])

theorem Ans.to {w w' : World} {ok : Prop} {q : Rat} {e : Ending} {u : ByteArray} (h : Ans w ok q e w') (ho : ok) (hu : Good (by0 u)) (hq : q = worth (by0 u)) :
    e = .returned (.tuple #[.string u, .int .i64 0]) ∧ Below w.heap.size w w' := by
  obtain ⟨hb, ⟨h1, -⟩ | ⟨-, ⟨-, t, rfl, ht⟩ | ⟨hl, -⟩⟩⟩ := h
  · exact absurd ho h1
  · rw [same_text hu hq ht]; exact ⟨rfl, hb⟩
  · rw [hq, hu.2] at hl
    have := hu.1
    omega

theorem add_to {a b u : ByteArray} (w : World) (ha : Good (by0 a)) (hb : Good (by0 b)) (hu : Good (by0 u)) (h : worth (by0 a) + worth (by0 b) = worth (by0 u)) :
    Calls Tryz.prog 9 #[.string a, .string b] w fun e w' => e = .returned (.tuple #[.string u, .int .i64 0]) ∧ Below w.heap.size w w' :=
  (nadd_any a b w ha.short hb.short).mono fun _ _ k => k.to ⟨ha, hb⟩ hu h

theorem sub_to {a b u : ByteArray} (w : World) (ha : Good (by0 a)) (hb : Good (by0 b)) (hu : Good (by0 u)) (h : worth (by0 a) - worth (by0 b) = worth (by0 u)) :
    Calls Tryz.prog 15 #[.string a, .string b] w fun e w' => e = .returned (.tuple #[.string u, .int .i64 0]) ∧ Below w.heap.size w w' :=
  (nsub_any a b w ha.short hb.short).mono fun _ _ k => k.to ⟨ha, hb⟩ hu h

theorem mul_to {a b u : ByteArray} (w : World) (ha : Good (by0 a)) (hb : Good (by0 b)) (hu : Good (by0 u)) (h : worth (by0 a) * worth (by0 b) = worth (by0 u)) :
    Calls Tryz.prog 17 #[.string a, .string b] w fun e w' => e = .returned (.tuple #[.string u, .int .i64 0]) ∧ Below w.heap.size w w' :=
  (nmul_any a b w ha.short hb.short).mono fun _ _ k => k.to ⟨ha, hb⟩ hu h

theorem neg_to {a u : ByteArray} (w : World) (ha : Good (by0 a)) (hu : Good (by0 u)) (h : -worth (by0 a) = worth (by0 u)) :
    Calls Tryz.prog 21 #[.string a] w fun e w' => e = .returned (.tuple #[.string u, .int .i64 0]) ∧ Below w.heap.size w w' :=
  (nneg_any a w ha.short).mono fun _ _ k => k.to ha hu h

theorem div_to {a b u : ByteArray} (w : World) (ha : Good (by0 a)) (hb : Good (by0 b)) (hu : Good (by0 u)) (h0 : worth (by0 b) ≠ 0) (h : worth (by0 a) / worth (by0 b) = worth (by0 u)) :
    Calls Tryz.prog 19 #[.string a, .string b] w fun e w' => e = .returned (.tuple #[.string u, .int .i64 0]) ∧ Below w.heap.size w w' :=
  (ndiv_any a b w ha.short hb.short).mono fun _ _ k => by
    obtain ⟨hb', ⟨h1, -⟩ | ⟨-, h1, -⟩ | ⟨-, k⟩⟩ := k
    · exact absurd ⟨ha, hb⟩ h1
    · exact absurd h1 h0
    · exact k.to ⟨ha, hb⟩ hu h

theorem div_zero {a b : ByteArray} (w : World) (ha : Good (by0 a)) (hb : Good (by0 b)) (h0 : worth (by0 b) = 0) :
    Calls Tryz.prog 19 #[.string a, .string b] w fun e w' => e = .returned (.tuple #[.string ⟨#[]⟩, .int .i64 21]) ∧ Below w.heap.size w w' :=
  (ndiv_any a b w ha.short hb.short).mono fun _ _ k => by
    obtain ⟨hb', ⟨h1, -⟩ | ⟨-, -, he⟩ | ⟨h1, -⟩⟩ := k
    · exact absurd ⟨ha, hb⟩ h1
    · exact ⟨he, hb'⟩
    · exact absurd h0 h1

theorem mul_no {a b : ByteArray} (w : World) (ha : a.size ≤ 1000000) (hb : b.size ≤ 1000000) (h : ¬ (Good (by0 a) ∧ Good (by0 b))) :
    Calls Tryz.prog 17 #[.string a, .string b] w fun e w' => e = .returned (.tuple #[.string ⟨#[]⟩, .int .i64 1]) ∧ Below w.heap.size w w' :=
  (nmul_any a b w ha hb).mono fun _ _ k => by
    obtain ⟨hb', ⟨-, he⟩ | ⟨h1, -⟩⟩ := k
    · exact ⟨he, hb'⟩
    · exact absurd h1 h

theorem cmp_to {a b : ByteArray} (w : World) (ha : Good (by0 a)) (hb : Good (by0 b)) {c : Int} (h : cmpQ (worth (by0 a)) (worth (by0 b)) = c) :
    Calls Tryz.prog 13 #[.string a, .string b] w fun e w' => e = .returned (.int .i64 c) ∧ Below w.heap.size w w' :=
  (cmp_text a b w ha.short hb.short).mono fun _ _ k => by
    obtain ⟨hb', ⟨h1, -⟩ | ⟨-, he⟩⟩ := k
    · exact absurd ⟨ha, hb⟩ h1
    · rw [← h]; exact ⟨he, hb'⟩

theorem right_to (s : ByteArray) (w : World) (hs : s.size ≤ 1000000) {b : Bool} (h : decide (Good (by0 s)) = b) : Calls Tryz.prog 11 #[.string s] w fun e w' => e = .returned (.bool b) ∧ Below w.heap.size w w' := h ▸ right_text s w hs

theorem norm_to {a u : ByteArray} (w : World) (hf : Formed (by0 a)) (hl : a.size ≤ 900) (h0 : num (behind (by0 a)) ≠ 0) (hu : Good (by0 u)) (h : worth (by0 a) = worth (by0 u)) :
    Calls Tryz.prog 7 #[.string a] w fun e w' => e = .returned (.tuple #[.string u, .int .i64 0]) ∧ Below w.heap.size w w' :=
  (norm_text a w (by omega)).mono fun _ _ k => by
    have hlen := by0_len a
    obtain ⟨hb', ⟨h1, -⟩ | ⟨-, ⟨h1, -⟩ | ⟨-, h1, -⟩ | ⟨-, -, t, rfl, ht⟩⟩⟩ := k
    · exact absurd hf h1
    · omega
    · exact absurd h1 h0
    · rw [same_text hu h ht]; exact ⟨rfl, hb'⟩

theorem norm_zero {a : ByteArray} (w : World) (hf : Formed (by0 a)) (hl : a.size ≤ 900) (h0 : num (behind (by0 a)) = 0) :
    Calls Tryz.prog 7 #[.string a] w fun e w' => e = .returned (.tuple #[.string ⟨#[]⟩, .int .i64 21]) ∧ Below w.heap.size w w' :=
  (norm_text a w (by omega)).mono fun _ _ k => by
    have hlen := by0_len a
    obtain ⟨hb', ⟨h1, -⟩ | ⟨-, ⟨h1, -⟩ | ⟨-, -, he⟩ | ⟨-, h1, -⟩⟩⟩ := k
    · exact absurd hf h1
    · omega
    · exact ⟨he, hb'⟩
    · exact absurd h0 h1

theorem norm_form {a : ByteArray} (w : World) (hs : a.size ≤ 1000000) (hf : ¬ Formed (by0 a)) :
    Calls Tryz.prog 7 #[.string a] w fun e w' => e = .returned (.tuple #[.string ⟨#[]⟩, .int .i64 12]) ∧ Below w.heap.size w w' :=
  (norm_text a w hs).mono fun _ _ k => by
    obtain ⟨hb', ⟨-, he⟩ | ⟨h1, -⟩⟩ := k
    · exact ⟨he, hb'⟩
    · exact absurd h1 hf

/-- The text of a number, as a string. -/
def T (q : Rat) : ByteArray := ⟨(rtxt q).toArray⟩

theorem T_by0 (q : Rat) : by0 (T q) = rtxt q := by0_mk _
theorem T_worth (q : Rat) : worth (by0 (T q)) = q := by rw [T_by0, worth_rtxt]
theorem T_good {q : Rat} (h : (rtxt q).length ≤ 1900) : Good (by0 (T q)) := by rw [T_by0]; exact good_rtxt h
theorem T_eq {s : ByteArray} (h : Good (by0 s)) : T (worth (by0 s)) = s := bytes_eq (by rw [T_by0, h.2])
theorem T_inj {p q : Rat} (h : T p = T q) : p = q := by rw [← T_worth p, h, T_worth]

set_option maxRecDepth 100000 in
set_option maxHeartbeats 4000000 in
theorem rhead_any (w : World) : Calls Tryz.prog 5 #[] w (Samed w true) := by
  have HB := Below.refl w.heap.size w
  have g1 := Lib.hid (show Good (by0 ⟨#[45, 51, 47, 50]⟩) from (good_of (by decide) (by decide) (by decide) (by decide)))
  have g2 := Lib.hid (show Good (by0 ⟨#[49, 47, 50]⟩) from (good_of (by decide) (by decide) (by decide) (by decide)))
  have g3 := Lib.hid (show Good (by0 ⟨#[45, 49, 47, 51]⟩) from (good_of (by decide) (by decide) (by decide) (by decide)))
  have g4 := Lib.hid (show Good (by0 ⟨#[49, 47, 54]⟩) from (good_of (by decide) (by decide) (by decide) (by decide)))
  have g5 := Lib.hid (show Good (by0 ⟨#[51]⟩) from (good_of (by decide) (by decide) (by decide) (by decide)))
  have g6 := Lib.hid (show Good (by0 ⟨#[45, 54]⟩) from (good_of (by decide) (by decide) (by decide) (by decide)))
  have g7 := Lib.hid (show Good (by0 ⟨#[45, 49, 47, 50]⟩) from (good_of (by decide) (by decide) (by decide) (by decide)))
  have g8 := Lib.hid (show Good (by0 ⟨#[48]⟩) from (good_of (by decide) (by decide) (by decide) (by decide)))
  have g9 := Lib.hid (show Good (by0 ⟨#[49, 47, 51]⟩) from (good_of (by decide) (by decide) (by decide) (by decide)))
  have n1 := Lib.hid (show ¬ Good (by0 ⟨#[54, 47, 50]⟩) from fun h => absurd h.not_whole (by decide))
  have n2 := Lib.hid (show ¬ Good (by0 ⟨#[45, 48]⟩) from fun h => absurd h.not_minus (by decide))
  have n3 := Lib.hid (show ¬ Good (by0 ⟨#[50, 47, 49]⟩) from fun h => absurd h.not_whole (by decide))
  have e1 := Lib.hid (show worth (by0 ⟨#[45, 54, 47, 52]⟩) = worth (by0 ⟨#[45, 51, 47, 50]⟩) from by decide +kernel)
  have e2 := Lib.hid (show worth (by0 ⟨#[49, 47, 50]⟩) + worth (by0 ⟨#[45, 49, 47, 51]⟩) = worth (by0 ⟨#[49, 47, 54]⟩) from by decide +kernel)
  have e3 := Lib.hid (show worth (by0 ⟨#[51]⟩) / worth (by0 ⟨#[45, 54]⟩) = worth (by0 ⟨#[45, 49, 47, 50]⟩) from by decide +kernel)
  have e4 := Lib.hid (show worth (by0 ⟨#[45, 54]⟩) ≠ 0 from by decide +kernel)
  have e5 := Lib.hid (show worth (by0 ⟨#[48]⟩) = 0 from by decide +kernel)
  have e6 := Lib.hid (show -worth (by0 ⟨#[48]⟩) = worth (by0 ⟨#[48]⟩) from by decide +kernel)
  have e7 := Lib.hid (show cmpQ (worth (by0 ⟨#[49, 47, 51]⟩)) (worth (by0 ⟨#[49, 47, 50]⟩)) = -1 from by decide +kernel)
  have e8 := Lib.hid (show cmpQ (worth (by0 ⟨#[45, 49, 47, 51]⟩)) (worth (by0 ⟨#[45, 49, 47, 50]⟩)) = 1 from by decide +kernel)
  go_enter Tryz.func5, Tryz.ntmps5
  go_wp2_with fail
  refine (norm_to (a := ⟨#[45, 54, 47, 52]⟩) _ (by decide) (by decide) (by decide) g1.out e1.out).mono ?_
  rintro e w1 ⟨rfl, hb⟩
  replace HB := onto HB hb
  clear hb
  go_wp2_with fail
  refine (norm_zero (a := ⟨#[49, 47, 48]⟩) _ (by decide) (by decide) (by decide)).mono ?_
  rintro e w1 ⟨rfl, hb⟩
  replace HB := onto HB hb
  clear hb
  go_wp2_with fail
  refine (norm_form (a := ⟨#[49, 47]⟩) _ (by decide) (by decide)).mono ?_
  rintro e w1 ⟨rfl, hb⟩
  replace HB := onto HB hb
  clear hb
  go_wp2_with fail
  refine (add_to _ g2.out g3.out g4.out e2.out).mono ?_
  rintro e w1 ⟨rfl, hb⟩
  replace HB := onto HB hb
  clear hb
  go_wp2_with fail
  refine (div_to _ g5.out g6.out g7.out e4.out e3.out).mono ?_
  rintro e w1 ⟨rfl, hb⟩
  replace HB := onto HB hb
  clear hb
  go_wp2_with fail
  refine (div_zero _ g5.out g8.out e5.out).mono ?_
  rintro e w1 ⟨rfl, hb⟩
  replace HB := onto HB hb
  clear hb
  go_wp2_with fail
  refine (mul_no (a := ⟨#[51]⟩) (b := ⟨#[54, 47, 50]⟩) _ (by decide) (by decide) (fun h => n1.out h.2)).mono ?_
  rintro e w1 ⟨rfl, hb⟩
  replace HB := onto HB hb
  clear hb
  go_wp2_with fail
  refine (neg_to _ g8.out g8.out e6.out).mono ?_
  rintro e w1 ⟨rfl, hb⟩
  replace HB := onto HB hb
  clear hb
  go_wp2_with fail
  refine (cmp_to _ g9.out g2.out e7.out).mono ?_
  rintro e w1 ⟨rfl, hb⟩
  replace HB := onto HB hb
  clear hb
  go_wp2_with fail
  refine (cmp_to _ g3.out g7.out e8.out).mono ?_
  rintro e w1 ⟨rfl, hb⟩
  replace HB := onto HB hb
  clear hb
  go_wp2_with fail
  refine (right_to ⟨#[48]⟩ _ (by decide) (b := true) (decide_eq_true g8.out)).mono ?_
  rintro e w1 ⟨rfl, hb⟩
  replace HB := onto HB hb
  clear hb
  go_wp2_with fail
  refine (right_to ⟨#[45, 48]⟩ _ (by decide) (b := false) (decide_eq_false n2.out)).mono ?_
  rintro e w1 ⟨rfl, hb⟩
  replace HB := onto HB hb
  clear hb
  go_wp2_with fail
  refine (right_to ⟨#[50, 47, 49]⟩ _ (by decide) (b := false) (decide_eq_false n3.out)).mono ?_
  rintro e w1 ⟨rfl, hb⟩
  replace HB := onto HB hb
  clear hb
  go_wp2
  go_ret
  exact ⟨rfl, HB⟩

end Go.Proofs.YtepacminjfeliaaGreatDoor

/-
  Layer 3's helpers: Great, plus and times of texts.
-/
namespace Go.Proofs.YtepacminjfeliaaGreatDoor
open Go.RowKit

set_option maxRecDepth 100000 in
set_option maxHeartbeats 4000000 in
theorem great_no {a b : ByteArray} (w : World) (ha : a.size ≤ 160) (hb : b.size ≤ 160) : Calls Tryz.prog 6 #[.string a, .string b] w (Samed w false) := by
  have z : decide ((160 : Int) < (a.size : Int)) = false := decide_eq_false (by omega)
  have z2 : decide ((160 : Int) < (b.size : Int)) = false := decide_eq_false (by omega)
  go_enter Tryz.func6, Tryz.ntmps6
  go_wp2
  go_ret
  exact ⟨rfl, Below.refl _ _⟩

set_option maxRecDepth 100000 in
set_option maxHeartbeats 4000000 in
theorem great_yes {a b : ByteArray} (w : World) (h : 160 < a.size ∨ 160 < b.size) : Calls Tryz.prog 6 #[.string a, .string b] w (Samed w true) := by
  by_cases ha : 160 < a.size
  · have z : decide ((160 : Int) < (a.size : Int)) = true := decide_eq_true (by omega)
    clear h ha
    go_enter Tryz.func6, Tryz.ntmps6
    go_wp2
    go_ret
    exact ⟨rfl, Below.refl _ _⟩
  · have z : decide ((160 : Int) < (a.size : Int)) = false := decide_eq_false (by omega)
    have z2 : decide ((160 : Int) < (b.size : Int)) = true := decide_eq_true (by omega)
    clear h ha
    go_enter Tryz.func6, Tryz.ntmps6
    go_wp2
    go_ret
    exact ⟨rfl, Below.refl _ _⟩

set_option maxRecDepth 100000 in
set_option maxHeartbeats 4000000 in
theorem plus_to {a b u : ByteArray} (w : World) (ha : Good (by0 a)) (hb : Good (by0 b)) (hu : Good (by0 u)) (h : worth (by0 a) + worth (by0 b) = worth (by0 u)) :
    Calls Tryz.prog 23 #[.string a, .string b] w fun e w' => e = .returned (.string u) ∧ Below w.heap.size w w' := by
  have hc := Lib.hid (add_to w ha hb hu h)
  clear ha hb hu h
  go_enter Tryz.func23, Tryz.ntmps23
  go_wp2_with fail
  refine hc.out.mono ?_
  rintro e w1 ⟨rfl, HB⟩
  go_wp2
  go_ret
  exact ⟨rfl, HB⟩

end Go.Proofs.YtepacminjfeliaaGreatDoor
