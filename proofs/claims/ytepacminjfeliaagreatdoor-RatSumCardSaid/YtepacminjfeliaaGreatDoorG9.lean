/-
  A part of the proof: QPlus.
-/
import Derived.Test.YtepacminjfeliaaGreatDoorG8
/-
  rat's plus of two numbers, exact and reduced. Both parts of each have 400 limbs at most.
-/
namespace Go.Proofs.YtepacminjfeliaaGreatDoor
open Go.RowKit

/-- The world behind three stores into a box. -/
abbrev set3 (W : World) (g : Nat) (a b c : Value) : World := ((W.setCell ⟨g, 0, none⟩ a).setCell ⟨g, 1, none⟩ b).setCell ⟨g, 2, none⟩ c

/-- What stays as it was: two boxes, numbers' limbs, and all that lay there at the call. -/
def Hold (w0 : World) (g k : Nat) (na nb : Bool) (vp vq vr vs : Value) (rs : List (Value × List Nat)) (W : World) : Prop :=
  (Bx3 W g na vp vq ∧ Bx3 W k nb vr vs) ∧ (∀ r ∈ rs, Rd W r.1 r.2) ∧ Below w0.heap.size w0 W

section
variable {w0 : World} {g k : Nat} {na nb : Bool} {vp vq vr vs : Value} {rs : List (Value × List Nat)} {W : World} (h : Hold w0 g k na nb vp vq vr vs rs W)
include h

theorem Hold.rd {v : Value} {l : List Nat} (hm : (v, l) ∈ rs) : Rd W v l := h.2.1 (v, l) hm
theorem Hold.bel : Below w0.heap.size w0 W := h.2.2
theorem Hold.below {W' : World} (hb : Below W.heap.size W W') : Hold w0 g k na nb vp vq vr vs rs W' :=
  ⟨⟨h.1.1.below hb, h.1.2.below hb⟩, fun r hr => (h.2.1 r hr).below hb, onto h.bel hb⟩
theorem Hold.six : (W.cell? ⟨g, 0, none⟩ = some (.bool na) ∧ W.cell? ⟨g, 1, none⟩ = some vp ∧ W.cell? ⟨g, 2, none⟩ = some vq ∧ W.cell? ⟨k, 0, none⟩ = some (.bool nb) ∧ W.cell? ⟨k, 1, none⟩ = some vr ∧ W.cell? ⟨k, 2, none⟩ = some vs) ∧ Hold w0 g k na nb vp vq vr vs rs W :=
  ⟨⟨h.1.1.cells.1, h.1.1.cells.2.1, h.1.1.cells.2.2, h.1.2.cells.1, h.1.2.cells.2.1, h.1.2.cells.2.2⟩, h⟩
theorem Hold.three : (W.cell? ⟨g, 0, none⟩ = some (.bool na) ∧ W.cell? ⟨g, 1, none⟩ = some vp ∧ W.cell? ⟨g, 2, none⟩ = some vq) ∧ Hold w0 g k na nb vp vq vr vs rs W :=
  ⟨⟨h.1.1.cells.1, h.1.1.cells.2.1, h.1.1.cells.2.2⟩, h⟩
theorem Hold.last : W.cell? ⟨k, 2, none⟩ = some vs ∧ Hold w0 g k na nb vp vq vr vs rs W := ⟨h.1.2.cells.2.2, h⟩
theorem Hold.more {v : Value} {l : List Nat} (r : Rd W v l) : Hold w0 g k na nb vp vq vr vs ((v, l) :: rs) W :=
  ⟨h.1, fun x hx => by
    rcases List.mem_cons.1 hx with rfl | hx
    · exact r
    · exact h.2.1 x hx, h.2.2⟩
end

theorem Bx3.other {W : World} {g z : Nat} {neg : Bool} {vp vq : Value} (h : Bx3 W g neg vp vq) (hne : g ≠ z) (a b c : Value) : Bx3 (set3 W z a b c) g neg vp vq := by
  unfold Bx3 at h ⊢
  simp [World.setCell, Array.getElem?_modify, h, Ne.symm hne]

theorem set3_below {w0 W : World} {z : Nat} (h : Below w0.heap.size w0 W) (hz : w0.heap.size ≤ z) (a b c : Value) : Below w0.heap.size w0 (set3 W z a b c) :=
  ((h.setCell (p := ⟨z, 0, none⟩) hz a).setCell (p := ⟨z, 1, none⟩) hz b).setCell (p := ⟨z, 2, none⟩) hz c

theorem Hold.put {w0 : World} {g k z : Nat} {na nb nz : Bool} {vp vq vr vs : Value} {a1 a2 : Option Addr} {m1 m2 i1 i2 : Nat} {rs : List (Value × List Nat)} {W : World}
    (h : Hold w0 g k na nb vp vq vr vs rs W) (bz : Bx3 W z nz (.slice a1 m1 i1) (.slice a2 m2 i2)) (h1 : g ≠ z) (h2 : k ≠ z) (h3 : w0.heap.size ≤ z) (a b c : Value) : Hold w0 g k na nb vp vq vr vs rs (set3 W z a b c) :=
  ⟨⟨h.1.1.other h1 a b c, h.1.2.other h2 a b c⟩, fun r hr => (h.2.1 r hr).put3 bz.boxed a b c, set3_below h.2.2 h3 a b c⟩

/-- Two numbers' boxes and a third one for what is answered, at a call. -/
theorem entry3 {w : World} {vp vq vr vs : Value} {P Q R S : List Nat} (n m : Bool) (rp : Rd w vp P) (rq : Rd w vq Q) (rr : Rd w vr R) (rs : Rd w vs S) :
    Hold w w.heap.size (w.heap.size + 1) n m vp vq vr vs [(vp, P), (vq, Q), (vr, R), (vs, S)] (((w.alloc (.cells #[.bool n, vp, vq] 40)).alloc (.cells #[.bool m, vr, vs] 40)).alloc (.cells #[.bool false, .slice none 0 0, .slice none 0 0] 40)) ∧
      Bx3 (((w.alloc (.cells #[.bool n, vp, vq] 40)).alloc (.cells #[.bool m, vr, vs] 40)).alloc (.cells #[.bool false, .slice none 0 0, .slice none 0 0] 40)) (w.heap.size + 1 + 1) false (.slice none 0 0) (.slice none 0 0) := by
  have h1 := alb w (.cells #[.bool n, vp, vq] 40)
  have h2 := alb (w.alloc (.cells #[.bool n, vp, vq] 40)) (.cells #[.bool m, vr, vs] 40)
  have h3 := alb ((w.alloc (.cells #[.bool n, vp, vq] 40)).alloc (.cells #[.bool m, vr, vs] 40)) (.cells #[.bool false, .slice none 0 0, .slice none 0 0] 40)
  have b1 : Bx3 (w.alloc (.cells #[.bool n, vp, vq] 40)) w.heap.size n vp vq := heap_alloc_new w _
  have b2 := heap_alloc_new (w.alloc (.cells #[.bool n, vp, vq] 40)) (.cells #[.bool m, vr, vs] 40)
  have b3 := heap_alloc_new ((w.alloc (.cells #[.bool n, vp, vq] 40)).alloc (.cells #[.bool m, vr, vs] 40)) (.cells #[.bool false, .slice none 0 0, .slice none 0 0] 40)
  rw [alloc_size] at b2
  rw [alloc_size, alloc_size] at b3
  have b2' : Bx3 ((w.alloc (.cells #[.bool n, vp, vq] 40)).alloc (.cells #[.bool m, vr, vs] 40)) (w.heap.size + 1) m vr vs := b2
  have hb := onto (onto h1 h2) h3
  refine ⟨⟨⟨(b1.below h2).below h3, b2'.below h3⟩, fun r hr => ?_, hb⟩, b3⟩
  simp only [List.mem_cons, List.not_mem_nil, or_false] at hr
  rcases hr with rfl | rfl | rfl | rfl
  · exact rp.below hb
  · exact rq.below hb
  · exact rr.below hb
  · exact rs.below hb

theorem FitsQ.up {n : Bool} {P : List Nat} {q : Rat} (h : FitsQ q) (k : Can P) (hP : sgn n (val P) = q.num) : P.length ≤ 400 := k.len (by rw [parts_abs hP]; exact h.1)
theorem FitsQ.down {Q : List Nat} {q : Rat} (h : FitsQ q) (k : Can Q) (hQ : val Q = q.den) : Q.length ≤ 400 := k.len (by rw [hQ]; exact h.2)

theorem two_small {l A B : List Nat} (h : Can l) (hA : Lim A) (hB : Lim B) (lA : A.length ≤ 800) (lB : B.length ≤ 800) (hv : val l ≤ val A + val B) : l.length ≤ 801 := by
  refine h.len (Nat.lt_of_le_of_lt hv ?_)
  have h1 := val_small hA lA
  have h2 := val_small hB lB
  have h3 : pw (800 + 1) = 4294967296 * pw 800 := pw_succ 800
  show _ < pw (800 + 1)
  rw [h3]
  generalize pw 800 = X at h1 h2 ⊢
  omega

set_option maxRecDepth 100000 in
set_option maxHeartbeats 16000000 in
theorem nplus_any {w : World} {vp vq vr vs : Value} {a b : Rat} (n m : Bool) (ha : IsNum w n vp vq a) (hb : IsNum w m vr vs b) (hn : n = true → a ≠ 0) (fa : FitsQ a) (fb : FitsQ b) :
    Calls Tryz.prog 34 #[numV n vp vq, numV m vr vs] w (NumQ w (a + b)) := by
  obtain ⟨P, Q, rp, rq, kp, kq, hP, hQ⟩ := ha
  obtain ⟨R, S, rr, rs, kr, ks, hR, hS⟩ := hb
  obtain ⟨adp, np, cp, rfl, -⟩ := id rp
  obtain ⟨adq, nq, cq, rfl, -⟩ := id rq
  obtain ⟨adr, nr, cr, rfl, -⟩ := id rr
  obtain ⟨ads, ns, cs, rfl, -⟩ := id rs
  have lp := fa.up kp hP
  have lq := fa.down kq hQ
  have lr := fb.up kr hR
  have ls := fb.down ks hS
  have hp0 := Lib.hid (show n = true → val P ≠ 0 from fun h e => hn h ((parts_zero hP).1 e))
  clear hn fa fb
  obtain ⟨hH, bz⟩ := entry3 n m rp rq rr rs
  have hsum := Lib.hid (fun (neg : Bool) (t : Nat) => sum_parts (neg := neg) (t := t) hP hR)
  have HQ := Lib.hid hQ
  have HS := Lib.hid hS
  have hq0 := Lib.hid (show 0 < val Q by rw [hQ]; exact a.den_pos)
  have hs0 := Lib.hid (show 0 < val S by rw [hS]; exact b.den_pos)
  have mp := rp.lim
  have mq := rq.lim
  have mr := rr.lim
  have ms := rs.lim
  clear rp rq rr rs hP hR hQ hS
  obtain ⟨W0, hW0⟩ : ∃ W0, W0 = (((w.alloc (.cells #[.bool n, .slice adp np cp, .slice adq nq cq] 40)).alloc (.cells #[.bool m, .slice adr nr cr, .slice ads ns cs] 40)).alloc (.cells #[.bool false, .slice none 0 0, .slice none 0 0] 40)) := ⟨_, rfl⟩
  rw [← hW0] at hH bz
  go_enter Tryz.func34, Tryz.ntmps34
  go_wp2_with fail
  rw [← hW0]
  clear hW0
  refine (gcd_any (hH.rd (v := .slice adq nq cq) (l := Q) (by simp)) (hH.rd (v := .slice ads ns cs) (l := S) (by simp)) (by omega) (by omega)).mono ?_
  rintro e w1 ⟨adc, nc, cc, C, rfl, rc, kc, vc, hb⟩
  replace hH := (hH.below hb).more rc
  replace bz := bz.below hb
  clear hb rc
  have lc := can_small kc mq lq (by rw [vc]; exact Nat.le_of_dvd hq0.out (Nat.gcd_dvd_left _ _))
  have hc0 := Lib.hid (show 0 < val C by rw [vc]; exact Nat.gcd_pos_of_pos_left _ hq0.out)
  have hy0 := Lib.hid (show val S / val C ≠ 0 from Nat.ne_of_gt (Nat.div_pos (by rw [vc]; exact Nat.le_of_dvd hs0.out (Nat.gcd_dvd_right _ _)) hc0.out))
  have VC := Lib.hid vc; clear vc
  obtain ⟨⟨c0, c1, c2, c3, c4, c5⟩, -⟩ := hH.six
  go_wp2_with fail
  refine (part_any (hH.rd (v := .slice adq nq cq) (l := Q) (by simp)) (hH.rd (v := .slice adc nc cc) (l := C) (by simp)) (by omega) (by omega) hc0.out).mono ?_
  rintro e w2 ⟨ado, no, co, O, rfl, ro, ko, vo, hb⟩
  replace hH := (hH.below hb).more ro
  replace bz := bz.below hb
  clear hb ro
  have lo := can_small ko mq lq (by rw [vo]; exact Nat.div_le_self _ _)
  have VO := Lib.hid vo; clear vo
  clear c0 c1 c2 c3 c4 c5
  obtain ⟨⟨c0, c1, c2, c3, c4, c5⟩, -⟩ := hH.six
  have hS0 := hH.below (bel_drew (Below.refl _ _))
  replace bz := bz.below (bel_drew (Below.refl _ _))
  go_wp2_with fail
  clear c0 c1 c2 c3 c4 c5
  go_region_held3 (fun W => (W.cell? ⟨w.heap.size, 0, none⟩ = some (.bool n) ∧ W.cell? ⟨w.heap.size, 1, none⟩ = some (.slice adp np cp) ∧ W.cell? ⟨w.heap.size, 2, none⟩ = some (.slice adq nq cq) ∧ W.cell? ⟨w.heap.size + 1, 0, none⟩ = some (.bool m) ∧ W.cell? ⟨w.heap.size + 1, 1, none⟩ = some (.slice adr nr cr) ∧ W.cell? ⟨w.heap.size + 1, 2, none⟩ = some (.slice ads ns cs)) ∧ Hold w w.heap.size (w.heap.size + 1) n m (.slice adp np cp) (.slice adq nq cq) (.slice adr nr cr) (.slice ads ns cs) [(.slice ado no co, O), (.slice adc nc cc, C), (.slice adp np cp, P), (.slice adq nq cq, Q), (.slice adr nr cr, R), (.slice ads ns cs, S)] W)
    ((exact Hold.six (by assumption)))
    ((first
      | ((go_split_ands; go_at_call 55; (with_reducible (show Calls _ _ #[.slice ads ns cs, .slice adc nc cc] _ _)); refine (part_any (va := .slice ads ns cs) (vb := .slice adc nc cc) (a := S) (b := C) (Hold.rd (by assumption) (by simp)) (Hold.rd (by assumption) (by simp)) (by omega) (by omega) hc0.out).mono ?_; rintro e u1 ⟨ad1, n1, i1, l1, rfl, r1, k1, v1, b1⟩; (try replace r3 := r3.below b1); (replace bz := bz.below (b1)); have hS1 : Hold w w.heap.size (w.heap.size + 1) n m (.slice adp np cp) (.slice adq nq cq) (.slice adr nr cr) (.slice ads ns cs) [(.slice ado no co, O), (.slice adc nc cc, C), (.slice adp np cp, P), (.slice adq nq cq, Q), (.slice adr nr cr, R), (.slice ads ns cs, S)] u1 := Hold.below (by assumption) b1; have j1 : l1.length ≤ 400 := can_small k1 ms ls (by rw [v1]; exact Nat.div_le_self _ _)))
      | ((go_split_ands; go_at_call 63; (with_reducible (show Calls _ _ #[.slice adp np cp, .slice ad1 n1 i1] _ _)); refine (mul_any (va := .slice adp np cp) (vb := .slice ad1 n1 i1) (a := P) (b := l1) (Hold.rd (by assumption) (by simp)) r1 (by omega) (by omega)).mono ?_; rintro e u2 ⟨ad2, n2, i2, l2, rfl, r2, k2, v2, b2⟩; (try replace r3 := r3.below b2); (replace bz := bz.below (b2)); have hS2 : Hold w w.heap.size (w.heap.size + 1) n m (.slice adp np cp) (.slice adq nq cq) (.slice adr nr cr) (.slice ads ns cs) [(.slice ado no co, O), (.slice adc nc cc, C), (.slice adp np cp, P), (.slice adq nq cq, Q), (.slice adr nr cr, R), (.slice ads ns cs, S)] u2 := Hold.below (by assumption) b2; have j2 : l2.length ≤ 400 + 400 := mul_small k2 mp r1.lim lp j1 v2))
      | ((go_split_ands; go_at_call 63; (with_reducible (show Calls _ _ #[.slice adr nr cr, .slice ado no co] _ _)); refine (mul_any (va := .slice adr nr cr) (vb := .slice ado no co) (a := R) (b := O) (Hold.rd (by assumption) (by simp)) (Hold.rd (by assumption) (by simp)) (by omega) (by omega)).mono ?_; rintro e u3 ⟨ad3, n3, i3, l3, rfl, r3, k3, v3, b3⟩; (try replace r1 := r1.below b3); (try replace r2 := r2.below b3); (replace bz := bz.below (b3)); have hS3 : Hold w w.heap.size (w.heap.size + 1) n m (.slice adp np cp) (.slice adq nq cq) (.slice adr nr cr) (.slice ads ns cs) [(.slice ado no co, O), (.slice adc nc cc, C), (.slice adp np cp, P), (.slice adq nq cq, Q), (.slice adr nr cr, R), (.slice ads ns cs, S)] u3 := Hold.below (by assumption) b3; have j3 : l3.length ≤ 400 + 400 := mul_small k3 mr ko.1 lr lo v3))
      | ((go_split_ands; go_at_call 62; refine (signed_any n m r2 r3 (by omega) (by omega) (fun h => by rw [v2, v1]; exact Nat.mul_ne_zero (hp0.out h) hy0.out)).mono ?_; rintro e u4 ⟨neg, ad4, n4, i4, l4, rfl, r4, k4, v4, z4, y4, b4⟩; (replace bz := bz.below (b4)); have hS4 : Hold w w.heap.size (w.heap.size + 1) n m (.slice adp np cp) (.slice adq nq cq) (.slice adr nr cr) (.slice ads ns cs) [(.slice ado no co, O), (.slice adc nc cc, C), (.slice adp np cp, P), (.slice adq nq cq, Q), (.slice adr nr cr, R), (.slice ads ns cs, S)] u4 := Hold.below (by assumption) b4))))
  all_goals
    have hfin := Lib.hid (hsum.out neg (val l4) (by rw [v4, v2, v1, v3, VO.out, VC.out, HQ.out, HS.out]))
    have Z4 := Lib.hid z4
    have j4 := two_small k4 r2.lim r3.lim j2 j3 y4
    clear r1 r2 r3 v1 v2 v3 v4 z4 y4 j1 j2 j3 k1 k2 k3 hsum
    clear hH hS0 hS1 hS2 hS3
    go_wp2_with fail
    refine (gcd_any r4 (Hold.rd hS4 (v := .slice adc nc cc) (l := C) (by simp)) (by omega) (by omega)).mono ?_
    rintro e w5 ⟨adg, ng, ig, G, rfl, rg, kg, vg, hb⟩
    have hS5 := ((hS4.below hb).more (r4.below hb)).more rg
    replace bz := bz.below hb
    have m4 := r4.lim
    clear hb rg r4 hS4
    have lg := can_small kg kc.1 lc (by rw [vg]; exact Nat.le_of_dvd hc0.out (Nat.gcd_dvd_right _ _))
    have hg0 := Lib.hid (show 0 < val G by rw [vg]; exact Nat.gcd_pos_of_pos_right _ hc0.out)
    have VG := Lib.hid vg; clear vg
    obtain ⟨c5, -⟩ := hS5.last
    have hS6 := hS5.below (bel_drew (Below.refl _ _))
    replace bz := bz.below (bel_drew (Below.refl _ _))
    go_wp2_with fail
    clear c5
    go_region_held3 (fun W => W.cell? ⟨w.heap.size + 1, 2, none⟩ = some (.slice ads ns cs) ∧ Hold w w.heap.size (w.heap.size + 1) n m (.slice adp np cp) (.slice adq nq cq) (.slice adr nr cr) (.slice ads ns cs) [(.slice adg ng ig, G), (.slice ad4 n4 i4, l4), (.slice ado no co, O), (.slice adc nc cc, C), (.slice adp np cp, P), (.slice adq nq cq, Q), (.slice adr nr cr, R), (.slice ads ns cs, S)] W)
      ((first | exact Hold.last (by assumption) | exact Hold.last (Hold.put (by assumption) bz (by omega) (by omega) (by omega) _ _ _)))
      ((first
        | ((go_split_ands; go_at_call 55; (with_reducible (show Calls _ _ #[.slice ad4 n4 i4, .slice adg ng ig] _ _)); refine (part_any (va := .slice ad4 n4 i4) (vb := .slice adg ng ig) (a := l4) (b := G) (Hold.rd (by assumption) (by simp)) (Hold.rd (by assumption) (by simp)) (by omega) (by omega) hg0.out).mono ?_; rintro e u6 ⟨ad6, n6, i6, l6, rfl, r6, k6, v6, b6⟩; (try replace r7 := r7.below b6); (try replace r8 := r8.below b6); (replace bz := bz.below (b6)); have hS7 : Hold w w.heap.size (w.heap.size + 1) n m (.slice adp np cp) (.slice adq nq cq) (.slice adr nr cr) (.slice ads ns cs) [(.slice adg ng ig, G), (.slice ad4 n4 i4, l4), (.slice ado no co, O), (.slice adc nc cc, C), (.slice adp np cp, P), (.slice adq nq cq, Q), (.slice adr nr cr, R), (.slice ads ns cs, S)] u6 := Hold.below (by assumption) b6; (try clear q0 q1 q2 f0 f1 f2); obtain ⟨q0, q1, q2⟩ := bz.cells; have f0 := bz.free 0; have f1 := bz.free 1; have f2 := bz.free 2))
        | ((go_split_ands; go_at_call 55; (with_reducible (show Calls _ _ #[.slice ads ns cs, .slice adg ng ig] _ _)); refine (part_any (va := .slice ads ns cs) (vb := .slice adg ng ig) (a := S) (b := G) (Hold.rd (by assumption) (by simp)) (Hold.rd (by assumption) (by simp)) (by omega) (by omega) hg0.out).mono ?_; rintro e u7 ⟨ad7, n7, i7, l7, rfl, r7, k7, v7, b7⟩; (try replace r6 := r6.below b7); (replace bz := bz.below (b7)); have hS8 : Hold w w.heap.size (w.heap.size + 1) n m (.slice adp np cp) (.slice adq nq cq) (.slice adr nr cr) (.slice ads ns cs) [(.slice adg ng ig, G), (.slice ad4 n4 i4, l4), (.slice ado no co, O), (.slice adc nc cc, C), (.slice adp np cp, P), (.slice adq nq cq, Q), (.slice adr nr cr, R), (.slice ads ns cs, S)] u7 := Hold.below (by assumption) b7; have j7 : l7.length ≤ 400 := can_small k7 ms ls (by rw [v7]; exact Nat.div_le_self _ _); (try clear q0 q1 q2 f0 f1 f2); obtain ⟨q0, q1, q2⟩ := bz.cells; have f0 := bz.free 0; have f1 := bz.free 1; have f2 := bz.free 2))
        | ((go_split_ands; go_at_call 63; (with_reducible (show Calls _ _ #[.slice ado no co, .slice ad7 n7 i7] _ _)); refine (mul_any (va := .slice ado no co) (vb := .slice ad7 n7 i7) (a := O) (b := l7) (Hold.rd (by assumption) (by simp)) r7 (by omega) (by omega)).mono ?_; rintro e u8 ⟨ad8, n8, i8, l8, rfl, r8, k8, v8, b8⟩; (try replace r6 := r6.below b8); (replace bz := bz.below (b8)); have hS9 : Hold w w.heap.size (w.heap.size + 1) n m (.slice adp np cp) (.slice adq nq cq) (.slice adr nr cr) (.slice ads ns cs) [(.slice adg ng ig, G), (.slice ad4 n4 i4, l4), (.slice ado no co, O), (.slice adc nc cc, C), (.slice adp np cp, P), (.slice adq nq cq, Q), (.slice adr nr cr, R), (.slice ads ns cs, S)] u8 := Hold.below (by assumption) b8; (try clear q0 q1 q2 f0 f1 f2); obtain ⟨q0, q1, q2⟩ := bz.cells; have f0 := bz.free 0; have f1 := bz.free 1; have f2 := bz.free 2))))
    all_goals
      have bz2 := bz.put neg (.slice ad6 n6 i6) (.slice ad8 n8 i8)
      obtain ⟨d0, d1, d2⟩ := bz2.cells
      have r6' := r6.put3 bz.boxed (.bool neg) (.slice ad6 n6 i6) (.slice ad8 n8 i8)
      have r8' := r8.put3 bz.boxed (.bool neg) (.slice ad6 n6 i6) (.slice ad8 n8 i8)
      have hB := set3_below hS9.bel (show w.heap.size ≤ w.heap.size + 1 + 1 by omega) (.bool neg) (.slice ad6 n6 i6) (.slice ad8 n8 i8)
      go_wp2
      try simp only [Exit.inBlock, Exit.then]
      refine bodyPost_ret (v := numV neg (.slice ad6 n6 i6) (.slice ad8 n8 i8)) (by simp [results, Tryz.results34, go_sem, d0, d1, d2]) rfl ?_
      refine ⟨neg, ad6, n6, i6, ad8, n8, i8, rfl, ⟨l6, l8, r6', r8', k6, k8, ?_, ?_⟩, fun h e => ?_, hB⟩
      · rw [v6, VG.out, VC.out, HQ.out, HS.out]; exact hfin.out.1
      · rw [v8, v7, VO.out, VG.out, VC.out, HQ.out, HS.out]; exact hfin.out.2
      · have h1 := (parts_zero hfin.out.1).2 e
        have h2 := Z4.out h
        have h3 : 0 < val l4 / Nat.gcd (val l4) (Nat.gcd a.den b.den) := Nat.div_pos (Nat.le_of_dvd (Nat.pos_of_ne_zero h2) (Nat.gcd_dvd_left _ _)) (Nat.gcd_pos_of_pos_left _ (Nat.pos_of_ne_zero h2))
        omega

end Go.Proofs.YtepacminjfeliaaGreatDoor
