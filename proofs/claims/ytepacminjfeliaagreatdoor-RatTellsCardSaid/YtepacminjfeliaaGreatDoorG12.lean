/-
  A part of the proof: QOrd, QCalls, RefDivNum, RefDiv, RefGcd, RefTxt.
-/
import Derived.Test.YtepacminjfeliaaGreatDoorG9
import Derived.Test.YtepacminjfeliaaGreatDoorG11
import Derived.Test.YtepacminjfeliaaGreatDoorG3
import Derived.Deep.LoopGhost
import Derived.Test.YtepacminjfeliaaGreatDoorG6
import Derived.Handy
/-
  rat's order of numbers, and that of what is below alone. Parts have 400 limbs at most.
-/
namespace Go.Proofs.YtepacminjfeliaaGreatDoor
open Go.RowKit

/-- Two numbers' boxes at a call. -/
theorem entry2b {w : World} {vp vq vr vs : Value} {P Q R S : List Nat} (n m : Bool) (rp : Rd w vp P) (rq : Rd w vq Q) (rr : Rd w vr R) (rs : Rd w vs S) :
    Hold w w.heap.size (w.heap.size + 1) n m vp vq vr vs [(vp, P), (vq, Q), (vr, R), (vs, S)] ((w.alloc (.cells #[.bool n, vp, vq] 40)).alloc (.cells #[.bool m, vr, vs] 40)) := by
  have h1 := alb w (.cells #[.bool n, vp, vq] 40)
  have h2 := alb (w.alloc (.cells #[.bool n, vp, vq] 40)) (.cells #[.bool m, vr, vs] 40)
  have b1 : Bx3 (w.alloc (.cells #[.bool n, vp, vq] 40)) w.heap.size n vp vq := heap_alloc_new w _
  have b2 := heap_alloc_new (w.alloc (.cells #[.bool n, vp, vq] 40)) (.cells #[.bool m, vr, vs] 40)
  rw [alloc_size] at b2
  have hb := onto h1 h2
  refine ⟨⟨b1.below h2, b2⟩, fun r hr => ?_, hb⟩
  simp only [List.mem_cons, List.not_mem_nil, or_false] at hr
  rcases hr with rfl | rfl | rfl | rfl
  · exact rp.below hb
  · exact rq.below hb
  · exact rr.below hb
  · exact rs.below hb

theorem cmp_nums {a b : Rat} {n m : Bool} {P R Q S : Nat} (hP : sgn n P = a.num) (hQ : Q = a.den) (hR : sgn m R = b.num) (hS : S = b.den) (hn : n = true → a ≠ 0) (hm : m = true → b ≠ 0) :
    cmpQ a b = if n then (if m then -tell (P * S) (R * Q) else -1) else (if m then 1 else tell (P * S) (R * Q)) := by
  have hq : Q ≠ 0 := by rw [hQ]; exact a.den_nz
  have hs : S ≠ 0 := by rw [hS]; exact b.den_nz
  rw [← parts_qv hP hQ, ← parts_qv hR hS]
  cases n
  · cases m
    · exact cmp_pos P R hq hs
    · exact cmp_pn P hq hs (fun e => hm rfl ((parts_zero hR).1 e))
  · cases m
    · exact cmp_np R hq hs (fun e => hn rfl ((parts_zero hP).1 e))
    · exact cmp_neg P R hq hs

set_option maxRecDepth 100000 in
set_option maxHeartbeats 16000000 in
theorem ncmp_any {w : World} {vp vq vr vs : Value} {a b : Rat} (n m : Bool) (ha : IsNum w n vp vq a) (hb : IsNum w m vr vs b) (hn : n = true → a ≠ 0) (hm : m = true → b ≠ 0) (fa : FitsQ a) (fb : FitsQ b) :
    Calls Tryz.prog 40 #[numV n vp vq, numV m vr vs] w fun e w' => e = .returned (.int .i64 (cmpQ a b)) ∧ Below w.heap.size w w' := by
  obtain ⟨P, Q, rp, rq, kp, kq, hP, hQ⟩ := ha
  obtain ⟨R, S, rr, rs, kr, ks, hR, hS⟩ := hb
  rw [cmp_nums hP hQ hR hS hn hm]
  obtain ⟨adp, np, cp, rfl, -⟩ := id rp
  obtain ⟨adq, nq, cq, rfl, -⟩ := id rq
  obtain ⟨adr, nr, cr, rfl, -⟩ := id rr
  obtain ⟨ads, ns, cs, rfl, -⟩ := id rs
  have lp := fa.up kp hP
  have lq := fa.down kq hQ
  have lr := fb.up kr hR
  have ls := fb.down ks hS
  have hH := entry2b n m rp rq rr rs
  have mp := rp.lim
  have mq := rq.lim
  have mr := rr.lim
  have ms := rs.lim
  clear rp rq rr rs hn hm hP hQ hR hS fa fb
  have hS0 := hH.below (bel_drew (Below.refl _ _))
  clear hH
  generalize hT : tell (val P * val S) (val R * val Q) = T
  have HT := Lib.hid hT; clear hT
  go_enter Tryz.func40, Tryz.ntmps40
  go_wp2_with fail
  go_region_held3 (fun W => (W.cell? ⟨w.heap.size, 0, none⟩ = some (.bool n) ∧ W.cell? ⟨w.heap.size, 1, none⟩ = some (.slice adp np cp) ∧ W.cell? ⟨w.heap.size, 2, none⟩ = some (.slice adq nq cq) ∧ W.cell? ⟨w.heap.size + 1, 0, none⟩ = some (.bool m) ∧ W.cell? ⟨w.heap.size + 1, 1, none⟩ = some (.slice adr nr cr) ∧ W.cell? ⟨w.heap.size + 1, 2, none⟩ = some (.slice ads ns cs)) ∧ Hold w w.heap.size (w.heap.size + 1) n m (.slice adp np cp) (.slice adq nq cq) (.slice adr nr cr) (.slice ads ns cs) [(.slice adp np cp, P), (.slice adq nq cq, Q), (.slice adr nr cr, R), (.slice ads ns cs, S)] W)
    ((exact Hold.six (by assumption)))
    ((first
      | ((go_split_ands; go_at_call 63; (with_reducible (show Calls _ _ #[.slice adp np cp, .slice ads ns cs] _ _)); refine (mul_any (va := .slice adp np cp) (vb := .slice ads ns cs) (a := P) (b := S) (Hold.rd (by assumption) (by simp)) (Hold.rd (by assumption) (by simp)) (by omega) (by omega)).mono ?_; rintro e u6 ⟨ad6, n6, i6, l6, rfl, r6, k6, v6, b6⟩; (try replace r7 := r7.below b6); have hS7 : Hold w w.heap.size (w.heap.size + 1) n m (.slice adp np cp) (.slice adq nq cq) (.slice adr nr cr) (.slice ads ns cs) [(.slice adp np cp, P), (.slice adq nq cq, Q), (.slice adr nr cr, R), (.slice ads ns cs, S)] u6 := Hold.below (by assumption) b6; have j6 : l6.length ≤ 400 + 400 := mul_small k6 mp ms lp ls v6))
      | ((go_split_ands; go_at_call 63; (with_reducible (show Calls _ _ #[.slice adr nr cr, .slice adq nq cq] _ _)); refine (mul_any (va := .slice adr nr cr) (vb := .slice adq nq cq) (a := R) (b := Q) (Hold.rd (by assumption) (by simp)) (Hold.rd (by assumption) (by simp)) (by omega) (by omega)).mono ?_; rintro e u7 ⟨ad7, n7, i7, l7, rfl, r7, k7, v7, b7⟩; (try replace r6 := r6.below b7); have hS8 : Hold w w.heap.size (w.heap.size + 1) n m (.slice adp np cp) (.slice adq nq cq) (.slice adr nr cr) (.slice ads ns cs) [(.slice adp np cp, P), (.slice adq nq cq, Q), (.slice adr nr cr, R), (.slice ads ns cs, S)] u7 := Hold.below (by assumption) b7; have j7 : l7.length ≤ 400 + 400 := mul_small k7 mr mq lr lq v7))
      | ((go_split_ands; go_at_call 65; refine (cmp_at r6 r7 (by omega) (by omega) (t := T) (by rw [v6, v7]; exact HT.out)).mono ?_; rintro e u8 ⟨rfl, b8⟩; have hS9 : Hold w w.heap.size (w.heap.size + 1) n m (.slice adp np cp) (.slice adq nq cq) (.slice adr nr cr) (.slice ads ns cs) [(.slice adp np cp, P), (.slice adq nq cq, Q), (.slice adr nr cr, R), (.slice ads ns cs, S)] u8 := Hold.below (by assumption) b8))))
  all_goals
    obtain ⟨⟨c0, c1, c2, c3, c4, c5⟩, -⟩ := hS9.six
    have HB := hS9.bel
    clear hS9 hS8 hS7 hS0 r6 r7
    cases n
    · cases m
      · go_wp2
        go_ret
        exact ⟨rfl, HB⟩
      · go_wp2
        go_ret
        exact ⟨rfl, HB⟩
    · cases m
      · go_wp2
        go_ret
        exact ⟨rfl, HB⟩
      · have hw : wrap64 (-T) = -T := by
          have hb : -1 ≤ T ∧ T ≤ 1 := by rw [← HT.out]; unfold tell; split <;> (try split) <;> omega
          unfold wrap64; omega
        go_wp2
        go_ret
        exact ⟨rfl, HB⟩

end Go.Proofs.YtepacminjfeliaaGreatDoor

/-
  rat's calls: Add, Sub, Mul, Div, Neg, Cmp and Norm of texts. The texts have 1000000 bytes at most.
-/
namespace Go.Proofs.YtepacminjfeliaaGreatDoor
open Go.RowKit

set_option maxRecDepth 100000 in
set_option maxHeartbeats 8000000 in
theorem made_any (a b : ByteArray) (w : World) (g : Nat) {q : Rat} (eg : ∀ args w, (callFunc g args).run Tryz.prog w = .ok (.enter g args) w) (ha : a.size ≤ 1000000) (hb : b.size ≤ 1000000)
    (hg : Good (by0 a) → Good (by0 b) → ∀ (W : World) (n m : Bool) (vp vq vr vs : Value), IsNum W n vp vq (worth (by0 a)) → (n = true → worth (by0 a) ≠ 0) → IsNum W m vr vs (worth (by0 b)) → (m = true → worth (by0 b) ≠ 0) →
      Calls Tryz.prog g #[numV n vp vq, numV m vr vs] W (NumQ W q)) :
    Calls Tryz.prog 33 #[.string a, .string b, .func (.func g) #[] #[]] w (Ans w (Good (by0 a) ∧ Good (by0 b)) q) := by
  have hbo := Lib.hid (both_any a b w ha hb)
  have HG := Lib.hid hg
  clear ha hb hg
  go_enter Tryz.func33, Tryz.ntmps33
  go_wp2_with fail
  refine hbo.out.mono ?_
  rintro e w1 ⟨n, adp, np, cp, adq, nq, cq, m, adr, nr, cr, ads, ns, cs, t, rfl, HB, hh⟩
  have h1 := alb w1 (.cells #[.bool n, .slice adp np cp, .slice adq nq cq] 40)
  have h2 := alb (w1.alloc (.cells #[.bool n, .slice adp np cp, .slice adq nq cq] 40)) (.cells #[.bool m, .slice adr nr cr, .slice ads ns cs] 40)
  have hal := onto h1 h2
  rcases hh with ⟨hno, rfl⟩ | ⟨⟨hga, hgb⟩, rfl, iA, nA, iB, nB⟩
  · have HN := Lib.hid hno; clear hno
    go_wp2
    go_ret2
    exact ⟨onto HB hal, .inl ⟨HN.out, rfl⟩⟩
  · have HO := Lib.hid (And.intro hga hgb)
    have hq := Lib.hid (HG.out hga hgb _ n m _ _ _ _ (iA.below hal) nA (iB.below hal) nB)
    clear hga hgb nA nB iA iB
    have b1 : Bx3 (w1.alloc (.cells #[.bool n, .slice adp np cp, .slice adq nq cq] 40)) w1.heap.size n (.slice adp np cp) (.slice adq nq cq) := heap_alloc_new w1 _
    have b2 := heap_alloc_new (w1.alloc (.cells #[.bool n, .slice adp np cp, .slice adq nq cq] 40)) (.cells #[.bool m, .slice adr nr cr, .slice ads ns cs] 40)
    replace HB := onto HB hal
    clear b1 b2 h1 h2 hal
    go_wp2_with fail
    refine hq.out.mono ?_
    rintro e w2 ⟨neg, ad3, n3, i3, ad4, n4, i4, rfl, i5, z5, hb⟩
    replace HB := onto HB hb
    clear hb
    have HT := Lib.hid (ntext_any neg i5 z5)
    clear i5 z5
    go_wp2_with fail
    refine HT.out.mono ?_
    rintro e w3 ⟨hb, hh⟩
    replace HB := onto HB hb
    clear hb
    rcases hh with ⟨hl, t, rfl, ht⟩ | ⟨hl, rfl⟩
    · have HL := Lib.hid hl; clear hl
      have HT2 := Lib.hid ht; clear ht
      go_wp2
      go_ret2
      exact ⟨HB, .inr ⟨HO.out, .inl ⟨HL.out, t, rfl, HT2.out⟩⟩⟩
    · have HL := Lib.hid hl; clear hl
      go_wp2
      go_ret2
      exact ⟨HB, .inr ⟨HO.out, .inr ⟨HL.out, rfl⟩⟩⟩

set_option maxRecDepth 100000 in
set_option maxHeartbeats 8000000 in
theorem nadd_any (a b : ByteArray) (w : World) (ha : a.size ≤ 1000000) (hb : b.size ≤ 1000000) : Calls Tryz.prog 9 #[.string a, .string b] w (Ans w (Good (by0 a) ∧ Good (by0 b)) (worth (by0 a) + worth (by0 b))) := by
  have hm := Lib.hid (made_any a b w 34 (q := worth (by0 a) + worth (by0 b)) (enters_of Tryz.func34 (by kernel_rfl) rfl) ha hb (fun ga gb W n m vp vq vr vs iA nA iB nB => nplus_any n m iA iB nA ga.fits gb.fits))
  clear ha hb
  go_enter Tryz.func9, Tryz.ntmps9
  go_wp2_with fail
  refine hm.out.mono ?_
  rintro e w1 ⟨HB, ⟨hno, rfl⟩ | ⟨hok, ⟨hl, t, rfl, ht⟩ | ⟨hl, rfl⟩⟩⟩
  · have HN := Lib.hid hno; clear hno
    go_wp2
    go_ret2
    exact ⟨HB, .inl ⟨HN.out, rfl⟩⟩
  · have HO := Lib.hid hok; clear hok
    have HL := Lib.hid hl; clear hl
    have HT := Lib.hid ht; clear ht
    go_wp2
    go_ret2
    exact ⟨HB, .inr ⟨HO.out, .inl ⟨HL.out, t, rfl, HT.out⟩⟩⟩
  · have HO := Lib.hid hok; clear hok
    have HL := Lib.hid hl; clear hl
    go_wp2
    go_ret2
    exact ⟨HB, .inr ⟨HO.out, .inr ⟨HL.out, rfl⟩⟩⟩

set_option maxRecDepth 100000 in
set_option maxHeartbeats 8000000 in
theorem nsub_any (a b : ByteArray) (w : World) (ha : a.size ≤ 1000000) (hb : b.size ≤ 1000000) : Calls Tryz.prog 15 #[.string a, .string b] w (Ans w (Good (by0 a) ∧ Good (by0 b)) (worth (by0 a) - worth (by0 b))) := by
  have hm := Lib.hid (made_any a b w 43 (q := worth (by0 a) - worth (by0 b)) (enters_of Tryz.func43 (by kernel_rfl) rfl) ha hb (fun ga gb W n m vp vq vr vs iA nA iB nB => nminus_any n m iA iB nA ga.fits gb.fits))
  clear ha hb
  go_enter Tryz.func15, Tryz.ntmps15
  go_wp2_with fail
  refine hm.out.mono ?_
  rintro e w1 ⟨HB, ⟨hno, rfl⟩ | ⟨hok, ⟨hl, t, rfl, ht⟩ | ⟨hl, rfl⟩⟩⟩
  · have HN := Lib.hid hno; clear hno
    go_wp2
    go_ret2
    exact ⟨HB, .inl ⟨HN.out, rfl⟩⟩
  · have HO := Lib.hid hok; clear hok
    have HL := Lib.hid hl; clear hl
    have HT := Lib.hid ht; clear ht
    go_wp2
    go_ret2
    exact ⟨HB, .inr ⟨HO.out, .inl ⟨HL.out, t, rfl, HT.out⟩⟩⟩
  · have HO := Lib.hid hok; clear hok
    have HL := Lib.hid hl; clear hl
    go_wp2
    go_ret2
    exact ⟨HB, .inr ⟨HO.out, .inr ⟨HL.out, rfl⟩⟩⟩

set_option maxRecDepth 100000 in
set_option maxHeartbeats 8000000 in
theorem nmul_any (a b : ByteArray) (w : World) (ha : a.size ≤ 1000000) (hb : b.size ≤ 1000000) : Calls Tryz.prog 17 #[.string a, .string b] w (Ans w (Good (by0 a) ∧ Good (by0 b)) (worth (by0 a) * worth (by0 b))) := by
  have hm := Lib.hid (made_any a b w 44 (q := worth (by0 a) * worth (by0 b)) (enters_of Tryz.func44 (by kernel_rfl) rfl) ha hb (fun ga gb W n m vp vq vr vs iA nA iB nB => times_any n m iA iB ga.fits gb.fits))
  clear ha hb
  go_enter Tryz.func17, Tryz.ntmps17
  go_wp2_with fail
  refine hm.out.mono ?_
  rintro e w1 ⟨HB, ⟨hno, rfl⟩ | ⟨hok, ⟨hl, t, rfl, ht⟩ | ⟨hl, rfl⟩⟩⟩
  · have HN := Lib.hid hno; clear hno
    go_wp2
    go_ret2
    exact ⟨HB, .inl ⟨HN.out, rfl⟩⟩
  · have HO := Lib.hid hok; clear hok
    have HL := Lib.hid hl; clear hl
    have HT := Lib.hid ht; clear ht
    go_wp2
    go_ret2
    exact ⟨HB, .inr ⟨HO.out, .inl ⟨HL.out, t, rfl, HT.out⟩⟩⟩
  · have HO := Lib.hid hok; clear hok
    have HL := Lib.hid hl; clear hl
    go_wp2
    go_ret2
    exact ⟨HB, .inr ⟨HO.out, .inr ⟨HL.out, rfl⟩⟩⟩

set_option maxRecDepth 100000 in
set_option maxHeartbeats 8000000 in
theorem nneg_any (a : ByteArray) (w : World) (ha : a.size ≤ 1000000) : Calls Tryz.prog 21 #[.string a] w (Ans w (Good (by0 a)) (-worth (by0 a))) := by
  have hm := nsub_any ⟨#[48]⟩ a w (by decide) ha
  have e0 : by0 ⟨#[48]⟩ = [48] := rfl
  rw [e0, nought_worth, Rat.sub_eq_add_neg, Rat.zero_add] at hm
  have hm2 : Calls Tryz.prog 15 #[.string ⟨#[48]⟩, .string a] w (Ans w (Good (by0 a)) (-worth (by0 a))) := hm.mono fun e w' h => by
    obtain ⟨hb, ⟨h1, h2⟩ | ⟨h1, h2⟩⟩ := h
    · exact ⟨hb, .inl ⟨fun g => h1 ⟨nought_good, g⟩, h2⟩⟩
    · exact ⟨hb, .inr ⟨h1.2, h2⟩⟩
  have HM := Lib.hid hm2
  clear hm hm2 ha e0
  go_enter Tryz.func21, Tryz.ntmps21
  go_wp2_with fail
  refine HM.out.mono ?_
  rintro e w1 ⟨HB, ⟨hno, rfl⟩ | ⟨hok, ⟨hl, t, rfl, ht⟩ | ⟨hl, rfl⟩⟩⟩
  · have HN := Lib.hid hno; clear hno
    go_wp2
    go_ret2
    exact ⟨HB, .inl ⟨HN.out, rfl⟩⟩
  · have HO := Lib.hid hok; clear hok
    have HL := Lib.hid hl; clear hl
    have HT := Lib.hid ht; clear ht
    go_wp2
    go_ret2
    exact ⟨HB, .inr ⟨HO.out, .inl ⟨HL.out, t, rfl, HT.out⟩⟩⟩
  · have HO := Lib.hid hok; clear hok
    have HL := Lib.hid hl; clear hl
    go_wp2
    go_ret2
    exact ⟨HB, .inr ⟨HO.out, .inr ⟨HL.out, rfl⟩⟩⟩

theorem zero_text {b : ByteArray} (hg : Good (by0 b)) (h0 : worth (by0 b) = 0) : by0 b = [48] := by rw [← hg.2, h0, rtxt_zero]

set_option maxRecDepth 100000 in
set_option maxHeartbeats 8000000 in
theorem ndiv_any (a b : ByteArray) (w : World) (ha : a.size ≤ 1000000) (hb : b.size ≤ 1000000) : Calls Tryz.prog 19 #[.string a, .string b] w (AnsDiv w (Good (by0 a) ∧ Good (by0 b)) (worth (by0 b)) (worth (by0 a) / worth (by0 b))) := by
  by_cases h48 : by0 b = [48]
  · have hy : b.toList = [48] := by rw [toList_by0]; exact h48
    have hgb : Good (by0 b) := by rw [h48]; exact nought_good
    have hw0 := Lib.hid (show worth (by0 b) = 0 by rw [h48]; exact nought_worth)
    have hr := right_text a w ha
    by_cases hga : Good (by0 a)
    · rw [decide_eq_true hga] at hr
      have HR := Lib.hid hr
      have HG := Lib.hid (And.intro hga hgb)
      clear hr hga hgb ha hb h48
      go_enter Tryz.func19, Tryz.ntmps19
      go_wp2_with fail
      refine HR.out.mono ?_
      rintro e w1 ⟨rfl, HB⟩
      go_wp2
      go_ret2
      exact ⟨HB, .inr (.inl ⟨HG.out, hw0.out, rfl⟩)⟩
    · rw [decide_eq_false hga] at hr
      have HR := Lib.hid hr
      have HA := Lib.hid hga
      have hm := Lib.hid (fun w => made_any a b w 46 (q := 0) (enters_of Tryz.func46 (by kernel_rfl) rfl) ha hb (fun ga => absurd ga hga))
      clear hr hga hgb ha hb h48
      go_enter Tryz.func19, Tryz.ntmps19
      go_wp2_with fail
      refine HR.out.mono ?_
      rintro e w0 ⟨rfl, HB0⟩
      go_wp2_with fail
      refine (hm.out _).mono ?_
      rintro e w1 ⟨HB, ⟨hno, rfl⟩ | ⟨hok, -⟩⟩
      · have HN := Lib.hid hno; clear hno
        go_wp2
        go_ret2
        exact ⟨onto HB0 HB, .inl ⟨HN.out, rfl⟩⟩
      · exact absurd hok.1 HA.out
  · have hy : ¬ (b.toList = [48]) := by rw [toList_by0]; exact h48
    by_cases hok : Good (by0 a) ∧ Good (by0 b)
    · have h0 : worth (by0 b) ≠ 0 := fun e => h48 (zero_text hok.2 e)
      have hm := Lib.hid (made_any a b w 46 (q := worth (by0 a) / worth (by0 b)) (enters_of Tryz.func46 (by kernel_rfl) rfl) ha hb (fun ga gb W n m vp vq vr vs iA nA iB nB => by_any n m iA iB ga.fits gb.fits h0))
      have H0 := Lib.hid h0
      clear ha hb h48 h0 hok
      go_enter Tryz.func19, Tryz.ntmps19
      go_wp2_with fail
      refine hm.out.mono ?_
      rintro e w1 ⟨HB, ⟨hno, rfl⟩ | ⟨hok, ⟨hl, t, rfl, ht⟩ | ⟨hl, rfl⟩⟩⟩
      · have HN := Lib.hid hno; clear hno
        go_wp2
        go_ret2
        exact ⟨HB, .inr (.inr ⟨H0.out, ⟨HB, .inl ⟨HN.out, rfl⟩⟩⟩)⟩
      · have HO := Lib.hid hok; clear hok
        have HL := Lib.hid hl; clear hl
        have HT := Lib.hid ht; clear ht
        go_wp2
        go_ret2
        exact ⟨HB, .inr (.inr ⟨H0.out, ⟨HB, .inr ⟨HO.out, .inl ⟨HL.out, t, rfl, HT.out⟩⟩⟩⟩)⟩
      · have HO := Lib.hid hok; clear hok
        have HL := Lib.hid hl; clear hl
        go_wp2
        go_ret2
        exact ⟨HB, .inr (.inr ⟨H0.out, ⟨HB, .inr ⟨HO.out, .inr ⟨HL.out, rfl⟩⟩⟩⟩)⟩
    · have hm := Lib.hid (made_any a b w 46 (q := 0) (enters_of Tryz.func46 (by kernel_rfl) rfl) ha hb (fun ga gb => absurd ⟨ga, gb⟩ hok))
      have HK := Lib.hid hok
      clear ha hb h48 hok
      go_enter Tryz.func19, Tryz.ntmps19
      go_wp2_with fail
      refine hm.out.mono ?_
      rintro e w1 ⟨HB, ⟨hno, rfl⟩ | ⟨hok, -⟩⟩
      · have HN := Lib.hid hno; clear hno
        go_wp2
        go_ret2
        exact ⟨HB, .inl ⟨HN.out, rfl⟩⟩
      · exact absurd hok HK.out

set_option maxRecDepth 100000 in
set_option maxHeartbeats 8000000 in
theorem cmp_text (a b : ByteArray) (w : World) (ha : a.size ≤ 1000000) (hb : b.size ≤ 1000000) : Calls Tryz.prog 13 #[.string a, .string b] w (Compd w (Good (by0 a) ∧ Good (by0 b)) (worth (by0 a)) (worth (by0 b))) := by
  have hbo := Lib.hid (both_any a b w ha hb)
  clear ha hb
  go_enter Tryz.func13, Tryz.ntmps13
  go_wp2_with fail
  refine hbo.out.mono ?_
  rintro e w1 ⟨n, adp, np, cp, adq, nq, cq, m, adr, nr, cr, ads, ns, cs, t, rfl, HB, hh⟩
  have h1 := alb w1 (.cells #[.bool n, .slice adp np cp, .slice adq nq cq] 40)
  have h2 := alb (w1.alloc (.cells #[.bool n, .slice adp np cp, .slice adq nq cq] 40)) (.cells #[.bool m, .slice adr nr cr, .slice ads ns cs] 40)
  have hal := onto h1 h2
  rcases hh with ⟨hno, rfl⟩ | ⟨⟨hga, hgb⟩, rfl, iA, nA, iB, nB⟩
  · have HN := Lib.hid hno; clear hno
    go_wp2
    go_ret
    exact ⟨onto HB hal, .inl ⟨HN.out, rfl⟩⟩
  · have HO := Lib.hid (And.intro hga hgb)
    have hq := Lib.hid (ncmp_any n m (iA.below hal) (iB.below hal) nA nB hga.fits hgb.fits)
    clear hga hgb nA nB iA iB
    replace HB := onto HB hal
    clear h1 h2 hal
    go_wp2_with fail
    refine hq.out.mono ?_
    rintro e w2 ⟨rfl, hb⟩
    replace HB := onto HB hb
    clear hb
    go_wp2
    go_ret
    exact ⟨HB, .inr ⟨HO.out, rfl⟩⟩

set_option maxRecDepth 100000 in
set_option maxHeartbeats 8000000 in
theorem norm_text (s : ByteArray) (w : World) (hs : s.size ≤ 1000000) : Calls Tryz.prog 7 #[.string s] w (Normd w (by0 s)) := by
  have hsp := split_any s w hs
  have hlen := Lib.hid (by0_len s)
  by_cases hf : Formed (by0 s)
  · rw [decide_eq_true hf] at hsp
    have HF := Lib.hid hf
    have hd := eq48 (s := behindS s) (by rw [behindS_by0]; exact hf.2)
    rw [behindS_by0] at hd
    have HS := Lib.hid hsp
    by_cases hl : 900 < s.size
    · have z : decide ((900 : Int) < (s.size : Int)) = true := decide_eq_true (by omega)
      have HL := Lib.hid hl
      clear hsp hs hd hl hf
      go_enter Tryz.func7, Tryz.ntmps7
      go_wp2_with fail
      refine HS.out.mono ?_
      rintro e w1 ⟨rfl, HB⟩
      unfold partsV
      have hal := alb w1 (.cells #[.bool (negB (by0 s)), .string (aheadS s), .bool (slash (by0 s)), .string (behindS s)] 35)
      replace HB := onto HB hal
      clear hal
      go_wp2
      go_ret2
      exact ⟨HB, .inr ⟨HF.out, .inl ⟨by rw [hlen.out]; exact HL.out, rfl⟩⟩⟩
    · have z : decide ((900 : Int) < (s.size : Int)) = false := decide_eq_false (by omega)
      have hl9 : s.size ≤ 900 := by omega
      have HL := Lib.hid hl9
      have hnu := Lib.hid (fun w => number_any s w (by omega) hf)
      by_cases h0 : num (behind (by0 s)) = 0
      · rw [decide_eq_true h0] at hd
        have H0 := Lib.hid h0
        clear hsp hs hl hf h0 hl9
        go_enter Tryz.func7, Tryz.ntmps7
        go_wp2_with fail
        refine HS.out.mono ?_
        rintro e w1 ⟨rfl, HB⟩
        unfold partsV
        have hal := alb w1 (.cells #[.bool (negB (by0 s)), .string (aheadS s), .bool (slash (by0 s)), .string (behindS s)] 35)
        replace HB := onto HB hal
        clear hal
        go_wp2
        go_ret2
        exact ⟨HB, .inr ⟨HF.out, .inr (.inl ⟨by rw [hlen.out]; exact HL.out, H0.out, rfl⟩)⟩⟩
      · rw [decide_eq_false h0] at hd
        have H0 := Lib.hid h0
        have lA := Lib.hid (show ∀ l, Can l → val l = num (ahead (by0 s)) → l.length ≤ 200 from fun l k v => few_limbs hf.1.1 (by have := ahead_le (by0 s); have := by0_len s; omega) k (Nat.le_of_eq v))
        have lB := Lib.hid (show ∀ l, Can l → val l = num (behind (by0 s)) → l.length ≤ 200 from fun l k v => few_limbs hf.2.1 (by have := behind_le (by0 s); have := by0_len s; omega) k (Nat.le_of_eq v))
        have hshort := Lib.hid (show (rtxt (worth (by0 s))).length ≤ 1900 by
          have := (size_of hf.1 hf.2 h0 (k := 900) (by rw [by0_len]; exact hl9) (by decide)).text (by decide) (by decide)
          omega)
        clear hsp hs hl hf h0 hl9
        unfold partsV at hnu
        go_enter Tryz.func7, Tryz.ntmps7
        go_wp2_with fail
        refine HS.out.mono ?_
        rintro e w1 ⟨rfl, HB⟩
        unfold partsV
        have hal := alb w1 (.cells #[.bool (negB (by0 s)), .string (aheadS s), .bool (slash (by0 s)), .string (behindS s)] 35)
        replace HB := onto HB hal
        clear hal
        go_wp2_with fail
        refine (hnu.out _).mono ?_
        rintro e w2 ⟨adp, np, cp, adq, nq, cq, P, Q, rfl, rp, rq, kp, kq, vp, vq, hb⟩
        replace HB := onto HB hb
        clear hb
        have lp := lA.out P kp vp
        have lq := lB.out Q kq vq
        have hre := Lib.hid (reduced_any (negB (by0 s)) rp rq kp (by omega) (by omega) (by rw [vq]; exact H0.out))
        rw [vp, vq, ← worth_qv] at hre
        clear rp rq kp kq vp vq lp lq
        go_wp2_with fail
        refine hre.out.mono ?_
        rintro e w3 ⟨neg, ad3, n3, i3, ad4, n4, i4, rfl, i5, z5, hb⟩
        replace HB := onto HB hb
        clear hb
        have HT := Lib.hid (ntext_any neg i5 z5)
        clear i5 z5
        go_wp2_with fail
        refine HT.out.mono ?_
        rintro e w4 ⟨hb, ⟨hl, t, rfl, ht⟩ | ⟨hl, rfl⟩⟩
        · replace HB := onto HB hb
          have HL2 := Lib.hid hl; clear hl
          have HT2 := Lib.hid ht; clear ht hb
          go_wp2
          go_ret2
          exact ⟨HB, .inr ⟨HF.out, .inr (.inr ⟨by rw [hlen.out]; exact HL.out, H0.out, t, rfl, HT2.out⟩)⟩⟩
        · exact absurd hshort.out (by omega)
  · rw [decide_eq_false hf] at hsp
    have HF := Lib.hid hf
    have HS := Lib.hid hsp
    clear hsp hs hf
    go_enter Tryz.func7, Tryz.ntmps7
    go_wp2_with fail
    refine HS.out.mono ?_
    rintro e w1 ⟨rfl, HB⟩
    unfold partsV
    have hal := alb w1 (.cells #[.bool (negB (by0 s)), .string (aheadS s), .bool (slash (by0 s)), .string (behindS s)] 35)
    replace HB := onto HB hal
    clear hal
    go_wp2
    go_ret2
    exact ⟨HB, .inl ⟨HF.out, rfl⟩⟩

end Go.Proofs.YtepacminjfeliaaGreatDoor

/-
  Plain numbers: division bit by bit; a limb of a list that is written over. Nothing of the program is in here. No condition.
-/
namespace Go.Proofs.YtepacminjfeliaaGreatDoor
open Go.RowKit

theorem at0_set_val {l : List Nat} {q : Nat} (hq : q < l.length) (d : Nat) : val (l.set q (at0 l q + d)) = val l + pw q * d := by
  induction l generalizing q with
  | nil => simp at hq
  | cons x l ih =>
    cases q with
    | zero => simp [at0, val, pw]; omega
    | succ q =>
      have h := ih (q := q) (by simpa using hq)
      have e : at0 (x :: l) (q + 1) = at0 l q := by simp [at0]
      rw [e, List.set_cons_succ]
      simp only [val]
      rw [h, pw_succ, Nat.mul_add, Nat.mul_assoc]; omega

theorem lim_set {l : List Nat} (h : Lim l) {x : Nat} (hx : x < 4294967296) (q : Nat) : Lim (l.set q x) := by
  intro y hy
  rcases List.mem_or_eq_of_mem_set hy with h1 | h1
  · exact h y h1
  · rw [h1]; exact hx

theorem limb_room {x s : Nat} (hx : x < 4294967296) (hs : s < 32) (hb : x / 2 ^ s % 2 = 0) : x + 2 ^ s < 4294967296 := by
  obtain ⟨t, ht⟩ : ∃ t, 32 = s + (t + 1) := ⟨31 - s, by omega⟩
  have e : (4294967296 : Nat) = 2 ^ s * (2 ^ t * 2) := by
    rw [show (4294967296 : Nat) = 2 ^ 32 from rfl, ht, Nat.pow_add, Nat.pow_succ]
  have h1 : x / 2 ^ s < 2 ^ t * 2 := by
    rw [Nat.div_lt_iff_lt_mul (Nat.two_pow_pos s), Nat.mul_comm, ← e]; exact hx
  have h2 := Nat.lt_mul_div_succ x (Nat.two_pow_pos s)
  have h3 : x / 2 ^ s + 2 ≤ 2 ^ t * 2 := by omega
  have h4 := Nat.mul_le_mul_left (2 ^ s) h3
  rw [← e, Nat.mul_add] at h4
  rw [Nat.mul_add] at h2
  omega

/-- The bit of an answer that has still to be found is 0. -/
theorem bit_still {l : List Nat} (h : Lim l) {q s m : Nat} (hs : s < 32) (hv : val l = m * 2 ^ (32 * q + s + 1)) : at0 l q + 2 ^ s < 4294967296 := by
  refine limb_room (at0_lt h q) hs ?_
  rw [← val_bit h q s hs, hv, Nat.pow_succ, ← Nat.mul_assoc, Nat.mul_right_comm, Nat.mul_div_cancel _ (Nat.two_pow_pos _)]
  omega

theorem div_bit {A B k : Nat} (hB : 0 < B) (t : Nat) (h : A / 2 ^ k = 2 * (A / 2 ^ (k + 1)) + t) (ht : t ≤ 1) :
    (B ≤ 2 * (A / 2 ^ (k + 1) % B) + t ∧ A / 2 ^ k / B = 2 * (A / 2 ^ (k + 1) / B) + 1 ∧ A / 2 ^ k % B = 2 * (A / 2 ^ (k + 1) % B) + t - B) ∨
    (2 * (A / 2 ^ (k + 1) % B) + t < B ∧ A / 2 ^ k / B = 2 * (A / 2 ^ (k + 1) / B) ∧ A / 2 ^ k % B = 2 * (A / 2 ^ (k + 1) % B) + t) := by
  generalize A / 2 ^ k = n' at h
  generalize A / 2 ^ (k + 1) = n at h
  have h1 := Nat.div_add_mod n B
  have h2 := Nat.mod_lt n hB
  generalize hq : n / B = q at h1
  generalize hr : n % B = r at h1 h2
  have e : n' = (2 * r + t) + B * (2 * q) := by rw [h, ← h1, Nat.mul_left_comm]; omega
  subst e
  rw [Nat.add_mul_div_left _ _ hB, Nat.add_mul_mod_self_left]
  by_cases hc : B ≤ 2 * r + t
  · have h3 : (2 * r + t) / B = 1 := by
      rw [Nat.div_eq_sub_div hB hc, Nat.div_eq_of_lt (by omega)]
    have h4 : (2 * r + t) % B = 2 * r + t - B := by
      rw [Nat.mod_eq_sub_mod hc, Nat.mod_eq_of_lt (by omega)]
    exact .inl ⟨hc, by omega, h4⟩
  · exact .inr ⟨by omega, by rw [Nat.div_eq_of_lt (by omega)]; omega, Nat.mod_eq_of_lt (by omega)⟩

/-- With bits below k still to be found: the answer so far is row Q, the rest so far is worth R. -/
def BitDone (A B n k : Nat) (Q : List Nat) (R : Nat) : Prop := Q.length = n ∧ Lim Q ∧ val Q = A / 2 ^ k / B * 2 ^ k ∧ R = A / 2 ^ k % B

theorem BitDone.start {A B n : Nat} (hA : A < pw n) : BitDone A B n (32 * n) (List.replicate n 0) 0 :=
  ⟨by simp, lim_zeros n, by rw [val_zeros, ← pw_two, Nat.div_eq_of_lt hA, Nat.zero_div, Nat.zero_mul], by rw [← pw_two, Nat.div_eq_of_lt hA, Nat.zero_mod]⟩

theorem BitDone.no {A B n k : Nat} {Q : List Nat} {R : Nat} (h : BitDone A B n (k + 1) Q R) (hB : 0 < B) (hlt : 2 * R + (if bt A k then 1 else 0) < B) :
    BitDone A B n k Q (2 * R + (if bt A k then 1 else 0)) := by
  obtain ⟨h1, h2, h3, h4⟩ := h
  subst h4
  rcases div_bit (A := A) (k := k) hB _ (up_bit A k) (by split <;> omega) with ⟨h5, _⟩ | ⟨_, h6, h7⟩
  · omega
  · refine ⟨h1, h2, ?_, h7.symm⟩
    generalize A / 2 ^ (k + 1) / B = m at h3 h6
    rw [h3, h6, Nat.pow_succ, Nat.mul_comm (2 ^ k) 2, ← Nat.mul_assoc, Nat.mul_comm m 2]

theorem BitDone.room {A B n k q s : Nat} {Q : List Nat} {R : Nat} (h : BitDone A B n (k + 1) Q R) (hk : k = 32 * q + s) (hs : s < 32) : at0 Q q + 2 ^ s < 4294967296 := by
  obtain ⟨h1, h2, h3, h4⟩ := h
  exact bit_still h2 hs (by rw [h3, hk])

theorem BitDone.yes {A B n k q s : Nat} {Q : List Nat} {R : Nat} (h : BitDone A B n (k + 1) Q R) (hB : 0 < B) (hle : B ≤ 2 * R + (if bt A k then 1 else 0)) (hk : k = 32 * q + s) (hs : s < 32) (hq : q < n) :
    BitDone A B n k (Q.set q (at0 Q q + 2 ^ s)) (2 * R + (if bt A k then 1 else 0) - B) := by
  have hroom := h.room hk hs
  obtain ⟨h1, h2, h3, h4⟩ := h
  subst h4
  rcases div_bit (A := A) (k := k) hB _ (up_bit A k) (by split <;> omega) with ⟨_, h6, h7⟩ | ⟨h5, _⟩
  · refine ⟨by rw [List.length_set]; exact h1, lim_set h2 hroom q, ?_, h7.symm⟩
    generalize A / 2 ^ (k + 1) / B = m at h3 h6
    rw [at0_set_val (by omega), h3, h6, pw_two, ← Nat.pow_add, ← hk, Nat.pow_succ, Nat.add_mul, Nat.one_mul, Nat.mul_comm (2 ^ k) 2, ← Nat.mul_assoc, Nat.mul_comm m 2]
  · omega

theorem BitDone.end {A B n : Nat} {Q : List Nat} {R : Nat} (h : BitDone A B n 0 Q R) : val Q = A / B ∧ R = A % B := by
  obtain ⟨h1, h2, h3, h4⟩ := h
  rw [Nat.pow_zero, Nat.div_one] at h3 h4
  exact ⟨by rw [h3, Nat.mul_one], h4⟩

end Go.Proofs.YtepacminjfeliaaGreatDoor

/-
  The document's answer: its Div. No condition but the lists' lengths.
-/
namespace Go.Proofs.YtepacminjfeliaaGreatDoor
open Go.RowKit

/-- What the document's Div answers of numbers worth A and B. -/
def ODived (w : World) (A B : Nat) (e : Ending) (w' : World) : Prop :=
  (B = 0 ∧ e = .returned (.tuple #[.slice none 0 0, .slice none 0 0, .bool false]) ∧ Below w.heap.size w w') ∨
  (0 < B ∧ ∃ ad n cap l ad2 n2 cap2 l2, e = .returned (.tuple #[.slice ad n cap, .slice ad2 n2 cap2, .bool true]) ∧ Rd w' (.slice ad n cap) l ∧ Can l ∧ val l = A / B ∧ Rd w' (.slice ad2 n2 cap2) l2 ∧ Can l2 ∧ val l2 = A % B ∧ Below w.heap.size w w')

/-- In the document's Div, with k bits still to be found: the answer is block g. -/
def BitAt (w : World) (g A B n k : Nat) (v : Value) (wr : World) : Prop :=
  ∃ Q ad m cap l, v = .slice ad m cap ∧ Blk wr g Q ∧ Owns wr (g + 1) (.slice ad m cap) l ∧ Can l ∧ BitDone A B n k Q (val l) ∧ Below w.heap.size w wr

theorem Blk.below {w w' : World} {g : Nat} {L : List Nat} (h : Blk w g L) (hb : Below w.heap.size w w') : Blk w' g L := (hb.block g h.lt).trans h

theorem Owns.later {w : World} {base : Nat} {v : Value} {l : List Nat} (h : Owns w base v l) {w' : World} (hb : Below w.heap.size w w') : Owns w' base v l :=
  ⟨h.1, h.2.imp id fun ⟨g, cap, cur, hv, hg, hh, r⟩ => ⟨g, cap, cur, hv, hg, (hb.block g (Array.getElem?_eq_some_iff.1 hh).1).trans hh, r⟩⟩

set_option maxRecDepth 100000 in
set_option maxHeartbeats 4000000 in
theorem rdiv_any {w : World} {va vb : Value} {a b : List Nat} (ra : Rd w va a) (rb : Rd w vb b) (la : a.length ≤ 1000) (lb : b.length ≤ 1000) :
    Calls Tryz.prog 60 #[va, vb] w (ODived w (val a) (val b)) := by
  obtain ⟨i0, hi, hz0, hz1, hz2⟩ := info_parts Tryz.info36
  obtain ⟨ada, na, ca, rfl, -⟩ := id ra
  obtain ⟨adb, nb, cb, rfl, -⟩ := id rb
  obtain ⟨hna, -, hxa, -⟩ := ra.open
  have la' : na ≤ 1000 := by omega
  have hvb := val_lt b rb.lim
  have HVB := Lib.hid hvb; clear hvb
  have HA := Lib.hid hna; clear hna
  have HLA := Lib.hid la; clear la
  have HLB := Lib.hid lb; clear lb
  have hst := BitDone.start (A := val a) (B := val b) (n := na) (by rw [HA.out]; exact val_lt a hxa)
  have HST := Lib.hid hst; clear hst
  go_enter Tryz.func60, Tryz.ntmps60
  go_wp2_with fail
  refine (rnorm_any rb (by have := HLB.out; omega)).mono ?_
  rintro e w1 ⟨ad0, n0, c0, l0, rfl, -, r0, k0, v0, hb0⟩
  have V0 := Lib.hid v0; clear v0
  have hln := r0.open.1
  have HRA := Lib.hid ra; clear ra
  have HRB := Lib.hid rb; clear rb
  clear r0
  by_cases hz : n0 = 0
  · subst hz
    go_wp2
    go_ret3
    refine .inl ⟨?_, rfl, hb0⟩
    rw [← V0.out, List.eq_nil_of_length_eq_zero hln.symm]; rfl
  · have hB : 0 < val b := by
      rw [← V0.out]
      exact can_pos k0 (k := n0 - 1) (by omega)
    have HBP := Lib.hid hB; clear hB
    have HLN := Lib.hid hln; clear hln
    have hz1' : ((n0 : Int) == 0) = false := by simp; omega
    go_wp2_with (at_make; refine wpList_make_full _ rfl _ _ 38 rfl w1.heap.size 75 i0 (.int .u32 0) 1 Tryz.underlying38 hi hz0 hz1 _ _ _ _ na rfl rfl (by omega) (by omega) (by rw [hz2]; omega) (by unfold maxLen; omega) (Nat.le_refl _) ?_)
    intro w2 hown hgrow
    have hblk := made_row hown
    have hbel2 : Below w.heap.size w w2 := hb0.grown hgrow hb0.size (by simp)
    have hgw := hb0.size
    have hlt1 := hblk.lt
    obtain ⟨g, hg⟩ : ∃ g, g = w1.heap.size := ⟨_, rfl⟩
    rw [← hg] at hblk hgw hlt1 ⊢
    clear hown hgrow hg
    have hat0 : BitAt w g (val a) (val b) na (32 * na) (.slice none 0 0) w2 := ⟨_, none, 0, 0, [], rfl, hblk, Owns.nil _ _, Can.nil, HST.out, hbel2⟩
    have HAT0 := Lib.hid hat0; clear hat0
    clear hblk
    go_wp2
    go_loopw [8, 9] (fun v s wr => ∃ k : Nat, s = .int .i64 ((k : Int) - 1) ∧ k ≤ 32 * na ∧ BitAt w g (val a) (val b) na k v wr) (fun _ s _ => (intOf s + 1).toNat)
    case atStart => exact ⟨32 * na, by go_num, Nat.le_refl _, HAT0.out⟩
    case round =>
      obtain ⟨k0, rfl, hk, hat⟩ := hrel
      obtain ⟨Q, ad, m, cap, l, rfl, hQ, hO, hcan, hd, hbel⟩ := hat
      clear HAT0 HST hbel2
      have hr := hO.rd hcan.1
      obtain ⟨ad', n', cap', e', hr⟩ := hr
      simp only [Value.slice.injEq] at e'
      obtain ⟨rfl, rfl, rfl⟩ := e'
      by_cases h0 : k0 = 0
      · subst h0
        have hrQ : Rd wr (.slice (some ⟨g, 0, none⟩) na na) Q := hQ.rd hd.2.1 hd.1 (Nat.le_refl _)
        have hlQ := hd.1
        have hR : val l < val b := by rw [hd.2.2.2]; exact Nat.mod_lt _ HBP.out
        have hll : l.length ≤ b.length := hcan.len (Nat.lt_trans hR HVB.out)
        have hend := hd.end
        have HE := Lib.hid hend; clear hend
        have HLQ := Lib.hid hlQ; clear hlQ
        have HLL := Lib.hid hll; clear hll
        clear hd hO hQ hR
        go_wp2_with fail
        refine (rnorm_any hrQ (by have := HLQ.out; omega)).mono ?_
        rintro e w5 ⟨ad5, n5, cap5, l5, rfl, -, hr5, k5, v5, hb5⟩
        have V5 := Lib.hid (v5.trans HE.out.1); clear v5
        have hr' := hr.below hb5
        have hbel5 := onto hbel hb5
        clear hr hbel hb5
        go_wp2_with fail
        refine (rnorm_any hr' (by have := HLL.out; have := HLB.out; omega)).mono ?_
        rintro e w6 ⟨ad6, n6, cap6, l6, rfl, -, hr6, k6, v6, hb6⟩
        have V6 := Lib.hid (v6.trans HE.out.2); clear v6
        have hr5' := hr5.below hb6
        have hbel6 := onto hbel5 hb6
        go_wp2
        go_ret3
        exact .inr ⟨HBP.out, _, _, _, l5, _, _, _, l6, rfl, hr5', k5, V5.out, hr6, k6, V6.out, hbel6⟩
      · obtain ⟨k, rfl⟩ : ∃ k, k0 = k + 1 := ⟨k0 - 1, by omega⟩
        clear h0
        have e0 : ((k + 1 : Nat) : Int) - 1 = (k : Int) := by omega
        rw [e0]
        have hR : val l < val b := by rw [hd.2.2.2]; exact Nat.mod_lt _ HBP.out
        have hll : l.length ≤ b.length := hcan.len (Nat.lt_trans hR HVB.out)
        have hR2 : 2 * val l + 1 < pw (b.length + 1) := by
          have := HVB.out
          rw [pw_succ]; omega
        have HR2 := Lib.hid hR2; clear hR2 hR
        have HLL := Lib.hid hll; clear hll
        have HD := Lib.hid hd; clear hd
        have hgsz : g + 1 ≤ wr.heap.size := hQ.lt
        go_wp2_with fail
        refine (radd_any hr hr (by have := HLL.out; have := HLB.out; omega) (by have := HLL.out; have := HLB.out; omega)).mono ?_
        rintro e w3 ⟨ad3, n3, cap3, l3, rfl, hO3, hr3, k3, v3, hb3⟩
        have hO4 := hO3.mono hgsz
        have hQ3 := hQ.below hb3
        have hbel3 := onto hbel hb3
        have hb3size := hb3.size
        have V3 := Lib.hid v3; clear v3
        clear hO hr hO3 hQ hbel hb3
        have hll3 : l3.length ≤ b.length + 1 := k3.len (by rw [V3.out]; have := HR2.out; omega)
        have HL3 := Lib.hid hll3; clear hll3
        go_wp2_with fail
        refine (rbit_any (HRA.out.below hbel3) (by have := HLA.out; omega) k (by omega)).mono ?_
        rintro e w' ⟨rfl, rfl⟩
        cases hbt : bt (val a) k
        · have hv3 : val l3 = 2 * val l + (if bt (val a) k then 1 else 0) := by rw [hbt, V3.out]; simp; omega
          have VV := Lib.hid hv3; clear hv3
          clear hbt
          go_wp2_with fail
          refine (rsub_any hr3 (HRB.out.below hbel3) (by have := HL3.out; have := HLB.out; omega) (by have := HLB.out; omega)).mono ?_
          rintro e w4 (⟨hle, ad4, n4, c4, l4, rfl, hO5, hr4, k4, v4, hb4⟩ | ⟨hlt, rfl, hb4⟩)
          · have hO6 := hO5.mono (Nat.le_trans hgsz hb3size)
            obtain ⟨q, s, hks, hs, hq⟩ : ∃ q s, k = 32 * q + s ∧ s < 32 ∧ q < na := ⟨k / 32, k % 32, by omega, by omega, by omega⟩
            have hQ4 := hQ3.below hb4
            have hroom := HD.out.room hks hs
            have hcl : w4.cell? ⟨g, q, none⟩ = some (.int .u32 (at0 Q q : Int)) := hQ4.cell (by
              have := HD.out.1
              unfold at0; rw [List.getD_eq_getElem?_getD, List.getElem?_eq_getElem (by omega)]; rfl)
            have hfr := hQ4.free q
            have x1 : at0 Q q < 4294967296 := at0_lt HD.out.2.1 q
            have hyes := HD.out.yes HBP.out (by rw [← VV.out]; exact hle) hks hs hq
            rw [← VV.out, ← v4] at hyes
            obtain ⟨x, hx⟩ : ∃ x, x = at0 Q q := ⟨_, rfl⟩
            rw [← hx] at hcl x1 hroom hyes
            obtain ⟨y, hy⟩ : ∃ y, y = x + 2 ^ s := ⟨_, rfl⟩
            rw [← hy] at hyes
            have f1 : (k : Int).tdiv 32 = (q : Int) := by rw [Int.tdiv_eq_ediv_of_nonneg (by omega)]; omega
            have f2 : (k : Int).tmod 32 = (s : Int) := by rw [Int.tmod_eq_emod_of_nonneg (by omega)]; omega
            have f3 : (k : Int) / 32 = (q : Int) := by omega
            have f4 : (k : Int) % 32 = (s : Int) := by omega
            have f5 : ((x : Int) + 2 ^ s) % 4294967296 = (y : Int) := by
              have e : (x : Int) + 2 ^ s = (y : Int) := by rw [hy, Int.natCast_add, Int.natCast_pow]; rfl
              rw [e]; omega
            have hbel4 := onto hbel3 hb4
            have HYES := Lib.hid hyes; clear hyes
            have HB4 := Lib.hid ((hbel4.setCell (p := ⟨g, q, none⟩) hgw (.int .u32 (y : Int))).drew)
            have HQ4 := Lib.hid (hQ4.set q y)
            have HO6 := Lib.hid (ownsRow_setCell_below hO6 (a := ⟨g, q, none⟩) (Nat.lt_succ_self g) (.int .u32 (y : Int)))
            clear hks hx hroom hy hO6 hbel4 hQ4 hbel3 hQ3 hb4 hO5 hO4 hr3 v4
            go_wp2
            go_region
            go_wp2
            go_roundw
            case rel => exact ⟨k, by go_num, by omega, Q.set q y, ad4, n4, c4, l4, rfl, HQ4.out, HO6.out, k4, HYES.out, HB4.out⟩
            case measure => simp [intOf]
          · have hno := HD.out.no HBP.out (by rw [← VV.out]; exact hlt)
            rw [← VV.out] at hno
            have HNO := Lib.hid hno; clear hno
            have hQ4 := Lib.hid (hQ3.below hb4)
            have hO6 := Lib.hid (hO4.later hb4)
            have hbel4 := onto hbel3 hb4
            clear hbel3 hQ3 hb4 hO4 hr3
            go_wp2
            go_roundw
            case rel => exact ⟨k, by go_num, by omega, Q, _, _, _, l3, rfl, hQ4.out, hO6.out, k3, HNO.out, hbel4⟩
            case measure => simp [intOf]
        · have ht : (if bt (val a) k then 1 else 0) = 1 := by rw [hbt]; rfl
          have HT := Lib.hid ht; clear ht
          clear hbt
          go_wp2_with fail
          refine (radd_any (hr3.below (alb _ _)) (lit1 _ 1 (by decide)) (by have := HL3.out; have := HLB.out; omega) (by simp)).mono ?_
          rintro e w5 ⟨ad5, n5, cap5, l5, rfl, hO5, hr5, k5, v5, hb5⟩
          replace hb5 := past hb5
          have hO4 := hO5.mono (Nat.le_trans hgsz (Nat.le_trans hb3size (by simp)))
          have hQ3 := hQ3.below hb5
          have hbel5 := onto hbel3 hb5
          have hb3size := Nat.le_trans hb3size hb5.size
          have VV : Hid (val l5 = 2 * val l + (if bt (val a) k then 1 else 0)) := Lib.hid (by rw [HT.out, v5, V3.out, val1]; omega)
          clear hO5 hr3 hb5 v5 hbel3
          have HL3 : Hid (l5.length ≤ b.length + 1) := Lib.hid (k5.len (by rw [VV.out, HT.out]; exact HR2.out))
          go_wp2_with fail
          refine (rsub_any hr5 (HRB.out.below hbel5) (by have := HL3.out; have := HLB.out; omega) (by have := HLB.out; omega)).mono ?_
          rintro e w4 (⟨hle, ad4, n4, c4, l4, rfl, hO5, hr4, k4, v4, hb4⟩ | ⟨hlt, rfl, hb4⟩)
          · have hO6 := hO5.mono (Nat.le_trans hgsz hb3size)
            obtain ⟨q, s, hks, hs, hq⟩ : ∃ q s, k = 32 * q + s ∧ s < 32 ∧ q < na := ⟨k / 32, k % 32, by omega, by omega, by omega⟩
            have hQ4 := hQ3.below hb4
            have hroom := HD.out.room hks hs
            have hcl : w4.cell? ⟨g, q, none⟩ = some (.int .u32 (at0 Q q : Int)) := hQ4.cell (by
              have := HD.out.1
              unfold at0; rw [List.getD_eq_getElem?_getD, List.getElem?_eq_getElem (by omega)]; rfl)
            have hfr := hQ4.free q
            have x1 : at0 Q q < 4294967296 := at0_lt HD.out.2.1 q
            have hyes := HD.out.yes HBP.out (by rw [← VV.out]; exact hle) hks hs hq
            rw [← VV.out, ← v4] at hyes
            obtain ⟨x, hx⟩ : ∃ x, x = at0 Q q := ⟨_, rfl⟩
            rw [← hx] at hcl x1 hroom hyes
            obtain ⟨y, hy⟩ : ∃ y, y = x + 2 ^ s := ⟨_, rfl⟩
            rw [← hy] at hyes
            have f1 : (k : Int).tdiv 32 = (q : Int) := by rw [Int.tdiv_eq_ediv_of_nonneg (by omega)]; omega
            have f2 : (k : Int).tmod 32 = (s : Int) := by rw [Int.tmod_eq_emod_of_nonneg (by omega)]; omega
            have f3 : (k : Int) / 32 = (q : Int) := by omega
            have f4 : (k : Int) % 32 = (s : Int) := by omega
            have f5 : ((x : Int) + 2 ^ s) % 4294967296 = (y : Int) := by
              have e : (x : Int) + 2 ^ s = (y : Int) := by rw [hy, Int.natCast_add, Int.natCast_pow]; rfl
              rw [e]; omega
            have hbel4 := onto hbel5 hb4
            have HYES := Lib.hid hyes; clear hyes
            have HB4 := Lib.hid ((hbel4.setCell (p := ⟨g, q, none⟩) hgw (.int .u32 (y : Int))).drew)
            have HQ4 := Lib.hid (hQ4.set q y)
            have HO6 := Lib.hid (ownsRow_setCell_below hO6 (a := ⟨g, q, none⟩) (Nat.lt_succ_self g) (.int .u32 (y : Int)))
            clear hks hx hroom hy hO6 hbel4 hQ4 hbel5 hQ3 hb4 hO5 hO4 hr5 v4
            go_wp2
            go_region
            go_wp2
            go_roundw
            case rel => exact ⟨k, by go_num, by omega, Q.set q y, ad4, n4, c4, l4, rfl, HQ4.out, HO6.out, k4, HYES.out, HB4.out⟩
            case measure => simp [intOf]
          · have hno := HD.out.no HBP.out (by rw [← VV.out]; exact hlt)
            rw [← VV.out] at hno
            have HNO := Lib.hid hno; clear hno
            have hQ4 := Lib.hid (hQ3.below hb4)
            have hO6 := Lib.hid (hO4.later hb4)
            have hbel4 := onto hbel5 hb4
            clear hbel5 hQ3 hb4 hO4 hr5
            go_wp2
            go_roundw
            case rel => exact ⟨k, by go_num, by omega, Q, _, _, _, l5, rfl, hQ4.out, hO6.out, k5, HNO.out, hbel4⟩
            case measure => simp [intOf]

end Go.Proofs.YtepacminjfeliaaGreatDoor

/-
  The document's answer: its Gcd. No condition but the lists' lengths.
-/
namespace Go.Proofs.YtepacminjfeliaaGreatDoor
open Go.RowKit

/-- In the document's Gcd's loop. -/
def RGcdAt (w : World) (G m : Nat) (s t : Value) (wr : World) : Prop :=
  ∃ adx nx cx x ady ny cy y, s = .slice adx nx cx ∧ t = .slice ady ny cy ∧ Rd wr (.slice adx nx cx) x ∧ Rd wr (.slice ady ny cy) y ∧ Can x ∧ Can y ∧ Nat.gcd (val x) (val y) = G ∧ val y = m ∧ x.length ≤ 1000 ∧ y.length ≤ 1000 ∧ Below w.heap.size w wr

set_option maxRecDepth 100000 in
set_option maxHeartbeats 2000000 in
theorem rgcd_any {w : World} {va vb : Value} {a b : List Nat} (ra : Rd w va a) (rb : Rd w vb b) (la : a.length ≤ 1000) (lb : b.length ≤ 1000) :
    Calls Tryz.prog 59 #[va, vb] w (Made w (Nat.gcd (val a) (val b))) := by
  obtain ⟨G, hG⟩ : ∃ G, G = Nat.gcd (val a) (val b) := ⟨_, rfl⟩
  rw [← hG]
  have HG := Lib.hid hG; clear hG
  have HLA := Lib.hid la; clear la
  have HLB := Lib.hid lb; clear lb
  go_enter Tryz.func59, Tryz.ntmps59
  go_wp2_with fail
  refine (rnorm_any ra (by have := HLA.out; omega)).mono ?_
  rintro e w1 ⟨adx, nx, cx, x, rfl, -, hrx, hcx, hvx, hb1⟩
  have HVX := Lib.hid hvx; clear hvx
  have rb1 := rb.below hb1
  go_wp2_with fail
  refine (rnorm_any rb1 (by have := HLB.out; omega)).mono ?_
  rintro e w2 ⟨ady, ny, cy, y, rfl, -, hry, hcy, hvy, hb2⟩
  have HVY := Lib.hid hvy; clear hvy
  have hrx2 := hrx.below hb2
  have hlx : x.length ≤ a.length := hcx.len (by rw [HVX.out]; exact val_lt a ra.lim)
  have hly : y.length ≤ b.length := hcy.len (by rw [HVY.out]; exact val_lt b rb.lim)
  have hat : RGcdAt w G (val y) (.slice adx nx cx) (.slice ady ny cy) w2 :=
    ⟨adx, nx, cx, x, ady, ny, cy, y, rfl, rfl, hrx2, hry, hcx, hcy, by rw [HG.out, HVX.out, HVY.out], rfl, by have := HLA.out; omega, by have := HLB.out; omega, onto hb1 hb2⟩
  have HAT := Lib.hid hat
  clear hrx hrx2 hry rb1 hlx hly hat hb1 hb2
  go_wp2_with fail
  go_loopg [5, 6] (val y) (fun m s t wr => RGcdAt w G m s t wr)
  case atStart => exact HAT.out
  case round =>
    clear HAT
    obtain ⟨adx, nx, cx, x, ady, ny, cy, y, rfl, rfl, hrx, hry, hcx, hcy, hgcd, hm, hlx, hly, hbel⟩ := hrel
    have hny := hry.open.1
    have HNY := Lib.hid hny; clear hny
    have HGC := Lib.hid hgcd; clear hgcd
    have HMM := Lib.hid hm; clear hm
    have HLX := Lib.hid hlx; clear hlx
    have HLY := Lib.hid hly; clear hly
    by_cases c2 : ny = 0
    · subst c2
      have hv : val x = G := by
        rw [← HGC.out, List.eq_nil_of_length_eq_zero HNY.out.symm]
        exact (Nat.gcd_zero_right _).symm
      have HV := Lib.hid hv; clear hv
      go_wp2
      go_ret
      exact ⟨adx, nx, cx, x, rfl, hrx, hcx, HV.out, hbel⟩
    · have c3 : 0 < ny := by omega
      have hy0 : 0 < val y := can_pos hcy (k := ny - 1) (by have := HNY.out; omega)
      have HY0 := Lib.hid hy0; clear hy0
      clear c2
      go_wp2_with fail
      refine (rdiv_any hrx hry HLX.out HLY.out).mono ?_
      rintro e w3 (⟨h0, _⟩ | ⟨_, adq, nq, cq, q, adr, nr, cr, r, rfl, -, -, -, hrr, hcr, hvr, hb3⟩)
      · exact absurd h0 (by have := HY0.out; omega)
      · have hry3 := hry.below hb3
        have hbel3 := onto hbel hb3
        have hlt : val r < val y := by rw [hvr]; exact Nat.mod_lt _ HY0.out
        have hlr : r.length ≤ 1000 := Nat.le_trans (hcr.len (Nat.lt_trans hlt (val_lt y hcy.1))) HLY.out
        have hgr : Nat.gcd (val y) (val r) = G := by rw [hvr, Nat.gcd_comm, ← Nat.gcd_rec, Nat.gcd_comm]; exact HGC.out
        have HAT2 := Lib.hid (⟨ady, ny, cy, y, adr, nr, cr, r, rfl, rfl, hry3, hrr, hcy, hcr, hgr, rfl, HLY.out, hlr, hbel3⟩ : RGcdAt w G (val r) (.slice ady ny cy) (.slice adr nr cr) w3)
        have HLM := Lib.hid hlt
        clear hry hrx hry3 hrr hlt hlr hgr hvr
        go_wp2
        go_roundg (val r)
        case measure => have := HMM.out; have := HLM.out; omega
        case rel => exact HAT2.out

end Go.Proofs.YtepacminjfeliaaGreatDoor

/-
  The document's text of a number by its parts. Each part has 450 limbs at most; what is below is not 0.
-/
namespace Go.Proofs.YtepacminjfeliaaGreatDoor
open Go.RowKit

/-- A number in a box. -/
def Box3 (W : World) (g : Nat) (neg : Bool) (vp vq : Value) : Prop := W.heap[g]? = some (.cells #[.bool neg, vp, vq] 49)

theorem Box3.cell0 {W : World} {g : Nat} {neg : Bool} {vp vq : Value} (h : Box3 W g neg vp vq) : W.cell? ⟨g, 0, none⟩ = some (.bool neg) := by
  unfold Box3 at h
  simp [World.cell?, h]

theorem Box3.cell1 {W : World} {g : Nat} {neg : Bool} {vp vq : Value} (h : Box3 W g neg vp vq) : W.cell? ⟨g, 1, none⟩ = some vp := by
  unfold Box3 at h
  simp [World.cell?, h]

theorem Box3.cell2 {W : World} {g : Nat} {neg : Bool} {vp vq : Value} (h : Box3 W g neg vp vq) : W.cell? ⟨g, 2, none⟩ = some vq := by
  unfold Box3 at h
  simp [World.cell?, h]

theorem Box3.below {W W' : World} {g : Nat} {neg : Bool} {vp vq : Value} (h : Box3 W g neg vp vq) (hb : Below W.heap.size W W') : Box3 W' g neg vp vq := below_heap hb h

theorem rdiv_yes {w : World} {va vb : Value} {a b : List Nat} (ra : Rd w va a) (rb : Rd w vb b) (la : a.length ≤ 1000) (lb : b.length ≤ 1000) (h : 0 < val b) :
    Calls Tryz.prog 60 #[va, vb] w fun e w' => ∃ ad n cap l ad2 n2 cap2 l2, e = .returned (.tuple #[.slice ad n cap, .slice ad2 n2 cap2, .bool true]) ∧ Rd w' (.slice ad n cap) l ∧ Can l ∧ val l = val a / val b ∧ Rd w' (.slice ad2 n2 cap2) l2 ∧ Can l2 ∧ val l2 = val a % val b ∧ Below w.heap.size w w' :=
  (rdiv_any ra rb la lb).mono fun e w' h' => by
    rcases h' with ⟨h', _⟩ | ⟨_, h'⟩
    · omega
    · exact h'

set_option maxRecDepth 100000 in
set_option maxHeartbeats 8000000 in
theorem rtxt_any {w : World} {vp vq : Value} {P Q : List Nat} (neg : Bool) (rp : Rd w vp P) (rq : Rd w vq Q) (lp : P.length ≤ 450) (lq : Q.length ≤ 450) (hq : val Q ≠ 0) :
    Calls Tryz.prog 32 #[numV neg vp vq] w fun e w' => ∃ s : ByteArray, e = .returned (.string s) ∧ by0 s = rtxt (qv neg (val P) (val Q)) ∧ Below w.heap.size w w' := by
  obtain ⟨adp, np, cp, rfl, -⟩ := id rp
  obtain ⟨adq, nq, cq, rfl, -⟩ := id rq
  obtain ⟨G, hG⟩ : ∃ G, G = Nat.gcd (val P) (val Q) := ⟨_, rfl⟩
  obtain ⟨A, hA⟩ : ∃ A, A = val P / G := ⟨_, rfl⟩
  obtain ⟨B, hB⟩ : ∃ B, B = val Q / G := ⟨_, rfl⟩
  have htx := qv_text neg (val P) hq
  rw [← hG, ← hA, ← hB] at htx
  have HTX := Lib.hid htx
  have hg0 : 0 < G := by rw [hG]; exact Nat.gcd_pos_of_pos_right _ (Nat.pos_of_ne_zero hq)
  have hgq : G ≤ val Q := by rw [hG]; exact Nat.gcd_le_right _ (Nat.pos_of_ne_zero hq)
  have HG0 := Lib.hid hg0
  have HGQ := Lib.hid hgq
  have HQ1 := Lib.hid (show 0 < B by rw [hB]; exact Nat.div_pos hgq hg0)
  have HAA := Lib.hid hA
  have HBB := Lib.hid hB
  have HGG := Lib.hid hG
  clear htx hg0 hgq hA hB hG
  have hlimp := Lib.hid rp.lim
  have hlimq := Lib.hid rq.lim
  clear hq
  have HB := alb w (.cells #[.bool neg, .slice adp np cp, .slice adq nq cq] 49)
  replace rp := rp.below HB
  replace rq := rq.below HB
  have bx : Box3 (w.alloc (.cells #[.bool neg, .slice adp np cp, .slice adq nq cq] 49)) w.heap.size neg (.slice adp np cp) (.slice adq nq cq) := heap_alloc_new w _
  go_enter Tryz.func32, Tryz.ntmps32
  go_wp2_with fail
  refine (rgcd_any rp rq (by omega) (by omega)).mono ?_
  rintro e w1 ⟨adg, ng, cg, lg, rfl, rg, kg, vg, hb⟩
  replace rp := rp.below hb
  replace rq := rq.below hb
  replace bx := bx.below hb
  replace HB := onto HB hb
  clear hb
  have Hvg := Lib.hid vg; clear vg
  have bg : lg.length ≤ 450 := can_small kg hlimq.out lq (by rw [Hvg.out, ← HGG.out]; exact HGQ.out)
  have c0 := bx.cell0
  have c1 := bx.cell1
  have c2 := bx.cell2
  go_wp2_with fail
  refine (rdiv_yes rp rg (by omega) (by omega) (by rw [Hvg.out, ← HGG.out]; exact HG0.out)).mono ?_
  rintro e w2 ⟨ada, na, ca, la, ad2, n2, ca2, l2, rfl, ra, ka, va, -, -, -, hb⟩
  replace rp := rp.below hb
  replace rq := rq.below hb
  replace bx := bx.below hb
  replace rg := rg.below hb
  replace HB := onto HB hb
  clear hb
  have Hva := Lib.hid va; clear va
  have ba : la.length ≤ 450 := can_small ka hlimp.out lp (by rw [Hva.out]; exact Nat.div_le_self _ _)
  clear c0 c1 c2
  have c0 := bx.cell0
  have c1 := bx.cell1
  have c2 := bx.cell2
  go_wp2_with fail
  refine (rdiv_yes rq rg (by omega) (by omega) (by rw [Hvg.out, ← HGG.out]; exact HG0.out)).mono ?_
  rintro e w3 ⟨adb, nb, cb, lb, ad3, n3, ca3, l3, rfl, rb, kb, vb, -, -, -, hb⟩
  replace rp := rp.below hb
  replace rq := rq.below hb
  replace bx := bx.below hb
  replace rg := rg.below hb
  replace ra := ra.below hb
  replace HB := onto HB hb
  clear hb
  have Hvb := Lib.hid vb; clear vb
  have bb : lb.length ≤ 450 := can_small kb hlimq.out lq (by rw [Hvb.out]; exact Nat.div_le_self _ _)
  clear c0 c1 c2
  go_wp2_with fail
  refine (rtext_any ra (by omega)).mono ?_
  rintro e w4 ⟨s, rfl, ds, ns, hb⟩
  replace rp := rp.below hb
  replace rq := rq.below hb
  replace bx := bx.below hb
  replace rg := rg.below hb
  replace ra := ra.below hb
  replace rb := rb.below hb
  replace HB := onto HB hb
  clear hb
  have Hns := Lib.hid ns; clear ns
  have hs : s.size ≤ 4500 := text_size ds ka.1 Hns.out ba (by decide)
  have hsd := texted_dec ds (Hns.out.trans (Hva.out.trans (by rw [Hvg.out, ← HGG.out, ← HAA.out])))
  have HSD := Lib.hid hsd
  clear ds hsd
  have hna := len_zero ra ka
  rw [Hva.out, Hvg.out, ← HGG.out, ← HAA.out] at hna
  have HNA := Lib.hid hna; clear hna
  have c0 := bx.cell0
  have c1 := bx.cell1
  have c2 := bx.cell2
  have hbq : val lb = B := by rw [Hvb.out, Hvg.out, ← HGG.out, ← HBB.out]
  have HBQ := Lib.hid hbq; clear hbq
  by_cases h1 : B = 1
  · cases neg
    · have hmin := Lib.hid (show ¬ (false = true ∧ A ≠ 0) by simp)
      have HT2 := Lib.hid (HTX.out.trans (show _ = [] ++ (dec A ++ []) by rw [if_neg hmin.out, if_pos h1]))
      go_wp2_with fail
      refine (rcmp_any (rb.below (alb _ _)) (lit1 _ 1 (by decide)) (by omega) (by decide)).mono ?_
      rintro e w5 ⟨rfl, hb⟩
      replace hb := past hb
      replace rb := rb.below hb
      replace HB := onto HB hb
      clear hb
      rw [tell_eq (by rw [HBQ.out, val1]; exact h1)]
      go_wp2
      go_ret
      exact ⟨s, rfl, by rw [HT2.out, List.append_nil, HSD.out]; rfl, HB⟩
    · by_cases hp0 : A ≠ 0
      · have z : 0 < na := by have := HNA.out; omega
        have HT2 := Lib.hid (HTX.out.trans (show _ = [45] ++ (dec A ++ []) by rw [if_pos (And.intro rfl hp0), if_pos h1]))
        go_wp2_with fail
        refine (rcmp_any (rb.below (alb _ _)) (lit1 _ 1 (by decide)) (by omega) (by decide)).mono ?_
        rintro e w5 ⟨rfl, hb⟩
        replace hb := past hb
        replace rb := rb.below hb
        replace HB := onto HB hb
        clear hb
        rw [tell_eq (by rw [HBQ.out, val1]; exact h1)]
        go_wp2
        go_ret
        exact ⟨(⟨#[45]⟩ ++ s : ByteArray), rfl, by rw [HT2.out, List.append_nil, by0_append, HSD.out], HB⟩
      · obtain rfl : na = 0 := HNA.out.2 (by omega)
        have hmin := Lib.hid (show ¬ (true = true ∧ A ≠ 0) from fun h => hp0 h.2)
        have HT2 := Lib.hid (HTX.out.trans (show _ = [] ++ (dec A ++ []) by rw [if_neg hmin.out, if_pos h1]))
        go_wp2_with fail
        refine (rcmp_any (rb.below (alb _ _)) (lit1 _ 1 (by decide)) (by omega) (by decide)).mono ?_
        rintro e w5 ⟨rfl, hb⟩
        replace hb := past hb
        replace rb := rb.below hb
        replace HB := onto HB hb
        clear hb
        rw [tell_eq (by rw [HBQ.out, val1]; exact h1)]
        go_wp2
        go_ret
        exact ⟨s, rfl, by rw [HT2.out, List.append_nil, HSD.out]; rfl, HB⟩
  · cases neg
    · have hmin := Lib.hid (show ¬ (false = true ∧ A ≠ 0) by simp)
      have HT2 := Lib.hid (HTX.out.trans (show _ = [] ++ (dec A ++ (47 :: dec B)) by rw [if_neg hmin.out, if_neg h1]))
      go_wp2_with fail
      refine (rcmp_any (rb.below (alb _ _)) (lit1 _ 1 (by decide)) (by omega) (by decide)).mono ?_
      rintro e w5 ⟨rfl, hb⟩
      replace hb := past hb
      replace rb := rb.below hb
      replace HB := onto HB hb
      clear hb
      rw [tell_gt (by rw [HBQ.out, val1]; have := HQ1.out; omega)]
      go_wp2_with fail
      refine (rtext_any rb (by omega)).mono ?_
      rintro e w6 ⟨t, rfl, dt, nt, hb⟩
      replace rb := rb.below hb
      replace HB := onto HB hb
      clear hb
      have Hnt := Lib.hid nt; clear nt
      have ht : t.size ≤ 4500 := text_size dt kb.1 Hnt.out bb (by decide)
      have HTD := Lib.hid (texted_dec dt (Hnt.out.trans HBQ.out))
      clear dt
      go_wp2
      go_ret
      exact ⟨(s ++ ⟨#[47]⟩ ++ t : ByteArray), rfl, by rw [HT2.out, by0_append, by0_append, HTD.out, HSD.out, List.append_assoc]; rfl, HB⟩
    · by_cases hp0 : A ≠ 0
      · have z : 0 < na := by have := HNA.out; omega
        have HT2 := Lib.hid (HTX.out.trans (show _ = [45] ++ (dec A ++ (47 :: dec B)) by rw [if_pos (And.intro rfl hp0), if_neg h1]))
        go_wp2_with fail
        refine (rcmp_any (rb.below (alb _ _)) (lit1 _ 1 (by decide)) (by omega) (by decide)).mono ?_
        rintro e w5 ⟨rfl, hb⟩
        replace hb := past hb
        replace rb := rb.below hb
        replace HB := onto HB hb
        clear hb
        rw [tell_gt (by rw [HBQ.out, val1]; have := HQ1.out; omega)]
        go_wp2_with fail
        refine (rtext_any rb (by omega)).mono ?_
        rintro e w6 ⟨t, rfl, dt, nt, hb⟩
        replace rb := rb.below hb
        replace HB := onto HB hb
        clear hb
        have Hnt := Lib.hid nt; clear nt
        have ht : t.size ≤ 4500 := text_size dt kb.1 Hnt.out bb (by decide)
        have HTD := Lib.hid (texted_dec dt (Hnt.out.trans HBQ.out))
        clear dt
        go_wp2
        go_ret
        exact ⟨((⟨#[45]⟩ ++ s : ByteArray) ++ ⟨#[47]⟩ ++ t : ByteArray), rfl, by rw [HT2.out, by0_append, by0_append, HTD.out, by0_append, HSD.out, List.append_assoc, List.append_assoc]; rfl, HB⟩
      · obtain rfl : na = 0 := HNA.out.2 (by omega)
        have hmin := Lib.hid (show ¬ (true = true ∧ A ≠ 0) from fun h => hp0 h.2)
        have HT2 := Lib.hid (HTX.out.trans (show _ = [] ++ (dec A ++ (47 :: dec B)) by rw [if_neg hmin.out, if_neg h1]))
        go_wp2_with fail
        refine (rcmp_any (rb.below (alb _ _)) (lit1 _ 1 (by decide)) (by omega) (by decide)).mono ?_
        rintro e w5 ⟨rfl, hb⟩
        replace hb := past hb
        replace rb := rb.below hb
        replace HB := onto HB hb
        clear hb
        rw [tell_gt (by rw [HBQ.out, val1]; have := HQ1.out; omega)]
        go_wp2_with fail
        refine (rtext_any rb (by omega)).mono ?_
        rintro e w6 ⟨t, rfl, dt, nt, hb⟩
        replace rb := rb.below hb
        replace HB := onto HB hb
        clear hb
        have Hnt := Lib.hid nt; clear nt
        have ht : t.size ≤ 4500 := text_size dt kb.1 Hnt.out bb (by decide)
        have HTD := Lib.hid (texted_dec dt (Hnt.out.trans HBQ.out))
        clear dt
        go_wp2
        go_ret
        exact ⟨(s ++ ⟨#[47]⟩ ++ t : ByteArray), rfl, by rw [HT2.out, by0_append, by0_append, HTD.out, HSD.out, List.append_assoc]; rfl, HB⟩

end Go.Proofs.YtepacminjfeliaaGreatDoor
