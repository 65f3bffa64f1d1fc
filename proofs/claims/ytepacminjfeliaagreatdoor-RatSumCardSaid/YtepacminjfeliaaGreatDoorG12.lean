/-
  A part of the proof: QOrd, QCalls.
-/
import Derived.Test.YtepacminjfeliaaGreatDoorG9
import Derived.Test.YtepacminjfeliaaGreatDoorG11
/-
  rat's order of numbers, and that of what is below alone. Parts have 400 limbs at most.
-/
namespace Go.Proofs.YtepacminjfeliaaGreatDoor
open Go.RowKit

/-- Two numbers' boxes at a call. -/
theorem entry2b {w : World} {vp vq vr vs : Value} {P Q R S : List Nat} (n m : Bool) (rp : Rd w vp P) (rq : Rd w vq Q) (rr : Rd w vr R) (rs : Rd w vs S) :
    Hold w w.heap.size (w.heap.size + 1) n m vp vq vr vs [(vp, P), (vq, Q), (vr, R), (vs, S)] ((w.alloc (.cells #[.bool n, vp, vq] 40)).alloc (.cells #[.bool m, vr, vs] 40)) := by
  have h1 := alb w (.cells #[.bool n, vp, vq] 40)
  have h2 := alb (w.alloc (.cells #[.bool n, vp, vq] 40)) (.cells #[.bool m, vr, vs] 40)
  have b1 : Bx3 (w.alloc (.cells #[.bool n, vp, vq] 40)) w.heap.size n vp vq := heap_alloc_new w _
  have b2 := heap_alloc_new (w.alloc (.cells #[.bool n, vp, vq] 40)) (.cells #[.bool m, vr, vs] 40)
  rw [alloc_size] at b2
  have hb := onto h1 h2
  refine ⟨⟨b1.below h2, b2⟩, fun r hr => ?_, hb⟩
  simp only [List.mem_cons, List.not_mem_nil, or_false] at hr
  rcases hr with rfl | rfl | rfl | rfl
  · exact rp.below hb
  · exact rq.below hb
  · exact rr.below hb
  · exact rs.below hb

theorem cmp_nums {a b : Rat} {n m : Bool} {P R Q S : Nat} (hP : sgn n P = a.num) (hQ : Q = a.den) (hR : sgn m R = b.num) (hS : S = b.den) (hn : n = true → a ≠ 0) (hm : m = true → b ≠ 0) :
    cmpQ a b = if n then (if m then -tell (P * S) (R * Q) else -1) else (if m then 1 else tell (P * S) (R * Q)) := by
  have hq : Q ≠ 0 := by rw [hQ]; exact a.den_nz
  have hs : S ≠ 0 := by rw [hS]; exact b.den_nz
  rw [← parts_qv hP hQ, ← parts_qv hR hS]
  cases n
  · cases m
    · exact cmp_pos P R hq hs
    · exact cmp_pn P hq hs (fun e => hm rfl ((parts_zero hR).1 e))
  · cases m
    · exact cmp_np R hq hs (fun e => hn rfl ((parts_zero hP).1 e))
    · exact cmp_neg P R hq hs

set_option maxRecDepth 100000 in
set_option maxHeartbeats 16000000 in
theorem ncmp_any {w : World} {vp vq vr vs : Value} {a b : Rat} (n m : Bool) (ha : IsNum w n vp vq a) (hb : IsNum w m vr vs b) (hn : n = true → a ≠ 0) (hm : m = true → b ≠ 0) (fa : FitsQ a) (fb : FitsQ b) :
    Calls Tryz.prog 40 #[numV n vp vq, numV m vr vs] w fun e w' => e = .returned (.int .i64 (cmpQ a b)) ∧ Below w.heap.size w w' := by
  obtain ⟨P, Q, rp, rq, kp, kq, hP, hQ⟩ := ha
  obtain ⟨R, S, rr, rs, kr, ks, hR, hS⟩ := hb
  rw [cmp_nums hP hQ hR hS hn hm]
  obtain ⟨adp, np, cp, rfl, -⟩ := id rp
  obtain ⟨adq, nq, cq, rfl, -⟩ := id rq
  obtain ⟨adr, nr, cr, rfl, -⟩ := id rr
  obtain ⟨ads, ns, cs, rfl, -⟩ := id rs
  have lp := fa.up kp hP
  have lq := fa.down kq hQ
  have lr := fb.up kr hR
  have ls := fb.down ks hS
  have hH := entry2b n m rp rq rr rs
  have mp := rp.lim
  have mq := rq.lim
  have mr := rr.lim
  have ms := rs.lim
  clear rp rq rr rs hn hm hP hQ hR hS fa fb
  have hS0 := hH.below (bel_drew (Below.refl _ _))
  clear hH
  generalize hT : tell (val P * val S) (val R * val Q) = T
  have HT := Lib.hid hT; clear hT
  go_enter Tryz.func40, Tryz.ntmps40
  go_wp2_with fail
  go_region_held3 (fun W => (W.cell? ⟨w.heap.size, 0, none⟩ = some (.bool n) ∧ W.cell? ⟨w.heap.size, 1, none⟩ = some (.slice adp np cp) ∧ W.cell? ⟨w.heap.size, 2, none⟩ = some (.slice adq nq cq) ∧ W.cell? ⟨w.heap.size + 1, 0, none⟩ = some (.bool m) ∧ W.cell? ⟨w.heap.size + 1, 1, none⟩ = some (.slice adr nr cr) ∧ W.cell? ⟨w.heap.size + 1, 2, none⟩ = some (.slice ads ns cs)) ∧ Hold w w.heap.size (w.heap.size + 1) n m (.slice adp np cp) (.slice adq nq cq) (.slice adr nr cr) (.slice ads ns cs) [(.slice adp np cp, P), (.slice adq nq cq, Q), (.slice adr nr cr, R), (.slice ads ns cs, S)] W)
    ((exact Hold.six (by assumption)))
    ((first
      | ((go_split_ands; go_at_call 63; (with_reducible (show Calls _ _ #[.slice adp np cp, .slice ads ns cs] _ _)); refine (mul_any (va := .slice adp np cp) (vb := .slice ads ns cs) (a := P) (b := S) (Hold.rd (by assumption) (by simp)) (Hold.rd (by assumption) (by simp)) (by omega) (by omega)).mono ?_; rintro e u6 ⟨ad6, n6, i6, l6, rfl, r6, k6, v6, b6⟩; (try replace r7 := r7.below b6); have hS7 : Hold w w.heap.size (w.heap.size + 1) n m (.slice adp np cp) (.slice adq nq cq) (.slice adr nr cr) (.slice ads ns cs) [(.slice adp np cp, P), (.slice adq nq cq, Q), (.slice adr nr cr, R), (.slice ads ns cs, S)] u6 := Hold.below (by assumption) b6; have j6 : l6.length ≤ 400 + 400 := mul_small k6 mp ms lp ls v6))
      | ((go_split_ands; go_at_call 63; (with_reducible (show Calls _ _ #[.slice adr nr cr, .slice adq nq cq] _ _)); refine (mul_any (va := .slice adr nr cr) (vb := .slice adq nq cq) (a := R) (b := Q) (Hold.rd (by assumption) (by simp)) (Hold.rd (by assumption) (by simp)) (by omega) (by omega)).mono ?_; rintro e u7 ⟨ad7, n7, i7, l7, rfl, r7, k7, v7, b7⟩; (try replace r6 := r6.below b7); have hS8 : Hold w w.heap.size (w.heap.size + 1) n m (.slice adp np cp) (.slice adq nq cq) (.slice adr nr cr) (.slice ads ns cs) [(.slice adp np cp, P), (.slice adq nq cq, Q), (.slice adr nr cr, R), (.slice ads ns cs, S)] u7 := Hold.below (by assumption) b7; have j7 : l7.length ≤ 400 + 400 := mul_small k7 mr mq lr lq v7))
      | ((go_split_ands; go_at_call 65; refine (cmp_at r6 r7 (by omega) (by omega) (t := T) (by rw [v6, v7]; exact HT.out)).mono ?_; rintro e u8 ⟨rfl, b8⟩; have hS9 : Hold w w.heap.size (w.heap.size + 1) n m (.slice adp np cp) (.slice adq nq cq) (.slice adr nr cr) (.slice ads ns cs) [(.slice adp np cp, P), (.slice adq nq cq, Q), (.slice adr nr cr, R), (.slice ads ns cs, S)] u8 := Hold.below (by assumption) b8))))
  all_goals
    obtain ⟨⟨c0, c1, c2, c3, c4, c5⟩, -⟩ := hS9.six
    have HB := hS9.bel
    clear hS9 hS8 hS7 hS0 r6 r7
    cases n
    · cases m
      · go_wp2
        go_ret
        exact ⟨rfl, HB⟩
      · go_wp2
        go_ret
        exact ⟨rfl, HB⟩
    · cases m
      · go_wp2
        go_ret
        exact ⟨rfl, HB⟩
      · have hw : wrap64 (-T) = -T := by
          have hb : -1 ≤ T ∧ T ≤ 1 := by rw [← HT.out]; unfold tell; split <;> (try split) <;> omega
          unfold wrap64; omega
        go_wp2
        go_ret
        exact ⟨rfl, HB⟩

end Go.Proofs.YtepacminjfeliaaGreatDoor

/-
  rat's calls: Add, Sub, Mul, Div, Neg, Cmp and Norm of texts. The texts have 1000000 bytes at most.
-/
namespace Go.Proofs.YtepacminjfeliaaGreatDoor
open Go.RowKit

set_option maxRecDepth 100000 in
set_option maxHeartbeats 8000000 in
theorem made_any (a b : ByteArray) (w : World) (g : Nat) {q : Rat} (eg : ∀ args w, (callFunc g args).run Tryz.prog w = .ok (.enter g args) w) (ha : a.size ≤ 1000000) (hb : b.size ≤ 1000000)
    (hg : Good (by0 a) → Good (by0 b) → ∀ (W : World) (n m : Bool) (vp vq vr vs : Value), IsNum W n vp vq (worth (by0 a)) → (n = true → worth (by0 a) ≠ 0) → IsNum W m vr vs (worth (by0 b)) → (m = true → worth (by0 b) ≠ 0) →
      Calls Tryz.prog g #[numV n vp vq, numV m vr vs] W (NumQ W q)) :
    Calls Tryz.prog 33 #[.string a, .string b, .func (.func g) #[] #[]] w (Ans w (Good (by0 a) ∧ Good (by0 b)) q) := by
  have hbo := Lib.hid (both_any a b w ha hb)
  have HG := Lib.hid hg
  clear ha hb hg
  go_enter Tryz.func33, Tryz.ntmps33
  go_wp2_with fail
  refine hbo.out.mono ?_
  rintro e w1 ⟨n, adp, np, cp, adq, nq, cq, m, adr, nr, cr, ads, ns, cs, t, rfl, HB, hh⟩
  have h1 := alb w1 (.cells #[.bool n, .slice adp np cp, .slice adq nq cq] 40)
  have h2 := alb (w1.alloc (.cells #[.bool n, .slice adp np cp, .slice adq nq cq] 40)) (.cells #[.bool m, .slice adr nr cr, .slice ads ns cs] 40)
  have hal := onto h1 h2
  rcases hh with ⟨hno, rfl⟩ | ⟨⟨hga, hgb⟩, rfl, iA, nA, iB, nB⟩
  · have HN := Lib.hid hno; clear hno
    go_wp2
    go_ret2
    exact ⟨onto HB hal, .inl ⟨HN.out, rfl⟩⟩
  · have HO := Lib.hid (And.intro hga hgb)
    have hq := Lib.hid (HG.out hga hgb _ n m _ _ _ _ (iA.below hal) nA (iB.below hal) nB)
    clear hga hgb nA nB iA iB
    have b1 : Bx3 (w1.alloc (.cells #[.bool n, .slice adp np cp, .slice adq nq cq] 40)) w1.heap.size n (.slice adp np cp) (.slice adq nq cq) := heap_alloc_new w1 _
    have b2 := heap_alloc_new (w1.alloc (.cells #[.bool n, .slice adp np cp, .slice adq nq cq] 40)) (.cells #[.bool m, .slice adr nr cr, .slice ads ns cs] 40)
    replace HB := onto HB hal
    clear b1 b2 h1 h2 hal
    go_wp2_with fail
    refine hq.out.mono ?_
    rintro e w2 ⟨neg, ad3, n3, i3, ad4, n4, i4, rfl, i5, z5, hb⟩
    replace HB := onto HB hb
    clear hb
    have HT := Lib.hid (ntext_any neg i5 z5)
    clear i5 z5
    go_wp2_with fail
    refine HT.out.mono ?_
    rintro e w3 ⟨hb, hh⟩
    replace HB := onto HB hb
    clear hb
    rcases hh with ⟨hl, t, rfl, ht⟩ | ⟨hl, rfl⟩
    · have HL := Lib.hid hl; clear hl
      have HT2 := Lib.hid ht; clear ht
      go_wp2
      go_ret2
      exact ⟨HB, .inr ⟨HO.out, .inl ⟨HL.out, t, rfl, HT2.out⟩⟩⟩
    · have HL := Lib.hid hl; clear hl
      go_wp2
      go_ret2
      exact ⟨HB, .inr ⟨HO.out, .inr ⟨HL.out, rfl⟩⟩⟩

set_option maxRecDepth 100000 in
set_option maxHeartbeats 8000000 in
theorem nadd_any (a b : ByteArray) (w : World) (ha : a.size ≤ 1000000) (hb : b.size ≤ 1000000) : Calls Tryz.prog 9 #[.string a, .string b] w (Ans w (Good (by0 a) ∧ Good (by0 b)) (worth (by0 a) + worth (by0 b))) := by
  have hm := Lib.hid (made_any a b w 34 (q := worth (by0 a) + worth (by0 b)) (enters_of Tryz.func34 (by kernel_rfl) rfl) ha hb (fun ga gb W n m vp vq vr vs iA nA iB nB => nplus_any n m iA iB nA ga.fits gb.fits))
  clear ha hb
  go_enter Tryz.func9, Tryz.ntmps9
  go_wp2_with fail
  refine hm.out.mono ?_
  rintro e w1 ⟨HB, ⟨hno, rfl⟩ | ⟨hok, ⟨hl, t, rfl, ht⟩ | ⟨hl, rfl⟩⟩⟩
  · have HN := Lib.hid hno; clear hno
    go_wp2
    go_ret2
    exact ⟨HB, .inl ⟨HN.out, rfl⟩⟩
  · have HO := Lib.hid hok; clear hok
    have HL := Lib.hid hl; clear hl
    have HT := Lib.hid ht; clear ht
    go_wp2
    go_ret2
    exact ⟨HB, .inr ⟨HO.out, .inl ⟨HL.out, t, rfl, HT.out⟩⟩⟩
  · have HO := Lib.hid hok; clear hok
    have HL := Lib.hid hl; clear hl
    go_wp2
    go_ret2
    exact ⟨HB, .inr ⟨HO.out, .inr ⟨HL.out, rfl⟩⟩⟩

set_option maxRecDepth 100000 in
set_option maxHeartbeats 8000000 in
theorem nsub_any (a b : ByteArray) (w : World) (ha : a.size ≤ 1000000) (hb : b.size ≤ 1000000) : Calls Tryz.prog 15 #[.string a, .string b] w (Ans w (Good (by0 a) ∧ Good (by0 b)) (worth (by0 a) - worth (by0 b))) := by
  have hm := Lib.hid (made_any a b w 43 (q := worth (by0 a) - worth (by0 b)) (enters_of Tryz.func43 (by kernel_rfl) rfl) ha hb (fun ga gb W n m vp vq vr vs iA nA iB nB => nminus_any n m iA iB nA ga.fits gb.fits))
  clear ha hb
  go_enter Tryz.func15, Tryz.ntmps15
  go_wp2_with fail
  refine hm.out.mono ?_
  rintro e w1 ⟨HB, ⟨hno, rfl⟩ | ⟨hok, ⟨hl, t, rfl, ht⟩ | ⟨hl, rfl⟩⟩⟩
  · have HN := Lib.hid hno; clear hno
    go_wp2
    go_ret2
    exact ⟨HB, .inl ⟨HN.out, rfl⟩⟩
  · have HO := Lib.hid hok; clear hok
    have HL := Lib.hid hl; clear hl
    have HT := Lib.hid ht; clear ht
    go_wp2
    go_ret2
    exact ⟨HB, .inr ⟨HO.out, .inl ⟨HL.out, t, rfl, HT.out⟩⟩⟩
  · have HO := Lib.hid hok; clear hok
    have HL := Lib.hid hl; clear hl
    go_wp2
    go_ret2
    exact ⟨HB, .inr ⟨HO.out, .inr ⟨HL.out, rfl⟩⟩⟩

set_option maxRecDepth 100000 in
set_option maxHeartbeats 8000000 in
theorem nmul_any (a b : ByteArray) (w : World) (ha : a.size ≤ 1000000) (hb : b.size ≤ 1000000) : Calls Tryz.prog 17 #[.string a, .string b] w (Ans w (Good (by0 a) ∧ Good (by0 b)) (worth (by0 a) * worth (by0 b))) := by
  have hm := Lib.hid (made_any a b w 44 (q := worth (by0 a) * worth (by0 b)) (enters_of Tryz.func44 (by kernel_rfl) rfl) ha hb (fun ga gb W n m vp vq vr vs iA nA iB nB => times_any n m iA iB ga.fits gb.fits))
  clear ha hb
  go_enter Tryz.func17, Tryz.ntmps17
  go_wp2_with fail
  refine hm.out.mono ?_
  rintro e w1 ⟨HB, ⟨hno, rfl⟩ | ⟨hok, ⟨hl, t, rfl, ht⟩ | ⟨hl, rfl⟩⟩⟩
  · have HN := Lib.hid hno; clear hno
    go_wp2
    go_ret2
    exact ⟨HB, .inl ⟨HN.out, rfl⟩⟩
  · have HO := Lib.hid hok; clear hok
    have HL := Lib.hid hl; clear hl
    have HT := Lib.hid ht; clear ht
    go_wp2
    go_ret2
    exact ⟨HB, .inr ⟨HO.out, .inl ⟨HL.out, t, rfl, HT.out⟩⟩⟩
  · have HO := Lib.hid hok; clear hok
    have HL := Lib.hid hl; clear hl
    go_wp2
    go_ret2
    exact ⟨HB, .inr ⟨HO.out, .inr ⟨HL.out, rfl⟩⟩⟩

set_option maxRecDepth 100000 in
set_option maxHeartbeats 8000000 in
theorem nneg_any (a : ByteArray) (w : World) (ha : a.size ≤ 1000000) : Calls Tryz.prog 21 #[.string a] w (Ans w (Good (by0 a)) (-worth (by0 a))) := by
  have hm := nsub_any ⟨#[48]⟩ a w (by decide) ha
  have e0 : by0 ⟨#[48]⟩ = [48] := rfl
  rw [e0, nought_worth, Rat.sub_eq_add_neg, Rat.zero_add] at hm
  have hm2 : Calls Tryz.prog 15 #[.string ⟨#[48]⟩, .string a] w (Ans w (Good (by0 a)) (-worth (by0 a))) := hm.mono fun e w' h => by
    obtain ⟨hb, ⟨h1, h2⟩ | ⟨h1, h2⟩⟩ := h
    · exact ⟨hb, .inl ⟨fun g => h1 ⟨nought_good, g⟩, h2⟩⟩
    · exact ⟨hb, .inr ⟨h1.2, h2⟩⟩
  have HM := Lib.hid hm2
  clear hm hm2 ha e0
  go_enter Tryz.func21, Tryz.ntmps21
  go_wp2_with fail
  refine HM.out.mono ?_
  rintro e w1 ⟨HB, ⟨hno, rfl⟩ | ⟨hok, ⟨hl, t, rfl, ht⟩ | ⟨hl, rfl⟩⟩⟩
  · have HN := Lib.hid hno; clear hno
    go_wp2
    go_ret2
    exact ⟨HB, .inl ⟨HN.out, rfl⟩⟩
  · have HO := Lib.hid hok; clear hok
    have HL := Lib.hid hl; clear hl
    have HT := Lib.hid ht; clear ht
    go_wp2
    go_ret2
    exact ⟨HB, .inr ⟨HO.out, .inl ⟨HL.out, t, rfl, HT.out⟩⟩⟩
  · have HO := Lib.hid hok; clear hok
    have HL := Lib.hid hl; clear hl
    go_wp2
    go_ret2
    exact ⟨HB, .inr ⟨HO.out, .inr ⟨HL.out, rfl⟩⟩⟩

theorem zero_text {b : ByteArray} (hg : Good (by0 b)) (h0 : worth (by0 b) = 0) : by0 b = [48] := by rw [← hg.2, h0, rtxt_zero]

set_option maxRecDepth 100000 in
set_option maxHeartbeats 8000000 in
theorem ndiv_any (a b : ByteArray) (w : World) (ha : a.size ≤ 1000000) (hb : b.size ≤ 1000000) : Calls Tryz.prog 19 #[.string a, .string b] w (AnsDiv w (Good (by0 a) ∧ Good (by0 b)) (worth (by0 b)) (worth (by0 a) / worth (by0 b))) := by
  by_cases h48 : by0 b = [48]
  · have hy : b.toList = [48] := by rw [toList_by0]; exact h48
    have hgb : Good (by0 b) := by rw [h48]; exact nought_good
    have hw0 := Lib.hid (show worth (by0 b) = 0 by rw [h48]; exact nought_worth)
    have hr := right_text a w ha
    by_cases hga : Good (by0 a)
    · rw [decide_eq_true hga] at hr
      have HR := Lib.hid hr
      have HG := Lib.hid (And.intro hga hgb)
      clear hr hga hgb ha hb h48
      go_enter Tryz.func19, Tryz.ntmps19
      go_wp2_with fail
      refine HR.out.mono ?_
      rintro e w1 ⟨rfl, HB⟩
      go_wp2
      go_ret2
      exact ⟨HB, .inr (.inl ⟨HG.out, hw0.out, rfl⟩)⟩
    · rw [decide_eq_false hga] at hr
      have HR := Lib.hid hr
      have HA := Lib.hid hga
      have hm := Lib.hid (fun w => made_any a b w 46 (q := 0) (enters_of Tryz.func46 (by kernel_rfl) rfl) ha hb (fun ga => absurd ga hga))
      clear hr hga hgb ha hb h48
      go_enter Tryz.func19, Tryz.ntmps19
      go_wp2_with fail
      refine HR.out.mono ?_
      rintro e w0 ⟨rfl, HB0⟩
      go_wp2_with fail
      refine (hm.out _).mono ?_
      rintro e w1 ⟨HB, ⟨hno, rfl⟩ | ⟨hok, -⟩⟩
      · have HN := Lib.hid hno; clear hno
        go_wp2
        go_ret2
        exact ⟨onto HB0 HB, .inl ⟨HN.out, rfl⟩⟩
      · exact absurd hok.1 HA.out
  · have hy : ¬ (b.toList = [48]) := by rw [toList_by0]; exact h48
    by_cases hok : Good (by0 a) ∧ Good (by0 b)
    · have h0 : worth (by0 b) ≠ 0 := fun e => h48 (zero_text hok.2 e)
      have hm := Lib.hid (made_any a b w 46 (q := worth (by0 a) / worth (by0 b)) (enters_of Tryz.func46 (by kernel_rfl) rfl) ha hb (fun ga gb W n m vp vq vr vs iA nA iB nB => by_any n m iA iB ga.fits gb.fits h0))
      have H0 := Lib.hid h0
      clear ha hb h48 h0 hok
      go_enter Tryz.func19, Tryz.ntmps19
      go_wp2_with fail
      refine hm.out.mono ?_
      rintro e w1 ⟨HB, ⟨hno, rfl⟩ | ⟨hok, ⟨hl, t, rfl, ht⟩ | ⟨hl, rfl⟩⟩⟩
      · have HN := Lib.hid hno; clear hno
        go_wp2
        go_ret2
        exact ⟨HB, .inr (.inr ⟨H0.out, ⟨HB, .inl ⟨HN.out, rfl⟩⟩⟩)⟩
      · have HO := Lib.hid hok; clear hok
        have HL := Lib.hid hl; clear hl
        have HT := Lib.hid ht; clear ht
        go_wp2
        go_ret2
        exact ⟨HB, .inr (.inr ⟨H0.out, ⟨HB, .inr ⟨HO.out, .inl ⟨HL.out, t, rfl, HT.out⟩⟩⟩⟩)⟩
      · have HO := Lib.hid hok; clear hok
        have HL := Lib.hid hl; clear hl
        go_wp2
        go_ret2
        exact ⟨HB, .inr (.inr ⟨H0.out, ⟨HB, .inr ⟨HO.out, .inr ⟨HL.out, rfl⟩⟩⟩⟩)⟩
    · have hm := Lib.hid (made_any a b w 46 (q := 0) (enters_of Tryz.func46 (by kernel_rfl) rfl) ha hb (fun ga gb => absurd ⟨ga, gb⟩ hok))
      have HK := Lib.hid hok
      clear ha hb h48 hok
      go_enter Tryz.func19, Tryz.ntmps19
      go_wp2_with fail
      refine hm.out.mono ?_
      rintro e w1 ⟨HB, ⟨hno, rfl⟩ | ⟨hok, -⟩⟩
      · have HN := Lib.hid hno; clear hno
        go_wp2
        go_ret2
        exact ⟨HB, .inl ⟨HN.out, rfl⟩⟩
      · exact absurd hok HK.out

set_option maxRecDepth 100000 in
set_option maxHeartbeats 8000000 in
theorem cmp_text (a b : ByteArray) (w : World) (ha : a.size ≤ 1000000) (hb : b.size ≤ 1000000) : Calls Tryz.prog 13 #[.string a, .string b] w (Compd w (Good (by0 a) ∧ Good (by0 b)) (worth (by0 a)) (worth (by0 b))) := by
  have hbo := Lib.hid (both_any a b w ha hb)
  clear ha hb
  go_enter Tryz.func13, Tryz.ntmps13
  go_wp2_with fail
  refine hbo.out.mono ?_
  rintro e w1 ⟨n, adp, np, cp, adq, nq, cq, m, adr, nr, cr, ads, ns, cs, t, rfl, HB, hh⟩
  have h1 := alb w1 (.cells #[.bool n, .slice adp np cp, .slice adq nq cq] 40)
  have h2 := alb (w1.alloc (.cells #[.bool n, .slice adp np cp, .slice adq nq cq] 40)) (.cells #[.bool m, .slice adr nr cr, .slice ads ns cs] 40)
  have hal := onto h1 h2
  rcases hh with ⟨hno, rfl⟩ | ⟨⟨hga, hgb⟩, rfl, iA, nA, iB, nB⟩
  · have HN := Lib.hid hno; clear hno
    go_wp2
    go_ret
    exact ⟨onto HB hal, .inl ⟨HN.out, rfl⟩⟩
  · have HO := Lib.hid (And.intro hga hgb)
    have hq := Lib.hid (ncmp_any n m (iA.below hal) (iB.below hal) nA nB hga.fits hgb.fits)
    clear hga hgb nA nB iA iB
    replace HB := onto HB hal
    clear h1 h2 hal
    go_wp2_with fail
    refine hq.out.mono ?_
    rintro e w2 ⟨rfl, hb⟩
    replace HB := onto HB hb
    clear hb
    go_wp2
    go_ret
    exact ⟨HB, .inr ⟨HO.out, rfl⟩⟩

set_option maxRecDepth 100000 in
set_option maxHeartbeats 8000000 in
theorem norm_text (s : ByteArray) (w : World) (hs : s.size ≤ 1000000) : Calls Tryz.prog 7 #[.string s] w (Normd w (by0 s)) := by
  have hsp := split_any s w hs
  have hlen := Lib.hid (by0_len s)
  by_cases hf : Formed (by0 s)
  · rw [decide_eq_true hf] at hsp
    have HF := Lib.hid hf
    have hd := eq48 (s := behindS s) (by rw [behindS_by0]; exact hf.2)
    rw [behindS_by0] at hd
    have HS := Lib.hid hsp
    by_cases hl : 900 < s.size
    · have z : decide ((900 : Int) < (s.size : Int)) = true := decide_eq_true (by omega)
      have HL := Lib.hid hl
      clear hsp hs hd hl hf
      go_enter Tryz.func7, Tryz.ntmps7
      go_wp2_with fail
      refine HS.out.mono ?_
      rintro e w1 ⟨rfl, HB⟩
      unfold partsV
      have hal := alb w1 (.cells #[.bool (negB (by0 s)), .string (aheadS s), .bool (slash (by0 s)), .string (behindS s)] 35)
      replace HB := onto HB hal
      clear hal
      go_wp2
      go_ret2
      exact ⟨HB, .inr ⟨HF.out, .inl ⟨by rw [hlen.out]; exact HL.out, rfl⟩⟩⟩
    · have z : decide ((900 : Int) < (s.size : Int)) = false := decide_eq_false (by omega)
      have hl9 : s.size ≤ 900 := by omega
      have HL := Lib.hid hl9
      have hnu := Lib.hid (fun w => number_any s w (by omega) hf)
      by_cases h0 : num (behind (by0 s)) = 0
      · rw [decide_eq_true h0] at hd
        have H0 := Lib.hid h0
        clear hsp hs hl hf h0 hl9
        go_enter Tryz.func7, Tryz.ntmps7
        go_wp2_with fail
        refine HS.out.mono ?_
        rintro e w1 ⟨rfl, HB⟩
        unfold partsV
        have hal := alb w1 (.cells #[.bool (negB (by0 s)), .string (aheadS s), .bool (slash (by0 s)), .string (behindS s)] 35)
        replace HB := onto HB hal
        clear hal
        go_wp2
        go_ret2
        exact ⟨HB, .inr ⟨HF.out, .inr (.inl ⟨by rw [hlen.out]; exact HL.out, H0.out, rfl⟩)⟩⟩
      · rw [decide_eq_false h0] at hd
        have H0 := Lib.hid h0
        have lA := Lib.hid (show ∀ l, Can l → val l = num (ahead (by0 s)) → l.length ≤ 200 from fun l k v => few_limbs hf.1.1 (by have := ahead_le (by0 s); have := by0_len s; omega) k (Nat.le_of_eq v))
        have lB := Lib.hid (show ∀ l, Can l → val l = num (behind (by0 s)) → l.length ≤ 200 from fun l k v => few_limbs hf.2.1 (by have := behind_le (by0 s); have := by0_len s; omega) k (Nat.le_of_eq v))
        have hshort := Lib.hid (show (rtxt (worth (by0 s))).length ≤ 1900 by
          have := (size_of hf.1 hf.2 h0 (k := 900) (by rw [by0_len]; exact hl9) (by decide)).text (by decide) (by decide)
          omega)
        clear hsp hs hl hf h0 hl9
        unfold partsV at hnu
        go_enter Tryz.func7, Tryz.ntmps7
        go_wp2_with fail
        refine HS.out.mono ?_
        rintro e w1 ⟨rfl, HB⟩
        unfold partsV
        have hal := alb w1 (.cells #[.bool (negB (by0 s)), .string (aheadS s), .bool (slash (by0 s)), .string (behindS s)] 35)
        replace HB := onto HB hal
        clear hal
        go_wp2_with fail
        refine (hnu.out _).mono ?_
        rintro e w2 ⟨adp, np, cp, adq, nq, cq, P, Q, rfl, rp, rq, kp, kq, vp, vq, hb⟩
        replace HB := onto HB hb
        clear hb
        have lp := lA.out P kp vp
        have lq := lB.out Q kq vq
        have hre := Lib.hid (reduced_any (negB (by0 s)) rp rq kp (by omega) (by omega) (by rw [vq]; exact H0.out))
        rw [vp, vq, ← worth_qv] at hre
        clear rp rq kp kq vp vq lp lq
        go_wp2_with fail
        refine hre.out.mono ?_
        rintro e w3 ⟨neg, ad3, n3, i3, ad4, n4, i4, rfl, i5, z5, hb⟩
        replace HB := onto HB hb
        clear hb
        have HT := Lib.hid (ntext_any neg i5 z5)
        clear i5 z5
        go_wp2_with fail
        refine HT.out.mono ?_
        rintro e w4 ⟨hb, ⟨hl, t, rfl, ht⟩ | ⟨hl, rfl⟩⟩
        · replace HB := onto HB hb
          have HL2 := Lib.hid hl; clear hl
          have HT2 := Lib.hid ht; clear ht hb
          go_wp2
          go_ret2
          exact ⟨HB, .inr ⟨HF.out, .inr (.inr ⟨by rw [hlen.out]; exact HL.out, H0.out, t, rfl, HT2.out⟩)⟩⟩
        · exact absurd hshort.out (by omega)
  · rw [decide_eq_false hf] at hsp
    have HF := Lib.hid hf
    have HS := Lib.hid hsp
    clear hsp hs hf
    go_enter Tryz.func7, Tryz.ntmps7
    go_wp2_with fail
    refine HS.out.mono ?_
    rintro e w1 ⟨rfl, HB⟩
    unfold partsV
    have hal := alb w1 (.cells #[.bool (negB (by0 s)), .string (aheadS s), .bool (slash (by0 s)), .string (behindS s)] 35)
    replace HB := onto HB hal
    clear hal
    go_wp2
    go_ret2
    exact ⟨HB, .inl ⟨HF.out, rfl⟩⟩

end Go.Proofs.YtepacminjfeliaaGreatDoor
