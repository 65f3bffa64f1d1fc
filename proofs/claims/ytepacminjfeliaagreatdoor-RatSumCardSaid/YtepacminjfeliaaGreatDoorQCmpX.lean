/-
  nat.Cmp to the draw, and rat's cmpDown as the library's sort asks it of an order.
-/
import Derived.Test.YtepacminjfeliaaGreatDoorG9
import Derived.Sort.Grow
namespace Go.Proofs.YtepacminjfeliaaGreatDoor
open Go.RowKit

set_option maxRecDepth 100000 in
set_option maxHeartbeats 1000000 in
theorem cmp_exact {w : World} {va vb : Value} {a b : List Nat} (ha : Rd w va a) (hb : Rd w vb b) (la : a.length ≤ 10000) (lb : b.length ≤ 10000) :
    Calls Tryz.prog 65 #[va, vb] w fun e w' => e = .returned (.int .i64 (tell (val a) (val b))) ∧ ∃ n, w' = w.drewN n := by
  go_enter Tryz.func65, Tryz.ntmps65
  go_wp2_with fail
  refine (short_any ha (by omega)).mono ?_
  rintro e w1 ⟨⟨ada, na, ca, a', rfl, hra, hcana, hva⟩, rfl⟩
  go_wp2_with fail
  refine (short_any hb (by omega)).mono ?_
  rintro e w1 ⟨⟨adb, nb, cb, b', rfl, hrb, hcanb, hvb⟩, rfl⟩
  have la' : a'.length ≤ a.length := hcana.len (by rw [hva]; exact val_lt a ha.lim)
  have lb' : b'.length ≤ b.length := hcanb.len (by rw [hvb]; exact val_lt b hb.lim)
  obtain ⟨hna, hca, -, hcella⟩ := hra.open
  obtain ⟨hnb, hcb, -, hcellb⟩ := hrb.open
  have la2 : na ≤ 10000 := by omega
  have lb2 : nb ≤ 10000 := by omega
  clear la' lb' la lb
  have HVA := Lib.hid hva; clear hva
  have HVB := Lib.hid hvb; clear hvb
  have HNA := Lib.hid hna; clear hna
  have HNB := Lib.hid hnb; clear hnb
  have HCA := Lib.hid hcella; clear hcella
  have HCB := Lib.hid hcellb; clear hcellb
  go_wp2_with fail
  refine (compare_int na nb w (by omega) (by omega)).mono ?_
  rintro e w1 ⟨rfl, rfl⟩
  rcases Nat.lt_trichotomy na nb with h | h | h
  · rw [tell_lt h]
    go_wp2
    go_ret
    have e1 := HNA.out
    have e2 := HNB.out
    exact ⟨by rw [← HVA.out, ← HVB.out, tell_lt (can_less hcana hcanb (by omega))]; rfl, ⟨0, rfl⟩⟩
  · rw [tell_eq h]
    subst h
    go_wp2
    go_loopw [6] (fun s wr => ∃ i : Int, s = .int .i64 i ∧ -1 ≤ i ∧ i < na ∧ Agree a' b' i na ∧ ∃ n, wr = w.drewN n) (fun s _ => (intOf s + 1).toNat)
    case atStart => exact ⟨(na : Int) - 1, rfl, by omega, by omega, fun j h1 h2 => absurd h2 (by omega), ⟨0, rfl⟩⟩
    case round =>
      obtain ⟨i, rfl, hi1, hi2, hag, nw, hwr⟩ := hrel
      have HWR := Lib.hid hwr
      clear hwr
      by_cases h0 : 0 ≤ i
      · obtain ⟨k, rfl⟩ := Int.eq_ofNat_of_zero_le h0
        have hk : k < na := by omega
        obtain ⟨b1, o1, rfl, hb1, hc1⟩ := HCA.out (by omega)
        obtain ⟨b2, o2, rfl, hb2, hc2⟩ := HCB.out (by omega)
        have hd1 : wr.cell? ⟨b1, o1 + k, none⟩ = some (.int .u32 (at0 a' k : Int)) := by rw [HWR.out]; exact hc1 k hk
        have hd2 : wr.cell? ⟨b2, o2 + k, none⟩ = some (.int .u32 (at0 b' k : Int)) := by rw [HWR.out]; exact hc2 k hk
        clear hc1 hc2
        have l1 := at0_lt hcana.1 k
        have l2 := at0_lt hcanb.1 k
        obtain ⟨x, hx⟩ : ∃ x : Nat, x = at0 a' k := ⟨_, rfl⟩
        obtain ⟨y, hy⟩ : ∃ y : Nat, y = at0 b' k := ⟨_, rfl⟩
        rw [← hx] at hd1 l1
        rw [← hy] at hd2 l2
        have HX := Lib.hid hx; clear hx
        have HY := Lib.hid hy; clear hy
        have HAG := Lib.hid hag; clear hag
        have HNA2 := Lib.hid hk; clear hk
        rcases Nat.lt_trichotomy x y with h | h | h
        · have e1 := Lib.hid (tell_lt h)
          go_wp2_with fail
          go_quiet ((go_at_call 90; exact Calls.quiet_of_same (compare_u32' x y (-1) e1.out _ l1 l2)))
          go_wp2
          go_ret
          refine ⟨?_, ⟨_, by rw [HWR.out]; exact drewN_add _ _ _⟩⟩
          rw [← HVA.out, ← HVB.out, tell_lt (agree_less hcana.1 HAG.out HNA2.out HNA.out.symm HNB.out.symm (by rw [← HX.out, ← HY.out]; exact h))]
          rfl
        · have e1 := Lib.hid (tell_eq h)
          have HD := Lib.hid (agree_down HAG.out (by rw [← HX.out, ← HY.out]; exact h))
          have b1 : -1 ≤ (k : Int) - 1 := by omega
          have b2 : (k : Int) - 1 < na := by omega
          have HE := Lib.hid h
          clear h
          go_wp2_with fail
          go_quiet ((go_at_call 90; exact Calls.quiet_of_same (compare_u32' x y 0 e1.out _ l1 l2)))
          go_wp2
          go_roundw
          case rel => exact ⟨(k : Int) - 1, rfl, b1, b2, HD.out, ⟨_, by rw [HWR.out]; exact drewN_add _ _ _⟩⟩
          case measure => simp [intOf]
        · have e1 := Lib.hid (tell_gt h)
          go_wp2_with fail
          go_quiet ((go_at_call 90; exact Calls.quiet_of_same (compare_u32' x y 1 e1.out _ l1 l2)))
          go_wp2
          go_ret
          refine ⟨?_, ⟨_, by rw [HWR.out]; exact drewN_add _ _ _⟩⟩
          rw [← HVA.out, ← HVB.out, tell_gt (agree_less hcanb.1 (agree_sym HAG.out) HNA2.out HNB.out.symm HNA.out.symm (by rw [← HX.out, ← HY.out]; exact h))]
          rfl
      · have e1 : i = -1 := by omega
        subst e1
        have HAG := Lib.hid hag; clear hag
        go_wp2
        go_ret
        refine ⟨?_, ⟨nw, HWR.out⟩⟩
        rw [← HVA.out, ← HVB.out, tell_eq (congrArg val (agree_same HAG.out HNA.out.symm HNB.out.symm))]
        rfl
  · rw [tell_gt h]
    go_wp2
    go_ret
    have e1 := HNA.out
    have e2 := HNB.out
    exact ⟨by rw [← HVA.out, ← HVB.out, tell_gt (can_less hcanb hcana (by omega))]; rfl, ⟨0, rfl⟩⟩

set_option maxRecDepth 100000 in
set_option maxHeartbeats 4000000 in
theorem cmpDown_exact {w : World} {vp vq vr vs : Value} {Q S : List Nat} (n m : Bool) (rq : Rd w vq Q) (rs : Rd w vs S) (lq : Q.length ≤ 10000) (ls : S.length ≤ 10000) :
    Calls Tryz.prog 48 #[numV n vp vq, numV m vr vs] w fun e w' => e = .returned (.int .i64 (tell (val Q) (val S))) ∧ ∃ q os', w' = Go.Sort.grow (w.drewN q) os' := by
  have h1 := alb w (.cells #[.bool n, vp, vq] 40)
  have h2 := alb (w.alloc (.cells #[.bool n, vp, vq] 40)) (.cells #[.bool m, vr, vs] 40)
  have hc := Lib.hid (cmp_exact (rq.below (onto h1 h2)) (rs.below (onto h1 h2)) lq ls)
  clear rq rs lq ls h1 h2
  generalize tell (val Q) (val S) = T at hc ⊢
  go_enter Tryz.func48, Tryz.ntmps48
  go_wp2_with fail
  refine hc.out.mono ?_
  rintro e w' ⟨rfl, q, rfl⟩
  go_wp2
  go_ret
  exact ⟨rfl, q, _, by rw [Go.Sort.alloc_eq_grow, Go.Sort.alloc_eq_grow, Go.Sort.grow_grow]; rfl⟩

end Go.Proofs.YtepacminjfeliaaGreatDoor
