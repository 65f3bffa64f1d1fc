/-
  nat.Div once more: how often one number is in another lies in memory of the call's own. The numbers have 1000 limbs at most.
-/
import Derived.Test.YtkfododihdopiaaDoorForms
namespace Go.Proofs.YtkfododihdopiaaDoor
open Go.RowKit

/-- What short answers, with the place: the same memory, read in short. -/
theorem short_at {w : World} {ad : Option Addr} {n cap : Nat} {l : List Nat} (h : Rd w (.slice ad n cap) l) (hl : l.length ≤ 1000000) :
    Calls Tryd.prog 35 #[.slice ad n cap] w fun e w' => (∃ k l', e = .returned (.slice ad k cap) ∧ Rd w (.slice ad k cap) l' ∧ Can l' ∧ val l' = val l) ∧ w = w' := by
  obtain ⟨ad', n', cap', e, hn, hcap, hx, hr⟩ := h
  simp only [Value.slice.injEq] at e
  obtain ⟨rfl, rfl, rfl⟩ := e
  by_cases h0 : 0 < n
  · obtain ⟨b, o, rfl, hb, hcell⟩ := hr h0
    refine (short_some b o n cap l w (by omega) hcap fun i hi => hcell i _ ?_).mono ?_
    · unfold at0; rw [List.getD_eq_getElem?_getD, List.getElem?_eq_getElem (by omega)]; rfl
    · rintro e w' ⟨⟨k, rfl, hk, hz, hl0⟩, rfl⟩
      obtain ⟨c1, c2, c3⟩ := cut_can hn hx hk hz hl0
      refine ⟨⟨k, l.take k, rfl, ⟨_, k, cap, rfl, c3.symm, by omega, c1.1, fun _ => ⟨b, o, rfl, hb, fun i x hi => hcell i x ?_⟩⟩, c1, c2⟩, rfl⟩
      have : i < k := by
        have := (List.getElem?_eq_some_iff.1 hi).1
        omega
      rwa [List.getElem?_take_of_lt this] at hi
  · obtain rfl : n = 0 := by omega
    refine (short_none ad cap w).mono ?_
    rintro e w' ⟨rfl, rfl⟩
    obtain rfl : l = [] := List.eq_nil_of_length_eq_zero hn.symm
    exact ⟨⟨0, [], rfl, ⟨ad, 0, cap, rfl, rfl, Nat.zero_le _, hx, fun h => absurd h (by omega)⟩, Can.nil, rfl⟩, rfl⟩

/-- What Div answers, with the place of the first number. -/
def DivedNew (w : World) (A B : Nat) (e : Ending) (w' : World) : Prop :=
  B = 0 ∨ ∃ g n cap l ad2 n2 cap2 l2, w.heap.size ≤ g ∧ e = .returned (.tuple #[.slice (some ⟨g, 0, none⟩) n cap, .slice ad2 n2 cap2, .bool true]) ∧ Rd w' (.slice (some ⟨g, 0, none⟩) n cap) l ∧ Can l ∧ val l = A / B ∧ Rd w' (.slice ad2 n2 cap2) l2 ∧ Can l2 ∧ val l2 = A % B ∧ Below w.heap.size w w'

set_option maxHeartbeats 4000000 in
theorem div_new {w : World} {va vb : Value} {a b : List Nat} (ha : Rd w va a) (hb : Rd w vb b) (la : a.length ≤ 1000) (lb : b.length ≤ 1000) :
    Calls Tryd.prog 38 #[va, vb] w (DivedNew w (val a) (val b)) := by
  obtain ⟨i0, hi, hz0, hz1, hz2⟩ := info_parts Tryd.info36
  have HRA := Lib.hid ha; clear ha
  have HLA := Lib.hid la; clear la
  go_enter Tryd.func38, Tryd.ntmps38
  go_wp2_with fail
  refine (short_any hb (by omega)).mono ?_
  rintro e w1 ⟨⟨adb, k0, cb, l, rfl, hrl, hcl, hvl⟩, rfl⟩
  have hll : l.length ≤ b.length := hcl.len (by rw [hvl]; exact val_lt b hb.lim)
  obtain ⟨hk0, hcb, hliml, hcell⟩ := hrl.open
  have lk0 : k0 ≤ 1000 := by omega
  clear hll lb
  have HVL := Lib.hid hvl; clear hvl
  have HK0 := Lib.hid hk0; clear hk0
  have HCE := Lib.hid hcell; clear hcell
  by_cases h0 : k0 = 0
  · subst h0
    go_wp2
    go_ret3
    refine .inl ?_
    rw [← HVL.out, List.eq_nil_of_length_eq_zero HK0.out.symm]; rfl
  · obtain ⟨k, rfl⟩ : ∃ k, k0 = k + 1 := ⟨k0 - 1, by omega⟩
    clear h0
    obtain ⟨b1, o1, rfl, hb1, hc1⟩ := HCE.out (by omega)
    have hx1 := hc1 k (by omega)
    clear hc1
    have hz0' : 0 < at0 l k := by
      have := hcl.2 (by have := HK0.out; omega)
      rw [← HK0.out, Nat.add_sub_cancel] at this
      omega
    have hz1' := at0_lt hliml k
    obtain ⟨z, hz⟩ : ∃ z, z = at0 l k := ⟨_, rfl⟩
    rw [← hz] at hx1 hz0' hz1'
    have HZ := Lib.hid hz; clear hz
    go_wp2_with fail
    refine (lead_any z w hz1' hz0').mono ?_
    rintro e w1 ⟨⟨s, rfl, hup⟩, rfl⟩
    have HUP := Lib.hid hup; clear hup
    have hs : s ≤ 31 := HUP.out.1
    go_wp2_with fail
    refine (shift_any hrl (by have := HK0.out; omega) s (by omega)).mono ?_
    rintro e w1 ⟨g1, l1, hg1, rfl, hblk1, hlim1, hlen1, hval1, hbel1⟩
    rw [← HK0.out] at hlen1 ⊢
    have HL1 := Lib.hid hlen1; clear hlen1
    have HV1 := Lib.hid hval1; clear hval1
    go_wp2_with fail
    refine (short_any (hblk1.rd hlim1 HL1.out (Nat.le_refl _)) (by have := HL1.out; omega)).mono ?_
    rintro e w2 ⟨⟨ady, n, cy, y, rfl, hry, hcy, hvy⟩, rfl⟩
    have hdu := div_up hcl HK0.out.symm (by rw [← HZ.out]; exact HUP.out) hcy (hvy.trans HV1.out)
    obtain ⟨hn0, hcyc, hlimy, hcelly⟩ := hry.open
    obtain rfl : n = k + 1 := by omega
    obtain ⟨b2, o2, rfl, hb2, hc2⟩ := hcelly (by omega)
    clear hc2 hn0
    have HDU := Lib.hid hdu; clear hdu
    have HVY := Lib.hid (hvy.trans HV1.out); clear hvy
    have HRA1 := Lib.hid (HRA.out.below hbel1)
    go_wp2_with fail
    refine (shift_any HRA1.out (by have := HLA.out; omega) s (by omega)).mono ?_
    rintro e w2 ⟨g2, L0, hg2, rfl, hblk2, hlim2, hlen2, hval2, hbel2⟩
    obtain ⟨N, hN⟩ : ∃ N, N = a.length + 1 := ⟨_, rfl⟩
    rw [← hN] at hlen2 ⊢
    have hN2 : N ≤ 1001 := by have := HLA.out; omega
    have hN3 : 1 ≤ N := by omega
    have HN := Lib.hid hN; clear hN
    have hst : DivNum (2 ^ s * val a) (2 ^ s * val l) N (k + 1) (N - (k + 1)) L0 (List.replicate (N - (k + 1)) 0) :=
      DivNum.start hs hlim2 hlen2 HN.out hval2 (val_lt a HRA.out.lim) (by omega) (by rw [Nat.add_sub_cancel]; exact HDU.out.2.1)
    rw [← HVY.out] at hst
    obtain ⟨M, hM⟩ : ∃ M, M = N - (k + 1) := ⟨_, rfl⟩
    rw [← hM] at hst
    have HST := Lib.hid hst; clear hst
    have HM := Lib.hid hM
    have hM2 : M ≤ 1001 := by omega
    have hM3 : M + (k + 1) ≤ N ∨ (M = 0 ∧ N ≤ k + 1) := by omega
    have HM3 := Lib.hid hM3; clear hM3
    clear hlen2 hval2
    have hm1 : (M : Int) ≤ max 0 ((N : Int) - ((k : Int) + 1)) := by omega
    have hm2 : max 0 ((N : Int) - ((k : Int) + 1)) ≤ (M : Int) := by omega
    clear hM hcelly
    go_wp2_with (at_make; refine wpList_make_full _ rfl _ _ 22 rfl w2.heap.size 35 i0 (.int .u32 0) 1 Tryd.underlying22 hi hz0 hz1 _ _ _ _ M rfl rfl (by omega) (by omega) (by rw [hz2]; omega) (by unfold maxLen; omega) (Nat.le_refl _) ?_)
    intro w3 hown hgrow
    have hat0 : DivAt w1 g2 w2.heap.size (2 ^ s * val a) (val y) N (k + 1) M w3 := by
      refine ⟨L0, List.replicate M 0, (hgrow.block g2 hblk2.lt (by simp)).trans hblk2, made_row hown, HST.out, ?_⟩
      exact hbel2.grown hgrow hbel2.size (by simp)
    have HAT0 := Lib.hid hat0; clear hat0
    have hg23 : g2 < w2.heap.size := hblk2.lt
    have hw12 : w1.heap.size ≤ w2.heap.size := hbel2.size
    obtain ⟨g3, hg3⟩ : ∃ g3, g3 = w2.heap.size := ⟨_, rfl⟩
    rw [← hg3] at HAT0 hg23 hw12 ⊢
    clear hown hgrow hm1 hm2 hx1 hblk2 hlim2 hbel2
    have HG3 := Lib.hid hg3; clear hg3
    go_wp2_with fail
    go_loopw [11] (fun t wr => ∃ i : Int, t = .int .i64 i ∧ -1 ≤ i ∧ i < M ∧ DivAt w1 g2 g3 (2 ^ s * val a) (val y) N (k + 1) (i + 1).toNat wr) (fun t _ => (intOf t + 1).toNat)
    case atStart => exact ⟨(M : Int) - 1, rfl, by omega, by omega, by rw [show ((M : Int) - 1 + 1).toNat = M from by omega]; exact HAT0.out⟩
    case round =>
      obtain ⟨i, rfl, hi1, hi2, hat⟩ := hrel
      by_cases h0 : 0 ≤ i
      · obtain ⟨j, rfl⟩ := Int.eq_ofNat_of_zero_le h0
        rw [show ((j : Int) + 1).toNat = j + 1 from by omega] at hat
        have hj : j < M := by omega
        have hj2 : j + (k + 1) + 1 ≤ N := by have := HM3.out; omega
        have HAT := Lib.hid hat; clear hat
        go_wp2_with fail
        refine (div_take (Nat.ne_of_lt hg23) hg2 hw12 hb2 HAT.out hj2 (by omega) (by omega) (by omega) (by omega) hry hcy).mono ?_
        rintro e w4 ⟨q, rfl, ⟨v, hv⟩, hf, hat'⟩
        have HAT' := Lib.hid hat'; clear hat'
        go_wp2
        go_roundw
        case rel => exact ⟨(j : Int) - 1, rfl, by omega, by omega, by rw [show ((j : Int) - 1 + 1).toNat = j from by omega]; exact HAT'.out⟩
        case measure => simp [intOf]
      · obtain rfl : i = -1 := by omega
        have HAT := Lib.hid hat; clear hat
        obtain ⟨s', hs'⟩ : ∃ s' : Nat, s' + s = 32 := ⟨32 - s, by omega⟩
        have e1 : (32 : Int) - (s : Int) = (s' : Int) := by omega
        have HS := Lib.hid hs'; clear hs'
        obtain ⟨L, Q, hL, hQ, hd, hbel⟩ := HAT.out
        clear HAT HAT0 HST
        have hd0 : DivNum (2 ^ s * val a) (val y) N (k + 1) 0 L Q := hd
        clear hd
        have hlenL := hd0.lenL
        have hlenQ := hd0.lenQ
        rw [← HM.out] at hlenQ
        have hrL := hL.rd hd0.limL hlenL (Nat.le_refl N)
        have hrQ := hQ.rd hd0.limQ hlenQ (Nat.le_refl M)
        have hvals := HVY.out ▸ hd0
        have hdone := DivNum.done hvals (can_pos hcl HK0.out)
        rw [HVL.out] at hdone
        have HD := Lib.hid hdone; clear hdone hvals
        have HLL := Lib.hid hlenL; clear hlenL
        have HLQ := Lib.hid hlenQ; clear hlenQ
        have HD0 := Lib.hid hd0; clear hd0
        go_wp2_with fail
        refine (shift_any hrL (by have := HLL.out; omega) s' (by have := HS.out; omega)).mono ?_
        rintro e w5 ⟨g5, l5, hg5, rfl, hb5, hlim5, hlen5, hval5, hbel5⟩
        rw [HLL.out] at hlen5 ⊢
        have htl := tail_val hlim5 (by omega) (R := val a % val b) (by rw [hval5, HD.out.2, ← Nat.mul_assoc, ← Nat.pow_add, HS.out])
        have hr5 := hb5.tail_rd hlim5 hlen5 (Nat.le_refl N)
        have hrQ5 := hrQ.below hbel5
        have HL5 := Lib.hid hlen5; clear hlen5
        have HV5 := Lib.hid hval5; clear hval5
        have HTL := Lib.hid htl; clear htl
        go_wp2_with fail
        refine (short_at hrQ5 (by have := HLQ.out; omega)).mono ?_
        rintro e w6 ⟨⟨nq, q', rfl, hrq, hcq, hvq⟩, rfl⟩
        have HVQ := Lib.hid hvq; clear hvq
        go_wp2_with fail
        refine (short_any hr5 (by have := HTL.out.2.2; have := HL5.out; omega)).mono ?_
        rintro e w6 ⟨⟨adr, nr, cr, r', rfl, hrr, hcr, hvr⟩, rfl⟩
        have HVR := Lib.hid hvr; clear hvr
        go_wp2
        go_ret3
        have hbl : Below w.heap.size w w5 := hbel1.trans ((hbel.mono hbel1.size).trans (hbel5.mono (Nat.le_trans hbel1.size hbel.size)))
        exact .inr ⟨g3, nq, _, q', adr, nr, cr, r', Nat.le_trans hbel1.size hw12, rfl, hrq, hcq, HVQ.out.trans HD.out.1, hrr, hcr, HVR.out.trans HTL.out.1, hbl⟩

end Go.Proofs.YtkfododihdopiaaDoor
