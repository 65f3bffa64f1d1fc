/-
  A part of the proof: Div, Sub, Forms, Dec, DecNum, Right, Parse, Row.
-/
import Derived.Test.YtepacminjfeliaaGreatDoorG1
import Derived.Test.YtepacminjfeliaaGreatDoorG0
import Derived.Laws.RangeAny
import Derived.Lib.OthersKept
import Derived.Lib.Strings
import Derived.OpenShut
/-
  nat.Div: how often one number is in another one, and what is left, both in short; nothing and false for a division by 0. No condition but that each list has at most a thousand limbs.
-/
namespace Go.Proofs.YtepacminjfeliaaGreatDoor
open Go.RowKit

/-- What Div answers of numbers worth A and B. -/
def Dived (w : World) (A B : Nat) (e : Ending) (w' : World) : Prop :=
  (B = 0 ∧ e = .returned (.tuple #[.slice none 0 0, .slice none 0 0, .bool false]) ∧ Below w.heap.size w w') ∨
  (0 < B ∧ ∃ ad n cap l ad2 n2 cap2 l2, e = .returned (.tuple #[.slice ad n cap, .slice ad2 n2 cap2, .bool true]) ∧ Rd w' (.slice ad n cap) l ∧ Can l ∧ val l = A / B ∧ Rd w' (.slice ad2 n2 cap2) l2 ∧ Can l2 ∧ val l2 = A % B ∧ Below w.heap.size w w')

/-- Div, with p limbs of the answer still to be found: the rest is block g2, the answer block g3. -/
def DivAt (w : World) (g2 g3 A Y N n p : Nat) (wr : World) : Prop := ∃ L Q, Blk wr g2 L ∧ Blk wr g3 Q ∧ DivNum A Y N n p L Q ∧ Below w.heap.size w wr

/-- One guess of Div. -/
theorem div_take {w wr : World} {g2 g3 b2 o2 A N n k R C capy : Nat} {y : List Nat} (hne : g2 ≠ g3) (hg2 : w.heap.size ≤ g2) (hg3 : w.heap.size ≤ g3) (hb2 : b2 < w.heap.size) (hat : DivAt w g2 g3 A (val y) N n (k + 1) wr) (hk : k + n + 1 ≤ N) (hn : 1 ≤ n) (hn2 : n ≤ 10000) (hR : R = n + 1) (hC : R ≤ C)
    (hy : Rd w (.slice (some ⟨b2, o2, none⟩) n capy) y) (hcy : Can y) :
    Calls Tryz.prog 110 #[.slice (some ⟨g2, k, none⟩) R C, .slice (some ⟨b2, o2, none⟩) n capy] wr fun e w2 =>
      ∃ q : Nat, e = .returned (.int .u32 (q : Int)) ∧ (∃ v, w2.cell? ⟨g3, k, none⟩ = some v) ∧ w2.frozen? ⟨g3, k, none⟩ = false ∧ DivAt w g2 g3 A (val y) N n k (w2.setCell ⟨g3, k, none⟩ (.int .u32 (q : Int))) := by
  obtain ⟨L, Q, hL, hQ, hd, hbel⟩ := hat
  subst hR
  obtain ⟨n', rfl⟩ : ∃ n', n = n' + 1 := ⟨n - 1, by omega⟩
  have hly : y.length = n' + 1 := hy.open.1.symm
  have hy0 : 0 < at0 y n' := by
    have := hcy.2 (by omega)
    rw [hly, Nat.add_sub_cancel] at this
    omega
  have hlL := hd.lenL
  refine (take_any (off := k) hL hd.limL (by omega) hn2 hC (hy.below hbel) (by omega) hy0 hd.row).mono ?_
  rintro e w2 ⟨q, m, rfl, hq, hg, hb, hlm, hml, hv, hlt⟩
  have hQ2 : Blk w2 g3 Q := (hg.block g3 hQ.lt (by simp; omega)).trans hQ
  have hkQ : k < Q.length := by have := hd.lenQ; omega
  refine ⟨q, rfl, hQ2.there hkQ, hQ2.free k, put L k m, Q.set k q, ?_, hQ2.set k q, hd.step hk hq hlm hml hv hlt (by have := val_lt y hcy.1; rwa [hly] at this), ?_⟩
  · exact ((grown_set w2 g3 k _).block g2 hb.lt (by simp; omega)).trans hb
  · refine (hbel.trans ⟨hg.os, hg.tape, hg.output, hg.size, fun j hj => hg.block j (Nat.lt_of_lt_of_le hj hbel.size) (by simp; omega)⟩).setCell hg3 _

theorem can_pos {l : List Nat} {k : Nat} (h : Can l) (hk : k + 1 = l.length) : 0 < val l := by
  rcases Nat.eq_zero_or_pos (val l) with h0 | h0
  · have e := h.zero h0
    rw [e] at hk
    simp at hk
  · exact h0

theorem Blk.tail_rd {w : World} {g : Nat} {l : List Nat} (h : Blk w g l) (hl : Lim l) {n cap : Nat} (hn : l.length = n + 1) (hcap : n ≤ cap) : Rd w (.slice (some ⟨g, 1, none⟩) n cap) l.tail :=
  ⟨_, n, cap, rfl, by rw [List.length_tail, hn]; rfl, hcap, fun x hx => hl x (List.mem_of_mem_tail hx), fun _ => ⟨g, 1, rfl, h.lt, fun i x hi => by
    rw [List.getElem?_tail] at hi
    rw [Nat.add_comm]
    exact h.cell hi⟩⟩

set_option maxRecDepth 100000 in
set_option maxHeartbeats 4000000 in
theorem div_any {w : World} {va vb : Value} {a b : List Nat} (ha : Rd w va a) (hb : Rd w vb b) (la : a.length ≤ 1000) (lb : b.length ≤ 1000) :
    Calls Tryz.prog 78 #[va, vb] w (Dived w (val a) (val b)) := by
  obtain ⟨i0, hi, hz0, hz1, hz2⟩ := info_parts Tryz.info36
  have HRA := Lib.hid ha; clear ha
  have HLA := Lib.hid la; clear la
  go_enter Tryz.func78, Tryz.ntmps78
  go_wp2_with fail
  refine (short_any hb (by omega)).mono ?_
  rintro e w1 ⟨⟨adb, k0, cb, l, rfl, hrl, hcl, hvl⟩, rfl⟩
  have hll : l.length ≤ b.length := hcl.len (by rw [hvl]; exact val_lt b hb.lim)
  obtain ⟨hk0, hcb, hliml, hcell⟩ := hrl.open
  have lk0 : k0 ≤ 1000 := by omega
  clear hll lb
  have HVL := Lib.hid hvl; clear hvl
  have HK0 := Lib.hid hk0; clear hk0
  have HCE := Lib.hid hcell; clear hcell
  by_cases h0 : k0 = 0
  · subst h0
    go_wp2
    go_ret3
    refine .inl ⟨?_, rfl, Below.refl _ _⟩
    rw [← HVL.out, List.eq_nil_of_length_eq_zero HK0.out.symm]; rfl
  · obtain ⟨k, rfl⟩ : ∃ k, k0 = k + 1 := ⟨k0 - 1, by omega⟩
    clear h0
    obtain ⟨b1, o1, rfl, hb1, hc1⟩ := HCE.out (by omega)
    have hx1 := hc1 k (by omega)
    clear hc1
    have hz0' : 0 < at0 l k := by
      have := hcl.2 (by have := HK0.out; omega)
      rw [← HK0.out, Nat.add_sub_cancel] at this
      omega
    have hz1' := at0_lt hliml k
    obtain ⟨z, hz⟩ : ∃ z, z = at0 l k := ⟨_, rfl⟩
    rw [← hz] at hx1 hz0' hz1'
    have HZ := Lib.hid hz; clear hz
    go_wp2_with fail
    refine (lead_any z w hz1' hz0').mono ?_
    rintro e w1 ⟨⟨s, rfl, hup⟩, rfl⟩
    have HUP := Lib.hid hup; clear hup
    have hs : s ≤ 31 := HUP.out.1
    go_wp2_with fail
    refine (shift_any hrl (by have := HK0.out; omega) s (by omega)).mono ?_
    rintro e w1 ⟨g1, l1, hg1, rfl, hblk1, hlim1, hlen1, hval1, hbel1⟩
    rw [← HK0.out] at hlen1 ⊢
    have HL1 := Lib.hid hlen1; clear hlen1
    have HV1 := Lib.hid hval1; clear hval1
    go_wp2_with fail
    refine (short_any (hblk1.rd hlim1 HL1.out (Nat.le_refl _)) (by have := HL1.out; omega)).mono ?_
    rintro e w2 ⟨⟨ady, n, cy, y, rfl, hry, hcy, hvy⟩, rfl⟩
    have hdu := div_up hcl HK0.out.symm (by rw [← HZ.out]; exact HUP.out) hcy (hvy.trans HV1.out)
    obtain ⟨hn0, hcyc, hlimy, hcelly⟩ := hry.open
    obtain rfl : n = k + 1 := by omega
    obtain ⟨b2, o2, rfl, hb2, hc2⟩ := hcelly (by omega)
    clear hc2 hn0
    have HDU := Lib.hid hdu; clear hdu
    have HVY := Lib.hid (hvy.trans HV1.out); clear hvy
    have HRA1 := Lib.hid (HRA.out.below hbel1)
    go_wp2_with fail
    refine (shift_any HRA1.out (by have := HLA.out; omega) s (by omega)).mono ?_
    rintro e w2 ⟨g2, L0, hg2, rfl, hblk2, hlim2, hlen2, hval2, hbel2⟩
    obtain ⟨N, hN⟩ : ∃ N, N = a.length + 1 := ⟨_, rfl⟩
    rw [← hN] at hlen2 ⊢
    have hN2 : N ≤ 1001 := by have := HLA.out; omega
    have hN3 : 1 ≤ N := by omega
    have HN := Lib.hid hN; clear hN
    have hst : DivNum (2 ^ s * val a) (2 ^ s * val l) N (k + 1) (N - (k + 1)) L0 (List.replicate (N - (k + 1)) 0) :=
      DivNum.start hs hlim2 hlen2 HN.out hval2 (val_lt a HRA.out.lim) (by omega) (by rw [Nat.add_sub_cancel]; exact HDU.out.2.1)
    rw [← HVY.out] at hst
    obtain ⟨M, hM⟩ : ∃ M, M = N - (k + 1) := ⟨_, rfl⟩
    rw [← hM] at hst
    have HST := Lib.hid hst; clear hst
    have HM := Lib.hid hM
    have hM2 : M ≤ 1001 := by omega
    have hM3 : M + (k + 1) ≤ N ∨ (M = 0 ∧ N ≤ k + 1) := by omega
    have HM3 := Lib.hid hM3; clear hM3
    clear hlen2 hval2
    have hm1 : (M : Int) ≤ max 0 ((N : Int) - ((k : Int) + 1)) := by omega
    have hm2 : max 0 ((N : Int) - ((k : Int) + 1)) ≤ (M : Int) := by omega
    clear hM hcelly
    go_wp2_with (at_make; refine wpList_make_full _ rfl _ _ 38 rfl w2.heap.size 75 i0 (.int .u32 0) 1 Tryz.underlying38 hi hz0 hz1 _ _ _ _ M rfl rfl (by omega) (by omega) (by rw [hz2]; omega) (by unfold maxLen; omega) (Nat.le_refl _) ?_)
    intro w3 hown hgrow
    have hat0 : DivAt w1 g2 w2.heap.size (2 ^ s * val a) (val y) N (k + 1) M w3 := by
      refine ⟨L0, List.replicate M 0, (hgrow.block g2 hblk2.lt (by simp)).trans hblk2, made_row hown, HST.out, ?_⟩
      exact hbel2.grown hgrow hbel2.size (by simp)
    have HAT0 := Lib.hid hat0; clear hat0
    have hg23 : g2 < w2.heap.size := hblk2.lt
    have hw12 : w1.heap.size ≤ w2.heap.size := hbel2.size
    obtain ⟨g3, hg3⟩ : ∃ g3, g3 = w2.heap.size := ⟨_, rfl⟩
    rw [← hg3] at HAT0 hg23 hw12 ⊢
    clear hown hgrow hm1 hm2 hx1 hblk2 hlim2 hbel2
    have HG3 := Lib.hid hg3; clear hg3
    go_wp2_with fail
    go_loopw [11] (fun t wr => ∃ i : Int, t = .int .i64 i ∧ -1 ≤ i ∧ i < M ∧ DivAt w1 g2 g3 (2 ^ s * val a) (val y) N (k + 1) (i + 1).toNat wr) (fun t _ => (intOf t + 1).toNat)
    case atStart => exact ⟨(M : Int) - 1, rfl, by omega, by omega, by rw [show ((M : Int) - 1 + 1).toNat = M from by omega]; exact HAT0.out⟩
    case round =>
      obtain ⟨i, rfl, hi1, hi2, hat⟩ := hrel
      by_cases h0 : 0 ≤ i
      · obtain ⟨j, rfl⟩ := Int.eq_ofNat_of_zero_le h0
        rw [show ((j : Int) + 1).toNat = j + 1 from by omega] at hat
        have hj : j < M := by omega
        have hj2 : j + (k + 1) + 1 ≤ N := by have := HM3.out; omega
        have HAT := Lib.hid hat; clear hat
        go_wp2_with fail
        refine (div_take (Nat.ne_of_lt hg23) hg2 hw12 hb2 HAT.out hj2 (by omega) (by omega) (by omega) (by omega) hry hcy).mono ?_
        rintro e w4 ⟨q, rfl, ⟨v, hv⟩, hf, hat'⟩
        have HAT' := Lib.hid hat'; clear hat'
        go_wp2
        go_roundw
        case rel => exact ⟨(j : Int) - 1, rfl, by omega, by omega, by rw [show ((j : Int) - 1 + 1).toNat = j from by omega]; exact HAT'.out⟩
        case measure => simp [intOf]
      · obtain rfl : i = -1 := by omega
        have HAT := Lib.hid hat; clear hat
        obtain ⟨s', hs'⟩ : ∃ s' : Nat, s' + s = 32 := ⟨32 - s, by omega⟩
        have e1 : (32 : Int) - (s : Int) = (s' : Int) := by omega
        have HS := Lib.hid hs'; clear hs'
        obtain ⟨L, Q, hL, hQ, hd, hbel⟩ := HAT.out
        clear HAT HAT0 HST
        have hd0 : DivNum (2 ^ s * val a) (val y) N (k + 1) 0 L Q := hd
        clear hd
        have hlenL := hd0.lenL
        have hlenQ := hd0.lenQ
        rw [← HM.out] at hlenQ
        have hrL := hL.rd hd0.limL hlenL (Nat.le_refl N)
        have hrQ := hQ.rd hd0.limQ hlenQ (Nat.le_refl M)
        have hvals := HVY.out ▸ hd0
        have hdone := DivNum.done hvals (can_pos hcl HK0.out)
        rw [HVL.out] at hdone
        have HD := Lib.hid hdone; clear hdone hvals
        have HLL := Lib.hid hlenL; clear hlenL
        have HLQ := Lib.hid hlenQ; clear hlenQ
        have HD0 := Lib.hid hd0; clear hd0
        go_wp2_with fail
        refine (shift_any hrL (by have := HLL.out; omega) s' (by have := HS.out; omega)).mono ?_
        rintro e w5 ⟨g5, l5, hg5, rfl, hb5, hlim5, hlen5, hval5, hbel5⟩
        rw [HLL.out] at hlen5 ⊢
        have htl := tail_val hlim5 (by omega) (R := val a % val b) (by rw [hval5, HD.out.2, ← Nat.mul_assoc, ← Nat.pow_add, HS.out])
        have hr5 := hb5.tail_rd hlim5 hlen5 (Nat.le_refl N)
        have hrQ5 := hrQ.below hbel5
        have HL5 := Lib.hid hlen5; clear hlen5
        have HV5 := Lib.hid hval5; clear hval5
        have HTL := Lib.hid htl; clear htl
        go_wp2_with fail
        refine (short_any hrQ5 (by have := HLQ.out; omega)).mono ?_
        rintro e w6 ⟨⟨adq, nq, cq, q', rfl, hrq, hcq, hvq⟩, rfl⟩
        have HVQ := Lib.hid hvq; clear hvq
        go_wp2_with fail
        refine (short_any hr5 (by have := HTL.out.2.2; have := HL5.out; omega)).mono ?_
        rintro e w6 ⟨⟨adr, nr, cr, r', rfl, hrr, hcr, hvr⟩, rfl⟩
        have HVR := Lib.hid hvr; clear hvr
        go_wp2
        go_ret3
        have hb0 : 0 < val b := by rw [← HVL.out]; exact can_pos hcl HK0.out
        have hbl : Below w.heap.size w w5 := hbel1.trans ((hbel.mono hbel1.size).trans (hbel5.mono (Nat.le_trans hbel1.size hbel.size)))
        exact .inr ⟨hb0, adq, nq, cq, q', adr, nr, cr, r', rfl, hrq, hcq, HVQ.out.trans HD.out.1, hrr, hcr, HVR.out.trans HTL.out.1, hbl⟩

end Go.Proofs.YtepacminjfeliaaGreatDoor

/-
  nat.Sub: the difference of two lists, where the first one is not less; nothing and false otherwise. No condition but that each has at most ten thousand limbs.
-/
namespace Go.Proofs.YtepacminjfeliaaGreatDoor
open Go.RowKit

/-- What has been taken away so far. -/
def InvSub (a b : List Nat) (k : Nat) (l : List Nat) (c : Nat) : Prop := val l + sm (at0 b) k = sm (at0 a) k + pw k * c ∧ c ≤ 1

theorem sub_limb (x y c : Nat) (hx : x < 4294967296) (hy : y < 4294967296) (hc : c ≤ 1) : (x + 4294967296 - y - c) % 4294967296 + y + c = x + 4294967296 * bor x y c := by
  unfold bor; split <;> omega

theorem InvSub.step {a b : List Nat} (ha : Lim a) (hb : Lim b) {k : Nat} {l : List Nat} {c : Nat} (h : InvSub a b k l c) (hl : l.length = k) :
    InvSub a b (k + 1) (l ++ [(at0 a k + 4294967296 - at0 b k - c) % 4294967296]) (bor (at0 a k) (at0 b k) c) := by
  obtain ⟨h, hc⟩ := h
  refine ⟨?_, bor_le _ _ _⟩
  have e := congrArg (pw k * ·) (sub_limb _ _ c (at0_lt ha k) (at0_lt hb k) hc)
  simp only [sm]
  rw [val_snoc, hl, pw_succ, Nat.mul_comm 4294967296 (pw k), Nat.mul_assoc]
  simp only [Nat.mul_add] at e
  omega

theorem sub32_step (a b : List Nat) (ha : Lim a) (hb : Lim b) (k : Nat) (l : List Nat) (c : Nat) (w : World) (hl : l.length = k) (h : InvSub a b k l c) :
    Calls Tryz.prog 118 (#[.int .u32 (at0 a k : Int), .int .u32 (at0 b k : Int), .int .u32 (c : Int)] ++ #[]) w (Stepped (InvSub a b) k l w) := by
  refine (sub32_any _ _ _ w (at0_lt ha k) (at0_lt hb k) h.2).mono ?_
  rintro e w' ⟨rfl, rfl⟩
  exact ⟨⟨_, _, rfl, Nat.mod_lt _ (by decide), by have := bor_le (at0 a k) (at0 b k) c; omega, h.step ha hb hl⟩, rfl⟩

/-- What Sub answers of numbers worth A and B. -/
def SubMade (w : World) (A B : Nat) (e : Ending) (w' : World) : Prop :=
  (B ≤ A ∧ ∃ ad n cap l, e = .returned (.tuple #[.slice ad n cap, .bool true]) ∧ Rd w' (.slice ad n cap) l ∧ Can l ∧ val l = A - B ∧ Below w.heap.size w w') ∨
  (A < B ∧ e = .returned (.tuple #[.slice none 0 0, .bool false]) ∧ Below w.heap.size w w')

set_option maxRecDepth 100000 in
set_option maxHeartbeats 1000000 in
theorem sub_any {w : World} {va vb : Value} {a b : List Nat} (ha : Rd w va a) (hb : Rd w vb b) (la : a.length ≤ 10000) (lb : b.length ≤ 10000) :
    Calls Tryz.prog 85 #[va, vb] w (SubMade w (val a) (val b)) := by
  obtain ⟨i0, hi, hz0, hz1, hz2⟩ := info_parts Tryz.info36
  obtain ⟨ada, na, ca, rfl, hna, hca, hxa, -⟩ := id ha
  obtain ⟨adb, nb, cb, rfl, hnb, hcb, hxb, -⟩ := id hb
  have la' : na ≤ 10000 := by omega
  have lb' : nb ≤ 10000 := by omega
  have HA := Lib.hid hna; clear hna
  have HB := Lib.hid hnb; clear hnb
  have HXA := Lib.hid hxa; clear hxa
  have HXB := Lib.hid hxb; clear hxb
  have key : ∀ (M : Nat) (w1 : World), na ≤ M → nb ≤ M → M ≤ 10001 → w1.ownsRow w.heap.size 75 1 (.slice (some ⟨w.heap.size, 0, none⟩) M M) M (madeCells #[Value.int .u32 0] M).toList → w.grownBy w1 none →
      Calls Tryz.prog 86 #[.slice (some ⟨w.heap.size, 0, none⟩) M M, .slice ada na ca, .slice adb nb cb, .func (.func 118) #[] #[]] w1 fun e w2 => ∃ c l, e = .returned (.int .u32 ((c : Nat) : Int)) ∧ Rd w2 (.slice (some ⟨w.heap.size, 0, none⟩) M M) l ∧ l.length = M ∧ ((c = 0 ∧ val b ≤ val a ∧ val l = val a - val b) ∨ (c = 1 ∧ val a < val b)) ∧ Below w.heap.size w w2 := by
    intro M w1 h1 h2 h3 hown hgrow
    have hblk := made_row hown
    have hold : ∀ l w', Sta w1 w.heap.size 0 (List.replicate M 0) l w' → Below w.heap.size w w' := fun l w' h => grown_below hgrow h.1 (Nat.le_refl _)
    refine (along_any w1 w.heap.size 0 M M (List.replicate M 0) _ _ 118 #[] (at0 a) (at0 b) (InvSub a b) (by simp) (Nat.le_refl _) hblk (by omega)
      (fun k l w' _ _ hs => limb_any (ha.below (hold l w' hs)) (by omega) k) (fun k l w' _ _ hs => limb_any (hb.below (hold l w' hs)) (by omega) k)
      (fun k l c w' _ hl _ hinv hc => sub32_step a b HXA.out HXB.out k l c w' hl hinv) (by simp [InvSub, val, sm]) (fun _ _ => by simp [go_sem])).mono ?_
    rintro e w2 ⟨l, c, rfl, hl, hc, hL, hinv, hsta⟩
    obtain ⟨hr, hbel⟩ := fresh_done hgrow hsta hl hL
    refine ⟨c, l, rfl, hr, hl, ?_, hbel⟩
    obtain ⟨hinv, hc1⟩ := hinv
    have e1 := HA.out
    have e2 := HB.out
    rw [sm_all a (by omega), sm_all b (by omega)] at hinv
    have v := val_lt l hL
    rw [hl] at v
    rcases (by omega : c = 0 ∨ c = 1) with rfl | rfl <;> omega
  have KEY := Lib.hid key; clear key
  have HRA := Lib.hid ha; clear ha
  have HRB := Lib.hid hb; clear hb
  obtain ⟨M, hM1, hM2, hM3⟩ : ∃ M : Nat, na ≤ M ∧ nb ≤ M ∧ (M = na ∨ M = nb) := ⟨max na nb, by omega, by omega, by omega⟩
  have HM := Lib.hid hM3
  have hM4 : M ≤ 10001 := by omega
  clear hM3
  by_cases hlt : na < nb
  all_goals
    have hM5 := HM.out
    have hM6 : (if na < nb then nb else na) ≤ M := by split <;> omega
    have hM7 : M ≤ (if na < nb then nb else na) := by split <;> omega
    first | rw [if_pos hlt] at hM6 hM7 | rw [if_neg hlt] at hM6 hM7
    clear hM5
    go_enter Tryz.func85, Tryz.ntmps85
    go_wp2_with (at_make; refine wpList_make_full _ rfl _ _ 38 rfl w.heap.size 75 i0 (.int .u32 0) 1 Tryz.underlying38 hi hz0 hz1 _ _ _ _ M rfl rfl (by omega) (by omega) (by rw [hz2]; omega) (by unfold maxLen; omega) (Nat.le_refl _) ?_)
    intro w1 hown hgrow
    have HO := Lib.hid hown; clear hown
    have HG := Lib.hid hgrow; clear hgrow
    go_wp2_with fail
    refine (KEY.out M w1 hM1 hM2 hM4 HO.out HG.out).mono ?_
    rintro e w2 ⟨c, l, rfl, hr, hl, hv, hbel⟩
    have HL := Lib.hid hl; clear hl
    rcases hv with ⟨rfl, hv1, hv2⟩ | ⟨rfl, hv1⟩
    · have HV := Lib.hid hv2; clear hv2
      go_wp2_with fail
      refine (short_any hr (by have := HL.out; omega)).mono ?_
      rintro e w3 ⟨⟨ad, k, cap, l', rfl, hr', hcan, hv'⟩, rfl⟩
      have HV' := Lib.hid hv'; clear hv'
      go_wp2
      go_ret2
      exact .inl ⟨hv1, ad, k, cap, l', rfl, hr', hcan, HV'.out.trans HV.out, hbel⟩
    · go_wp2
      go_ret2
      exact .inr ⟨hv1, rfl, hbel⟩

end Go.Proofs.YtepacminjfeliaaGreatDoor

/-
  The contracts of nat's calls once more, in the forms that the statements ask for: what is answered where it is known which way a call goes; literals of one, two and three limbs.
-/
namespace Go.Proofs.YtepacminjfeliaaGreatDoor
open Go.RowKit

theorem alb (w : World) (o : Obj) : Below w.heap.size w (w.alloc o) := (Below.refl _ _).alloc (Nat.le_refl _) _

theorem past {w w' : World} {o : Obj} (h : Below (w.alloc o).heap.size (w.alloc o) w') : Below w.heap.size w w' := (alb w o).trans (h.mono (by simp))

theorem onto {w0 w w' : World} (h : Below w0.heap.size w0 w) (k : Below w.heap.size w w') : Below w0.heap.size w0 w' := h.trans (k.mono h.size)

theorem lit1 (w : World) (p : Nat) (hp : p < 4294967296) : Rd (w.alloc (.cells #[.int .u32 (p : Int)] 75)) (.slice (some ⟨w.heap.size, 0, none⟩) 1 1) [p] :=
  Blk.rd (g := w.heap.size) (l := [p]) (heap_alloc_new w _) (fun x hx => by simp at hx; omega) rfl (Nat.le_refl _)

theorem lit2 (w : World) (p q : Nat) (hp : p < 4294967296) (hq : q < 4294967296) : Rd (w.alloc (.cells #[.int .u32 (p : Int), .int .u32 (q : Int)] 75)) (.slice (some ⟨w.heap.size, 0, none⟩) 2 2) [p, q] :=
  Blk.rd (g := w.heap.size) (l := [p, q]) (heap_alloc_new w _) (lim_two hp hq) rfl (Nat.le_refl _)

theorem lit3 (w : World) (p q r : Nat) (hp : p < 4294967296) (hq : q < 4294967296) (hr : r < 4294967296) : Rd (w.alloc (.cells #[.int .u32 (p : Int), .int .u32 (q : Int), .int .u32 (r : Int)] 75)) (.slice (some ⟨w.heap.size, 0, none⟩) 3 3) [p, q, r] :=
  Blk.rd (g := w.heap.size) (l := [p, q, r]) (heap_alloc_new w _) (fun x hx => by simp at hx; omega) rfl (Nat.le_refl _)

theorem can1 (p : Nat) (hp : p < 4294967296) (h0 : p ≠ 0) : Can [p] := ⟨fun x hx => by simp at hx; omega, fun _ => by simpa [at0] using h0⟩
theorem can2 (p q : Nat) (hp : p < 4294967296) (hq : q < 4294967296) (h0 : q ≠ 0) : Can [p, q] := ⟨lim_two hp hq, fun _ => by simpa [at0] using h0⟩
theorem can3 (p q r : Nat) (hp : p < 4294967296) (hq : q < 4294967296) (hr : r < 4294967296) (h0 : r ≠ 0) : Can [p, q, r] := ⟨fun x hx => by simp at hx; omega, fun _ => by simpa [at0] using h0⟩

theorem val1 (p : Nat) : val [p] = p := by simp [val]

section
variable {w : World} {va vb : Value} {a b : List Nat} (ha : Rd w va a) (hb : Rd w vb b)
include ha hb

theorem sub_yes (la : a.length ≤ 10000) (lb : b.length ≤ 10000) (h : val b ≤ val a) :
    Calls Tryz.prog 85 #[va, vb] w fun e w' => ∃ ad n cap l, e = .returned (.tuple #[.slice ad n cap, .bool true]) ∧ Rd w' (.slice ad n cap) l ∧ Can l ∧ val l = val a - val b ∧ Below w.heap.size w w' :=
  (sub_any ha hb la lb).mono fun e w' h' => by
    rcases h' with ⟨_, h'⟩ | ⟨h', _⟩
    · exact h'
    · omega

theorem sub_no (la : a.length ≤ 10000) (lb : b.length ≤ 10000) (h : val a < val b) :
    Calls Tryz.prog 85 #[va, vb] w fun e w' => e = .returned (.tuple #[.slice none 0 0, .bool false]) ∧ Below w.heap.size w w' :=
  (sub_any ha hb la lb).mono fun e w' h' => by
    rcases h' with ⟨h', _⟩ | ⟨_, h'⟩
    · omega
    · exact h'

theorem div_yes (la : a.length ≤ 1000) (lb : b.length ≤ 1000) (h : 0 < val b) :
    Calls Tryz.prog 78 #[va, vb] w fun e w' => ∃ ad n cap l ad2 n2 cap2 l2, e = .returned (.tuple #[.slice ad n cap, .slice ad2 n2 cap2, .bool true]) ∧ Rd w' (.slice ad n cap) l ∧ Can l ∧ val l = val a / val b ∧ Rd w' (.slice ad2 n2 cap2) l2 ∧ Can l2 ∧ val l2 = val a % val b ∧ Below w.heap.size w w' :=
  (div_any ha hb la lb).mono fun e w' h' => by
    rcases h' with ⟨h', _⟩ | ⟨_, h'⟩
    · omega
    · exact h'

theorem div_no (la : a.length ≤ 1000) (lb : b.length ≤ 1000) (h : val b = 0) :
    Calls Tryz.prog 78 #[va, vb] w fun e w' => e = .returned (.tuple #[.slice none 0 0, .slice none 0 0, .bool false]) ∧ Below w.heap.size w w' :=
  (div_any ha hb la lb).mono fun e w' h' => by
    rcases h' with ⟨_, h'⟩ | ⟨h', _⟩
    · exact h'
    · omega

theorem cmp_at (la : a.length ≤ 10000) (lb : b.length ≤ 10000) {t : Int} (h : tell (val a) (val b) = t) :
    Calls Tryz.prog 65 #[va, vb] w fun e w' => e = .returned (.int .i64 t) ∧ Below w.heap.size w w' := h ▸ cmp_any ha hb la lb

end

theorem can_len {l : List Nat} (h : Can l) {k : Nat} (hk : val l < pw k) (n : Nat) (hn : k ≤ n) : l.length ≤ n := Nat.le_trans (h.len hk) hn

end Go.Proofs.YtepacminjfeliaaGreatDoor

/-
  Decimals as lists of bytes: what they are worth, which ones are right, that right ones are one for each number, and how they stand in order. No condition.
-/
namespace Go.Proofs.YtepacminjfeliaaGreatDoor

/-- What a digit's byte is worth. -/
def dg (b : UInt8) : Nat := b.toNat - 48

/-- What decimals are worth. -/
def num (l : List UInt8) : Nat := l.foldl (fun n b => 10 * n + dg b) 0

/-- These bytes are digits. -/
def Digs (l : List UInt8) : Prop := ∀ b ∈ l, 48 ≤ b.toNat ∧ b.toNat ≤ 57

instance (l : List UInt8) : Decidable (Digs l) := inferInstanceAs (Decidable (∀ b ∈ l, 48 ≤ b.toNat ∧ b.toNat ≤ 57))

/-- These bytes are right decimals. -/
def Dec (l : List UInt8) : Prop := Digs l ∧ l ≠ [] ∧ (1 < l.length → l.head? ≠ some 48)

instance (l : List UInt8) : Decidable (Dec l) := inferInstanceAs (Decidable (_ ∧ _ ∧ _))

theorem num_nil : num [] = 0 := rfl

theorem num_snoc (l : List UInt8) (b : UInt8) : num (l ++ [b]) = 10 * num l + dg b := by simp [num, List.foldl_append]

theorem num_from (m : List UInt8) : ∀ n : Nat, m.foldl (fun n b => 10 * n + dg b) n = n * 10 ^ m.length + num m := by
  induction m with
  | nil => intro n; simp [num]
  | cons b m ih =>
    intro n
    unfold num
    rw [List.foldl_cons, List.foldl_cons, ih, ih, List.length_cons, Nat.pow_succ, Nat.add_mul]
    rw [show 10 * n * 10 ^ m.length = n * (10 ^ m.length * 10) by rw [Nat.mul_comm 10 n, Nat.mul_assoc, Nat.mul_comm 10], Nat.mul_zero, Nat.zero_add]
    omega

theorem num_append (l m : List UInt8) : num (l ++ m) = num l * 10 ^ m.length + num m := by
  rw [← num_from m (num l)]
  simp [num, List.foldl_append]

theorem num_one (b : UInt8) : num [b] = dg b := by simp [num]

theorem num_cons (b : UInt8) (l : List UInt8) : num (b :: l) = dg b * 10 ^ l.length + num l := by
  have := num_append [b] l
  rwa [num_one] at this

theorem Digs.nil : Digs [] := fun b hb => by simp at hb
theorem Digs.tail {b : UInt8} {l : List UInt8} (h : Digs (b :: l)) : Digs l := fun c hc => h c (List.mem_cons_of_mem _ hc)
theorem Digs.head {b : UInt8} {l : List UInt8} (h : Digs (b :: l)) : 48 ≤ b.toNat ∧ b.toNat ≤ 57 := h b List.mem_cons_self
theorem Digs.append {l m : List UInt8} (h : Digs l) (k : Digs m) : Digs (l ++ m) := fun b hb => (List.mem_append.1 hb).elim (h b) (k b)
theorem Digs.one {b : UInt8} (h : 48 ≤ b.toNat) (k : b.toNat ≤ 57) : Digs [b] := fun c hc => by simp at hc; subst hc; exact ⟨h, k⟩
theorem Digs.left {l m : List UInt8} (h : Digs (l ++ m)) : Digs l := fun b hb => h b (List.mem_append.2 (.inl hb))
theorem Digs.right {l m : List UInt8} (h : Digs (l ++ m)) : Digs m := fun b hb => h b (List.mem_append.2 (.inr hb))

theorem dg_le {b : UInt8} (h : b.toNat ≤ 57) : dg b ≤ 9 := by unfold dg; omega
theorem dg_inj {b c : UInt8} (hb : 48 ≤ b.toNat) (hc : 48 ≤ c.toNat) (h : dg b = dg c) : b = c := by
  unfold dg at h
  exact UInt8.toNat_inj.1 (by omega)

theorem ten_pos (k : Nat) : 0 < 10 ^ k := Nat.pow_pos (by decide)

theorem num_lt {l : List UInt8} (h : Digs l) : num l < 10 ^ l.length := by
  induction l with
  | nil => decide
  | cons b l ih =>
    rw [num_cons, List.length_cons, Nat.pow_succ]
    have h1 := ih h.tail
    have h2 := dg_le h.head.2
    have h3 : dg b * 10 ^ l.length ≤ 9 * 10 ^ l.length := Nat.mul_le_mul_right _ h2
    omega

theorem Dec.digs {l : List UInt8} (h : Dec l) : Digs l := h.1

theorem Dec.pos {l : List UInt8} (h : Dec l) : 0 < l.length := by
  have := h.2.1
  cases l with
  | nil => exact absurd rfl this
  | cons b l => simp

theorem Dec.ge {l : List UInt8} (h : Dec l) (hl : 1 < l.length) : 10 ^ (l.length - 1) ≤ num l := by
  cases l with
  | nil => simp at hl
  | cons b l =>
    rw [num_cons]
    have hb := h.2.2 hl
    have hd := h.1.head
    have : 1 ≤ dg b := by
      unfold dg
      have : b.toNat ≠ 48 := fun e => hb (by rw [List.head?_cons, show b = 48 from UInt8.toNat_inj.1 e])
      omega
    have h3 : 1 * 10 ^ l.length ≤ dg b * 10 ^ l.length := Nat.mul_le_mul_right _ this
    simp only [List.length_cons, Nat.add_sub_cancel]
    omega

theorem ten_le {i j : Nat} (h : i ≤ j) : 10 ^ i ≤ 10 ^ j := Nat.pow_le_pow_right (by decide) h

/-- Decimals of a number below 10 to the k are k at most. -/
theorem Dec.len {l : List UInt8} (h : Dec l) {k : Nat} (hk : num l < 10 ^ k) (h1 : 1 ≤ k) : l.length ≤ k := by
  by_cases hl : 1 < l.length
  · have h2 := h.ge hl
    rcases Nat.lt_or_ge k l.length with h3 | h3
    · have := ten_le (show k ≤ l.length - 1 by omega)
      omega
    · exact h3
  · omega

/-- The longer of two right decimals is the greater one. -/
theorem Dec.less {l m : List UInt8} (h : Dec l) (k : Dec m) (hl : l.length < m.length) : num l < num m := by
  have := h.pos
  have h1 := num_lt h.1
  have h2 := k.ge (by omega)
  have h3 := ten_le (show l.length ≤ m.length - 1 by omega)
  omega

theorem mul_split {a b p x y : Nat} (hx : x < p) (hy : y < p) (h : a * p + x = b * p + y) : a = b ∧ x = y := by
  have hp : 0 < p := by omega
  have h1 : (a * p + x) / p = a := by rw [Nat.mul_comm, Nat.mul_add_div hp, Nat.div_eq_of_lt hx, Nat.add_zero]
  have h2 : (b * p + y) / p = b := by rw [Nat.mul_comm, Nat.mul_add_div hp, Nat.div_eq_of_lt hy, Nat.add_zero]
  rw [h, h2] at h1
  subst h1
  exact ⟨rfl, by omega⟩

theorem digs_inj {l : List UInt8} : ∀ {m : List UInt8}, Digs l → Digs m → l.length = m.length → num l = num m → l = m := by
  induction l with
  | nil => intro m _ _ hl _; exact (List.length_eq_zero_iff.1 hl.symm).symm
  | cons b l ih =>
    intro m h k hl hn
    cases m with
    | nil => simp at hl
    | cons c m =>
      rw [num_cons, num_cons] at hn
      have e : l.length = m.length := by simpa using hl
      rw [e] at hn
      have h1 := num_lt h.tail
      rw [e] at h1
      obtain ⟨h2, h3⟩ := mul_split h1 (num_lt k.tail) hn
      rw [dg_inj h.head.1 k.head.1 h2, ih h.tail k.tail e h3]

/-- A number's right decimals are one. -/
theorem Dec.inj {l m : List UInt8} (h : Dec l) (k : Dec m) (hn : num l = num m) : l = m := by
  rcases Nat.lt_trichotomy l.length m.length with h1 | h1 | h1
  · have := h.less k h1; omega
  · exact digs_inj h.1 k.1 h1 hn
  · have := k.less h h1; omega

theorem Dec.zero : Dec [48] := by decide

/-- Noughts ahead are worth nothing; without them what is left is right, or nothing. -/
theorem num_drop (l : List UInt8) : num (l.dropWhile (· == 48)) = num l := by
  induction l with
  | nil => rfl
  | cons b l ih =>
    by_cases hb : b = 48
    · subst hb
      rw [List.dropWhile_cons_of_pos (by decide), ih, num_cons]
      show num l = 0 * _ + num l
      omega
    · rw [List.dropWhile_cons_of_neg (by simpa using hb)]

theorem drop_dec {l : List UInt8} (h : Digs l) (hn : l.dropWhile (· == 48) ≠ []) : Dec (l.dropWhile (· == 48)) := by
  refine ⟨fun b hb => h b ((List.dropWhile_sublist _).mem hb), hn, fun _ he => ?_⟩
  have := List.head?_dropWhile_not (· == (48 : UInt8)) l
  rw [he] at this
  simp at this

/-- The order of bytes and of numbers, of as many digits. -/
theorem num_order {l : List UInt8} : ∀ {m : List UInt8}, Digs l → Digs m → l.length = m.length → (num l < num m ↔ l < m) := by
  induction l with
  | nil =>
    intro m _ _ hl
    obtain rfl := List.length_eq_zero_iff.1 hl.symm
    simp
  | cons b l ih =>
    intro m h k hl
    cases m with
    | nil => simp at hl
    | cons c m =>
      have e : l.length = m.length := by simpa using hl
      rw [num_cons, num_cons, List.cons_lt_cons_iff, ← ih h.tail k.tail e, e]
      have h1 := num_lt h.tail
      rw [e] at h1
      have h2 := num_lt k.tail
      have hb := h.head
      have hc := k.head
      rcases Nat.lt_trichotomy b.toNat c.toNat with h3 | h3 | h3
      · have h4 : b < c := UInt8.lt_iff_toNat_lt.2 h3
        have h5 : dg b + 1 ≤ dg c := by unfold dg; omega
        have h6 : (dg b + 1) * 10 ^ m.length ≤ dg c * 10 ^ m.length := Nat.mul_le_mul_right _ h5
        rw [Nat.add_mul, Nat.one_mul] at h6
        exact ⟨fun _ => .inl h4, fun _ => by omega⟩
      · have h4 : b = c := UInt8.toNat_inj.1 h3
        subst h4
        refine ⟨fun h5 => .inr ⟨rfl, by omega⟩, fun h5 => ?_⟩
        rcases h5 with h5 | ⟨_, h5⟩
        · exact absurd h5 (UInt8.lt_irrefl b)
        · omega
      · have h5 : dg c + 1 ≤ dg b := by unfold dg; omega
        have h6 : (dg c + 1) * 10 ^ m.length ≤ dg b * 10 ^ m.length := Nat.mul_le_mul_right _ h5
        rw [Nat.add_mul, Nat.one_mul] at h6
        refine ⟨fun _ => by omega, fun h7 => ?_⟩
        rcases h7 with h7 | ⟨h7, _⟩
        · have := UInt8.lt_iff_toNat_lt.1 h7; omega
        · subst h7; omega

end Go.Proofs.YtepacminjfeliaaGreatDoor

/-
  Numbers for decimals: limbs and digits, nine digits at once, ten to a power. No condition.
-/
namespace Go.Proofs.YtepacminjfeliaaGreatDoor

theorem pw_ten (k : Nat) : pw k ≤ 10 ^ (10 * k) := by
  induction k with
  | zero => decide
  | succ k ih =>
    rw [pw_succ, Nat.mul_add, Nat.pow_add, Nat.mul_comm]
    exact Nat.mul_le_mul ih (by decide)

theorem ten_pw (k : Nat) : 10 ^ (19 * k) ≤ pw (2 * k) := by
  induction k with
  | zero => decide
  | succ k ih =>
    rw [Nat.mul_add, Nat.pow_add, show 2 * (k + 1) = 2 * k + 1 + 1 by omega, pw_succ, pw_succ, ← Nat.mul_assoc, Nat.mul_comm]
    exact Nat.mul_le_mul (by decide) ih

/-- Right decimals of a number of k limbs are ten times as many at most. -/
theorem Dec.limbs {l : List UInt8} (h : Dec l) {k : Nat} (hk : num l < pw k) (h1 : 1 ≤ k) : l.length ≤ 10 * k :=
  h.len (Nat.lt_of_lt_of_le hk (pw_ten k)) (by omega)

/-- A number of 19 k digits has 2 k limbs at most. -/
theorem ten_limbs {n k : Nat} (h : n < 10 ^ (19 * k)) : n < pw (2 * k) := Nat.lt_of_lt_of_le h (ten_pw k)

/-- What numbers, nine digits in each, the lowest first, are worth together. -/
def bil : List Nat → Nat
  | [] => 0
  | x :: l => x + 1000000000 * bil l

theorem bil_snoc (l : List Nat) (x : Nat) : bil (l ++ [x]) = bil l + 1000000000 ^ l.length * x := by
  induction l with
  | nil => simp [bil]
  | cons y l ih =>
    rw [List.cons_append, bil, bil, ih, List.length_cons, Nat.pow_succ, Nat.mul_add, ← Nat.mul_assoc, Nat.mul_comm (1000000000 ^ l.length)]
    omega

theorem bil_lt {l : List Nat} (h : ∀ x ∈ l, x < 1000000000) : bil l < 1000000000 ^ l.length := by
  induction l with
  | nil => decide
  | cons y l ih =>
    rw [bil, List.length_cons, Nat.pow_succ]
    have := ih fun x hx => h x (List.mem_cons_of_mem _ hx)
    have := h y List.mem_cons_self
    omega

/-- .. read from the highest on. -/
def hib : List Nat → Nat := List.foldl (fun n x => n * 1000000000 + x) 0

theorem hib_snoc (l : List Nat) (x : Nat) : hib (l ++ [x]) = hib l * 1000000000 + x := by simp [hib, List.foldl_append]

theorem hib_reverse (l : List Nat) : hib l.reverse = bil l := by
  induction l with
  | nil => rfl
  | cons x l ih => rw [List.reverse_cons, hib_snoc, ih, bil]; omega

/-- One step of taking nine digits off a number. -/
theorem bil_step {N R : Nat} {l : List Nat} (h : N = bil l + 1000000000 ^ l.length * R) : N = bil (l ++ [R % 1000000000]) + 1000000000 ^ (l ++ [R % 1000000000]).length * (R / 1000000000) := by
  rw [bil_snoc, List.length_append, List.length_singleton, Nat.pow_succ, h, Nat.add_assoc, Nat.mul_assoc, ← Nat.mul_add]
  congr 2
  omega

theorem bil_count {N R k : Nat} {l : List Nat} (h : N = bil l + 1000000000 ^ l.length * R) (hR : 0 < R) (hN : N < 10 ^ k) : 9 * l.length < k := by
  rcases Nat.lt_or_ge (9 * l.length) k with h1 | h1
  · exact h1
  · have h2 := ten_le h1
    have e : 1000000000 ^ l.length = 10 ^ (9 * l.length) := by rw [Nat.pow_mul]
    rw [e] at h
    have : 10 ^ (9 * l.length) * 1 ≤ 10 ^ (9 * l.length) * R := Nat.mul_le_mul_left _ hR
    omega

/-- While a text's digits come, nine at once: A the number so far, p the digits since. -/
def Part (n i A p M : Nat) : Prop :=
  ∃ t, M = A * 10 ^ t + p ∧ p < 10 ^ t ∧ t ≤ 8 ∧ (A = 0 ∧ t = i ∧ i ≤ (n - 1) % 9 ∨ (t + (n - i)) % 9 = 0)

theorem Part.start (n : Nat) : Part n 0 0 0 0 := ⟨0, by simp, by simp, by omega, .inl ⟨rfl, rfl, by omega⟩⟩

theorem Part.lt {n i A p M : Nat} (h : Part n i A p M) : p < 100000000 := by
  obtain ⟨t, _, h2, h3, _⟩ := h
  have := ten_le h3
  have e : 10 ^ 8 = 100000000 := by decide
  omega

theorem Part.more {n i A p M d : Nat} (h : Part n i A p M) (hi : i < n) (hd : d ≤ 9) (h9 : (n - i - 1) % 9 ≠ 0) : Part n (i + 1) A (p * 10 + d) (10 * M + d) := by
  obtain ⟨t, h1, h2, h3, h4⟩ := h
  refine ⟨t + 1, ?_, by rw [Nat.pow_succ]; omega, ?_, ?_⟩
  · rw [h1, Nat.pow_succ, ← Nat.mul_assoc]; omega
  · rcases h4 with ⟨_, rfl, h5⟩ | h5
    · by_cases e : t = (n - 1) % 9
      · exfalso; omega
      · omega
    · omega
  · rcases h4 with ⟨rfl, rfl, h5⟩ | h5
    · by_cases e : t = (n - 1) % 9
      · exfalso; omega
      · exact .inl ⟨rfl, rfl, by omega⟩
    · exact .inr (by omega)

theorem Part.full {n i A p M d : Nat} (h : Part n i A p M) (hi : i < n) (_hd : d ≤ 9) (h9 : (n - i - 1) % 9 = 0) : Part n (i + 1) (A * 1000000000 + (p * 10 + d)) 0 (10 * M + d) := by
  obtain ⟨t, h1, h2, h3, h4⟩ := h
  refine ⟨0, ?_, by simp, by omega, .inr (by omega)⟩
  rcases h4 with ⟨rfl, rfl, h5⟩ | h5
  · simp only [Nat.zero_mul, Nat.zero_add] at h1 ⊢; rw [h1]; simp; omega
  · obtain rfl : t = 8 := by omega
    rw [h1]
    simp only [Nat.pow_zero, Nat.mul_one, Nat.add_zero]
    have e : 10 ^ 8 = 100000000 := by decide
    rw [e]
    omega

theorem Part.whole {n A p M : Nat} (h : Part n n A p M) (hn : 0 < n) : A = M := by
  obtain ⟨t, h1, h2, h3, h4⟩ := h
  rcases h4 with ⟨_, _, h5⟩ | h5
  · omega
  · obtain rfl : t = 0 := by omega
    simp at h1 h2
    omega

theorem Part.le {n i A p M : Nat} (h : Part n i A p M) : A ≤ M := by
  obtain ⟨t, h1, _, _, _⟩ := h
  have := Nat.mul_le_mul_left A (ten_pos t)
  omega

end Go.Proofs.YtepacminjfeliaaGreatDoor

/-
  The program's Right and the document's: whether a string's bytes are right decimals. No condition.
-/
namespace Go.Proofs.YtepacminjfeliaaGreatDoor
open Go.RowKit

/-- A string's bytes. -/
abbrev by0 (s : ByteArray) : List UInt8 := s.data.toList

theorem by0_len (s : ByteArray) : (by0 s).length = s.size := (Lib.size_eq s).symm

theorem by0_at (s : ByteArray) (i : Nat) (h : i < s.size) : (by0 s)[i]? = some (s[i]'h) := by
  have h' : i < s.data.toList.length := by rw [← Lib.size_eq]; exact h
  rw [show by0 s = s.data.toList from rfl, List.getElem?_eq_getElem h']
  rfl

theorem digs_take {l : List UInt8} {i : Nat} {b : UInt8} (h : Digs (l.take i)) (hb : l[i]? = some b) (h0 : 48 ≤ b.toNat) (h9 : b.toNat ≤ 57) : Digs (l.take (i + 1)) := by
  have e : l.take (i + 1) = l.take i ++ [b] := by
    rw [List.take_add_one, hb]; rfl
  rw [e]
  exact h.append (Digs.one h0 h9)

theorem not_dec {l : List UInt8} {i : Nat} {b : UInt8} (hb : l[i]? = some b) (h : b.toNat < 48 ∨ 57 < b.toNat) : decide (Dec l) = false := by
  refine decide_eq_false fun hd => ?_
  have := hd.1 b (List.mem_of_getElem? hb)
  omega

theorem told_bool {b c : Bool} (h : b = c) : Ending.returned (.bool c) = .returned (.bool b) := by rw [h]

theorem right_end {l : List UInt8} {b : UInt8} (h : Digs l) (hn : l ≠ [48]) (hb : l[0]? = some b) : decide (Dec l) = ((b.toNat : Int) != 48) := by
  cases l with
  | nil => simp at hb
  | cons c l =>
    obtain rfl : c = b := by simpa using hb
    by_cases e : c = 48
    · subst e
      rw [show (((48 : UInt8).toNat : Int) != 48) = false by decide]
      refine decide_eq_false fun hd => ?_
      cases l with
      | nil => exact hn rfl
      | cons d l => exact hd.2.2 (by simp) rfl
    · have e2 : ((c.toNat : Int) != 48) = true := by
        simp only [bne_iff_ne, ne_eq]
        intro h2
        exact e (UInt8.toNat_inj.1 (by show c.toNat = 48; omega))
      rw [e2]
      exact decide_eq_true ⟨h, by simp, fun _ h2 => e (by simpa using h2)⟩

set_option maxRecDepth 100000 in
set_option maxHeartbeats 2000000 in
theorem right_any (s : ByteArray) (w : World) : Calls Tryz.prog 52 #[.string s] w (Samed w (decide (Dec (by0 s)))) := by
  go_enter Tryz.func52, Tryz.ntmps52
  go_wp2
  go_loopw [4] (fun _ wr => ∃ pos, wr = w.iter s pos ∧ pos ≤ s.size ∧ Digs ((by0 s).take pos)) (fun _ wr => s.size - wr.iterPos w.heap.size)
  case atStart => exact ⟨0, rfl, by omega, by simpa using Digs.nil⟩
  case round =>
    obtain ⟨pos, rfl, hle, hd⟩ := hrel
    by_cases hp : pos < s.size
    · have hb := by0_at s pos hp
      have hnx : ∀ ty, (Instr.next (.pointer (some ⟨w.heap.size, 0, none⟩)) true ty).run Tryz.prog (w.iter s pos) = _ := fun ty => run_next_any w s pos ty hp
      by_cases ha : (s[pos]'hp).toNat < 128
      · rw [decode_ascii s pos hp ha] at hnx
        by_cases h0 : (s[pos]'hp).toNat < 48
        · have hdn := not_dec hb (.inl h0)
          go_wp2
          go_ret
          exact ⟨rfl, (Below.refl _ _).alloc (Nat.le_refl _) _⟩
        · by_cases h9 : 57 < (s[pos]'hp).toNat
          · have hdn := not_dec hb (.inr h9)
            have z0 : ¬ (((s[pos]'hp).toNat : Int) < 48) := by omega
            have z9 : 57 < ((s[pos]'hp).toNat : Int) := by omega
            go_wp2
            go_ret
            exact ⟨rfl, (Below.refl _ _).alloc (Nat.le_refl _) _⟩
          · have z0 : ¬ (((s[pos]'hp).toNat : Int) < 48) := by omega
            have z9 : ¬ (57 < ((s[pos]'hp).toNat : Int)) := by omega
            go_wp2
            go_roundw
            case rel => exact ⟨pos + 1, rfl, by omega, digs_take hd hb (by omega) (by omega)⟩
            case measure => simp; omega
      · have h128 := (decode_high s pos hp (by omega)).1
        have hdn := not_dec hb (.inr (by omega))
        have h48 : ¬ (((Utf8.decode s pos).1 : Int) < 48) := by omega
        have h57 : 57 < ((Utf8.decode s pos).1 : Int) := by omega
        go_wp2
        go_ret
        exact ⟨rfl, (Below.refl _ _).alloc (Nat.le_refl _) _⟩
    · have hnx : ∀ ty, (Instr.next (.pointer (some ⟨w.heap.size, 0, none⟩)) true ty).run Tryz.prog (w.iter s pos) = _ := fun ty => run_next_end w s pos ty hp
      obtain rfl : pos = s.size := by omega
      rw [List.take_of_length_le (by rw [by0_len]; exact Nat.le_refl _)] at hd
      have HB := (Below.refl w.heap.size w).alloc (Nat.le_refl _) (.stringIter s s.size)
      have HB' := Lib.hid HB; clear HB
      have hl : s.toList = by0 s := Lib.toList_data s
      by_cases hE : s.toList = [48]
      · have hD : decide (Dec (by0 s)) = true := by rw [← hl, hE]; decide
        have HD := Lib.hid hD
        clear hd hl hD
        go_wp2
        go_ret
        exact ⟨told_bool HD.out, HB'.out⟩
      · by_cases hZ : 0 < s.size
        · have hN : s.toList.isEmpty = false := by rw [hl]; have := by0_len s; cases h : by0 s with
            | nil => rw [h] at this; simp at this; omega
            | cons b l => rfl
          have hD : decide (Dec (by0 s)) = _ := right_end hd (by rw [← hl]; exact hE) (by0_at s 0 hZ)
          have HD := Lib.hid hD
          clear hd hl hD
          go_wp2
          go_ret
          exact ⟨told_bool HD.out, HB'.out⟩
        · have hN : s.toList = [] := by rw [hl]; exact List.eq_nil_of_length_eq_zero (by rw [by0_len]; omega)
          have hD : decide (Dec (by0 s)) = false := by rw [← hl, hN]; decide
          have HD := Lib.hid hD
          clear hd hl hD
          go_wp2
          go_ret
          exact ⟨told_bool HD.out, HB'.out⟩

set_option maxRecDepth 100000 in
set_option maxHeartbeats 2000000 in
theorem rright_any (s : ByteArray) (w : World) (hs : s.size ≤ 1000000) : Calls Tryz.prog 30 #[.string s] w (Samed w (decide (Dec (by0 s)))) := by
  have HB' := Lib.hid (Below.refl w.heap.size w)
  go_enter Tryz.func30, Tryz.ntmps30
  go_wp2
  go_loopw [3] (fun i wr => ∃ pos : Nat, i = .int .i64 pos ∧ wr = w ∧ pos ≤ s.size ∧ Digs ((by0 s).take pos)) (fun i _ => s.size - (intOf i).toNat)
  case atStart => exact ⟨0, rfl, rfl, by omega, by simpa using Digs.nil⟩
  case round =>
    obtain ⟨pos, rfl, rfl, hle, hd⟩ := hrel
    by_cases hp : pos < s.size
    · have hb := by0_at s pos hp
      by_cases h0 : (s[pos]'hp).toNat < 48
      · have HD := Lib.hid (not_dec hb (.inl h0))
        clear hd
        go_wp2
        all_goals
          go_ret
          exact ⟨told_bool HD.out, HB'.out⟩
      · by_cases h9 : 57 < (s[pos]'hp).toNat
        · have HD := Lib.hid (not_dec hb (.inr h9))
          have z0 : ¬ (((s[pos]'hp).toNat : Int) < 48) := by omega
          have z9 : 57 < ((s[pos]'hp).toNat : Int) := by omega
          clear hd
          go_wp2
          go_ret
          exact ⟨told_bool HD.out, HB'.out⟩
        · have z0 : ¬ (((s[pos]'hp).toNat : Int) < 48) := by omega
          have z9 : ¬ (57 < ((s[pos]'hp).toNat : Int)) := by omega
          go_wp2
          go_roundw
          case rel => exact ⟨pos + 1, by go_num, by first | trivial | rfl, by omega, digs_take hd hb (by omega) (by omega)⟩
          case measure => simp [intOf]; omega
    · obtain rfl : pos = s.size := by omega
      rw [List.take_of_length_le (by rw [by0_len]; exact Nat.le_refl _)] at hd
      rcases Nat.lt_trichotomy s.size 1 with h1 | h1 | h1
      · have hD : decide (Dec (by0 s)) = false := decide_eq_false fun h => by
          have := h.pos
          rw [by0_len] at this
          omega
        have HD := Lib.hid hD
        have hz : s.size = 0 := by omega
        clear hd hD h1
        go_wp2
        go_ret
        exact ⟨told_bool HD.out, HB'.out⟩
      · have hD : decide (Dec (by0 s)) = true := decide_eq_true ⟨hd, by intro h; have := by0_len s; rw [h] at this; simp at this; omega, by rw [by0_len]; omega⟩
        have HD := Lib.hid hD
        clear hd hD
        go_wp2
        go_ret
        exact ⟨told_bool HD.out, HB'.out⟩
      · have hD : decide (Dec (by0 s)) = _ := right_end hd (by intro h; have := by0_len s; rw [h] at this; simp at this; omega) (by0_at s 0 (by omega))
        have HD := Lib.hid hD
        have z1 : ¬ ((s.size : Int) = 1) := by omega
        have z0 : 1 < (s.size : Int) := by omega
        have z3 : 0 < s.size := by omega
        clear hd hD
        go_wp2
        go_ret
        exact ⟨told_bool HD.out, HB'.out⟩

end Go.Proofs.YtepacminjfeliaaGreatDoor

/-
  The program's Parse: the number of right decimals that are not too many, or what is wrong. The text has 1000000 bytes at most.
-/
namespace Go.Proofs.YtepacminjfeliaaGreatDoor
open Go.RowKit

theorem cell_iterAt {w : World} {k : Nat} {s : ByteArray} {p : Nat} (hit : w.heap[k]? = some (.stringIter s p)) (p' : Nat) (a : Addr) : (w.iterAt k s p').cell? a = w.cell? a := by
  by_cases h : a.block = k
  · have h1 := Lib.iterAt_heap w k s p p' hit
    unfold World.cell?
    rw [h, h1, hit]
  · unfold World.cell?
    rw [Lib.iterAt_other w k a.block s p' h]

theorem Rd.iterAt {w : World} {v : Value} {l : List Nat} (h : Rd w v l) {k : Nat} {s : ByteArray} {p : Nat} (hit : w.heap[k]? = some (.stringIter s p)) (p' : Nat) : Rd (w.iterAt k s p') v l :=
  h.same (by rw [Lib.iterAt_size]; exact Nat.le_refl _) fun _ _ _ _ _ _ _ _ _ => cell_iterAt hit p' _

theorem iterPos_of {w : World} {k : Nat} {s : ByteArray} {p : Nat} (h : w.heap[k]? = some (.stringIter s p)) : w.iterPos k = p := by simp [World.iterPos, h]

theorem lt_heap {w : World} {k : Nat} {o : Obj} (h : w.heap[k]? = some o) : k < w.heap.size := by
  rcases Nat.lt_or_ge k w.heap.size with h1 | h1
  · exact h1
  · rw [Array.getElem?_eq_none h1] at h; cases h

theorem below_heap {w w' : World} (h : Below w.heap.size w w') {k : Nat} {o : Obj} (hk : w.heap[k]? = some o) : w'.heap[k]? = some o := by
  rw [h.block k (lt_heap hk)]; exact hk

/-- What Parse answers. -/
def Parsed (w : World) (s : List UInt8) (e : Ending) (w' : World) : Prop :=
  Below w.heap.size w w' ∧
    ((¬ Dec s ∧ e = .returned (.tuple #[.slice none 0 0, .int .i64 12])) ∨ (Dec s ∧ 1900 < s.length ∧ e = .returned (.tuple #[.slice none 0 0, .int .i64 2])) ∨
      (Dec s ∧ s.length ≤ 1900 ∧ ∃ ad n cap l, e = .returned (.tuple #[.slice ad n cap, .int .i64 0]) ∧ Rd w' (.slice ad n cap) l ∧ Can l ∧ val l = num s))

theorem num_take {l : List UInt8} {i : Nat} {b : UInt8} (hb : l[i]? = some b) : num (l.take (i + 1)) = 10 * num (l.take i) + dg b := by
  rw [List.take_add_one, hb]
  exact num_snoc _ _

/-- Digits that are few are a number of few limbs. -/
theorem few_limbs {l : List UInt8} (h : Digs l) (hl : l.length ≤ 1900) {m : List Nat} (hm : Can m) (hv : val m ≤ num l) : m.length ≤ 200 := by
  have h1 := num_lt h
  have h2 := ten_le hl
  exact hm.len (Nat.lt_of_le_of_lt hv (ten_limbs (k := 100) (by omega)))

set_option maxRecDepth 100000 in
set_option maxHeartbeats 4000000 in
theorem parse_any (s : ByteArray) (w : World) (hs : s.size ≤ 1000000) : Calls Tryz.prog 53 #[.string s] w (Parsed w (by0 s)) := by
  have hlen := by0_len s
  by_cases hD : Dec (by0 s)
  · have hr := right_any s w
    rw [decide_eq_true hD] at hr
    have HR := Lib.hid hr; clear hr
    by_cases h19 : 1900 < s.size
    · go_enter Tryz.func53, Tryz.ntmps53
      go_wp2_with fail
      refine HR.out.mono ?_
      rintro e w1 ⟨rfl, hb⟩
      go_wp2
      go_ret2
      exact ⟨hb, .inr (.inl ⟨hD, by omega, rfl⟩)⟩
    · go_enter Tryz.func53, Tryz.ntmps53
      go_wp2_with fail
      refine HR.out.mono ?_
      rintro e w1 ⟨rfl, hb⟩
      clear HR
      go_wp2
      go_loopw [4, 5] (fun v x wr => ∃ (pos p : Nat) (ad : Option Addr) (n cap : Nat) (l : List Nat), v = .slice ad n cap ∧ x = .int .u64 p ∧ wr.heap[w1.heap.size]? = some (.stringIter s pos) ∧ pos ≤ s.size ∧ Rd wr (.slice ad n cap) l ∧ Can l ∧ Part s.size pos (val l) p (num ((by0 s).take pos)) ∧ Below w1.heap.size w1 wr) (fun _ _ wr => s.size - wr.iterPos w1.heap.size)
      case atStart => exact ⟨0, 0, none, 0, 0, [], rfl, rfl, World.iter_heap w1 s 0, by omega, Rd.nil _, Can.nil, by simpa [val, num] using Part.start s.size, (Below.refl _ _).alloc (Nat.le_refl _) _⟩
      case round =>
        obtain ⟨pos, p, ad, n, cap, l, rfl, rfl, hit, hle, hrd, hcan, hpart, hbel⟩ := hrel
        by_cases hp : pos < s.size
        · have hb := by0_at s pos hp
          have hdig := hD.1 _ (List.mem_of_getElem? hb)
          have hnx : ∀ ty, (Instr.next (.pointer (some ⟨w1.heap.size, 0, none⟩)) true ty).run Tryz.prog wr = _ := fun ty => Lib.run_next_ascii_at wr w1.heap.size s pos ty hit hp (by omega)
          have hit2 := Lib.iterAt_heap wr w1.heap.size s pos (pos + 1) hit
          have hbel2 := Lib.below_iterAt hbel (k := w1.heap.size) (Nat.le_refl _) s (pos + 1)
          have hrd2 := hrd.iterAt hit (pos + 1)
          have hpos0 := iterPos_of hit
          have hnum := num_take hb
          have hp8 := hpart.lt
          obtain ⟨W1, hW1⟩ : ∃ W1, W1 = wr.iterAt w1.heap.size s (pos + 1) := ⟨_, rfl⟩
          rw [← hW1] at hnx hit2 hbel2 hrd2
          clear hW1 hrd hbel
          obtain ⟨x, hx⟩ : ∃ x, x = (s[pos]'hp).toNat := ⟨_, rfl⟩
          have hdg : dg (s[pos]'hp) = x - 48 := by rw [hx]; rfl
          rw [← hx] at hnx hdig
          rw [hdg] at hnum
          have HN := Lib.hid hnum; clear hnum hdg hb hx
          have HPT := Lib.hid hpart; clear hpart
          have e1 : ((p : Int) * 10 + ((x : Int) - 48)) = ((p * 10 + (x - 48) : Nat) : Int) := by omega
          by_cases h9 : (s.size - pos - 1) % 9 = 0
          · have e9 : ((s.size : Int) - pos - 1).tmod 9 = 0 := by rw [Int.tmod_eq_emod_of_nonneg (by omega)]; omega
            have hfull := HPT.out.full hp (show x - 48 ≤ 9 by omega) h9
            have hd2 : Digs ((by0 s).take (pos + 1)) := fun b hb => hD.1 b (List.mem_of_mem_take hb)
            have hl2 : ((by0 s).take (pos + 1)).length ≤ 1900 := by rw [List.length_take]; omega
            rw [← HN.out] at hfull
            clear HPT HN
            have HF := Lib.hid hfull; clear hfull
            have hll : l.length ≤ 200 := few_limbs hd2 hl2 hcan (by have := HF.out.le; omega)
            go_wp2_with fail
            refine (of_any 1000000000 W1 (by decide) (by decide)).mono ?_
            rintro e w2 ⟨ad2, n2, cap2, l2, rfl, r2, k2, v2, hb2⟩
            have q2 : l2.length ≤ 1 := k2.len (by rw [v2]; decide)
            replace hrd2 := hrd2.below hb2
            have hit3 := below_heap hb2 hit2
            have hbel3 := onto hbel2 hb2
            have HV2 := Lib.hid v2
            clear v2 hb2 hit2 hbel2
            go_wp2_with fail
            refine (mul_any hrd2 r2 (by omega) (by omega)).mono ?_
            rintro e w3 ⟨ad3, n3, cap3, l3, rfl, r3, k3, v3, hb3⟩
            have hit4 := below_heap hb3 hit3
            have hbel4 := onto hbel3 hb3
            rw [HV2.out] at v3
            have HV3 := Lib.hid v3
            clear v3 hb3 hit3 hbel3
            have q3 : l3.length ≤ 200 := few_limbs hd2 hl2 k3 (by rw [HV3.out]; have := HF.out.le; exact Nat.le_trans (Nat.le_add_right _ _) this)
            go_wp2_with fail
            refine (of_any ((p * 10 + (x - 48) : Nat) : Int) w3 (by omega) (by omega)).mono ?_
            rintro e w4 ⟨ad4, n4, cap4, l4, rfl, r4, k4, v4, hb4⟩
            replace r3 := r3.below hb4
            have hit5 := below_heap hb4 hit4
            have hbel5 := onto hbel4 hb4
            have HV4 := Lib.hid v4
            clear v4 hb4 hit4 hbel4
            have q4 : l4.length ≤ 200 := few_limbs hd2 hl2 k4 (by rw [HV4.out]; have := HF.out.le; omega)
            go_wp2_with fail
            refine (add_any r3 r4 (by omega) (by omega)).mono ?_
            rintro e w5 ⟨ad5, n5, cap5, l5, rfl, r5, k5, v5, hb5⟩
            have hit6 := below_heap hb5 hit5
            have hbel6 := onto hbel5 hb5
            have HV5 := Lib.hid v5
            clear v5 hb5 hit5 hbel5
            go_wp2
            go_roundw
            case rel => exact ⟨pos + 1, 0, ad5, n5, cap5, l5, rfl, rfl, hit6, by omega, r5, k5, by rw [HV5.out, HV3.out, HV4.out]; exact HF.out, hbel6⟩
            case measure => rw [iterPos_of hit6, hpos0]; omega
          · have e9 : ¬ (((s.size : Int) - pos - 1).tmod 9 = 0) := by rw [Int.tmod_eq_emod_of_nonneg (by omega)]; omega
            go_wp2
            go_roundw
            case rel => exact ⟨pos + 1, p * 10 + (x - 48), ad, n, cap, l, rfl, by go_num, hit2, by omega, hrd2, hcan, by rw [HN.out]; exact HPT.out.more hp (by omega) h9, hbel2⟩
            case measure => rw [iterPos_of hit2, hpos0]; omega
        · have hnx : ∀ ty, (Instr.next (.pointer (some ⟨w1.heap.size, 0, none⟩)) true ty).run Tryz.prog wr = _ := fun ty => Lib.run_next_end_at wr w1.heap.size s pos ty hit hp
          obtain rfl : pos = s.size := by omega
          rw [List.take_of_length_le (by rw [by0_len]; exact Nat.le_refl _)] at hpart
          have hv := hpart.whole (by have := hD.pos; omega)
          have HV := Lib.hid hv
          clear hpart hv
          go_wp2
          go_ret2
          exact ⟨onto hb hbel, .inr (.inr ⟨hD, by omega, ad, n, cap, l, rfl, hrd, hcan, HV.out⟩)⟩
  · have hr := right_any s w
    rw [decide_eq_false hD] at hr
    go_enter Tryz.func53, Tryz.ntmps53
    go_wp2_with fail
    refine hr.mono ?_
    rintro e w1 ⟨rfl, hb⟩
    go_wp2
    go_ret2
    exact ⟨hb, .inl ⟨hD, rfl⟩⟩

end Go.Proofs.YtepacminjfeliaaGreatDoor

/-
  A slice that came in, as the row's frame tells it, reads as a list of limbs.
-/
namespace Go.Proofs.YtepacminjfeliaaGreatDoor
open Go.RowKit

theorem rd_row {w : World} {a : Option Addr} {len cap : Nat} {zs : List Int}
    (h : (a = none ∧ len = 0 ∧ cap = 0 ∧ zs = []) ∨ ∃ x, a = some x ∧ len ≤ cap ∧ cap ≤ maxLen ∧ zs.length = cap ∧ (∀ i, i < zs.length → w.cell? (x.add i) = some (.int .u32 (zs.getD i 0))) ∧ ∀ n ∈ zs, (Lit.int .u32 n).wf = true) :
    ∃ l, Rd w (.slice a len cap) l := by
  rcases h with ⟨rfl, rfl, rfl, _⟩ | ⟨x, rfl, hl, _, hz, hc, hw⟩
  · exact ⟨[], Rd.nil w⟩
  · have bd : ∀ n ∈ zs, 0 ≤ n ∧ n ≤ 4294967295 := fun n hn => by
      have h := hw n hn
      simp only [Lit.wf, IntKind.min, IntKind.max, IntKind.bits, IntKind.signed, Bool.and_eq_true] at h
      simpa using h
    refine ⟨(zs.take len).map Int.toNat, _, len, cap, rfl, by simp; omega, hl, fun y hy => ?_, fun h0 => ?_⟩
    · obtain ⟨n, hn, rfl⟩ := List.mem_map.1 hy
      have := bd n (List.mem_of_mem_take hn)
      omega
    · obtain ⟨b, off, rfl, hc'⟩ := ints_at hc (by omega)
      refine ⟨b, off, rfl, World.block_lt_of_cell? w ⟨b, off + 0, none⟩ (hc' 0 (by omega)), fun i y hy => ?_⟩
      have hi : i < len := by
        have := (List.getElem?_eq_some_iff.1 hy).1
        simp at this
        omega
      rw [hc' i (by omega)]
      rw [List.getElem?_map, List.getElem?_take_of_lt hi, List.getElem?_eq_getElem (by omega)] at hy
      simp only [Option.map_some, Option.some.injEq] at hy
      rw [← hy, List.getD_eq_getElem?_getD, List.getElem?_eq_getElem (by omega)]
      have := bd _ (List.getElem_mem (show i < zs.length by omega))
      simp only [Option.getD_some]
      rw [Int.toNat_of_nonneg this.1]

end Go.Proofs.YtepacminjfeliaaGreatDoor
