/-
  The document's answer: its Div. No condition but the lists' lengths.
-/
import Derived.Test.YtpijjpjpedcbhaaRefDivNum
namespace Go.Proofs.Ytpijjpjpedcbhaa
open Go.RowKit

/-- What the document's Div answers of numbers worth A and B. -/
def ODived (w : World) (A B : Nat) (e : Ending) (w' : World) : Prop :=
  (B = 0 ∧ e = .returned (.tuple #[.slice none 0 0, .slice none 0 0, .bool false]) ∧ Below w.heap.size w w') ∨
  (0 < B ∧ ∃ ad n cap l ad2 n2 cap2 l2, e = .returned (.tuple #[.slice ad n cap, .slice ad2 n2 cap2, .bool true]) ∧ Rd w' (.slice ad n cap) l ∧ Can l ∧ val l = A / B ∧ Rd w' (.slice ad2 n2 cap2) l2 ∧ Can l2 ∧ val l2 = A % B ∧ Below w.heap.size w w')

/-- In the document's Div, with k bits still to be found: the answer is block g. -/
def BitAt (w : World) (g A B n k : Nat) (v : Value) (wr : World) : Prop :=
  ∃ Q ad m cap l, v = .slice ad m cap ∧ Blk wr g Q ∧ Owns wr (g + 1) (.slice ad m cap) l ∧ Can l ∧ BitDone A B n k Q (val l) ∧ Below w.heap.size w wr

theorem Blk.below {w w' : World} {g : Nat} {L : List Nat} (h : Blk w g L) (hb : Below w.heap.size w w') : Blk w' g L := (hb.block g h.lt).trans h

theorem Owns.later {w : World} {base : Nat} {v : Value} {l : List Nat} (h : Owns w base v l) {w' : World} (hb : Below w.heap.size w w') : Owns w' base v l :=
  ⟨h.1, h.2.imp id fun ⟨g, cap, cur, hv, hg, hh, r⟩ => ⟨g, cap, cur, hv, hg, (hb.block g (Array.getElem?_eq_some_iff.1 hh).1).trans hh, r⟩⟩

set_option maxHeartbeats 4000000 in
theorem rdiv_any {w : World} {va vb : Value} {a b : List Nat} (ra : Rd w va a) (rb : Rd w vb b) (la : a.length ≤ 1000) (lb : b.length ≤ 1000) :
    Calls Try.prog 15 #[va, vb] w (ODived w (val a) (val b)) := by
  obtain ⟨i0, hi, hz0, hz1, hz2⟩ := info_parts Try.info36
  obtain ⟨ada, na, ca, rfl, -⟩ := id ra
  obtain ⟨adb, nb, cb, rfl, -⟩ := id rb
  obtain ⟨hna, -, hxa, -⟩ := ra.open
  have la' : na ≤ 1000 := by omega
  have hvb := val_lt b rb.lim
  have HVB := Lib.hid hvb; clear hvb
  have HA := Lib.hid hna; clear hna
  have HLA := Lib.hid la; clear la
  have HLB := Lib.hid lb; clear lb
  have hst := BitDone.start (A := val a) (B := val b) (n := na) (by rw [HA.out]; exact val_lt a hxa)
  have HST := Lib.hid hst; clear hst
  go_enter Try.func15, Try.ntmps15
  go_wp2_with fail
  refine (rnorm_any rb (by have := HLB.out; omega)).mono ?_
  rintro e w1 ⟨ad0, n0, c0, l0, rfl, -, r0, k0, v0, hb0⟩
  have V0 := Lib.hid v0; clear v0
  have hln := r0.open.1
  have HRA := Lib.hid ra; clear ra
  have HRB := Lib.hid rb; clear rb
  clear r0
  by_cases hz : n0 = 0
  · subst hz
    go_wp2
    go_ret3
    refine .inl ⟨?_, rfl, hb0⟩
    rw [← V0.out, List.eq_nil_of_length_eq_zero hln.symm]; rfl
  · have hB : 0 < val b := by
      rw [← V0.out]
      exact can_pos k0 (k := n0 - 1) (by omega)
    have HBP := Lib.hid hB; clear hB
    have HLN := Lib.hid hln; clear hln
    have hz1' : ((n0 : Int) == 0) = false := by simp; omega
    go_wp2_with (at_make; refine wpList_make_full _ rfl _ _ 22 rfl w1.heap.size 36 i0 (.int .u32 0) 1 Try.underlying22 hi hz0 hz1 _ _ _ _ na rfl rfl (by omega) (by omega) (by rw [hz2]; omega) (by unfold maxLen; omega) (Nat.le_refl _) ?_)
    intro w2 hown hgrow
    have hblk := made_row hown
    have hbel2 : Below w.heap.size w w2 := hb0.grown hgrow hb0.size (by simp)
    have hgw := hb0.size
    have hlt1 := hblk.lt
    obtain ⟨g, hg⟩ : ∃ g, g = w1.heap.size := ⟨_, rfl⟩
    rw [← hg] at hblk hgw hlt1 ⊢
    clear hown hgrow hg
    have hat0 : BitAt w g (val a) (val b) na (32 * na) (.slice none 0 0) w2 := ⟨_, none, 0, 0, [], rfl, hblk, Owns.nil _ _, Can.nil, HST.out, hbel2⟩
    have HAT0 := Lib.hid hat0; clear hat0
    clear hblk
    go_wp2
    go_loopw [8, 9] (fun v s wr => ∃ k : Nat, s = .int .i64 ((k : Int) - 1) ∧ k ≤ 32 * na ∧ BitAt w g (val a) (val b) na k v wr) (fun _ s _ => (intOf s + 1).toNat)
    case atStart => exact ⟨32 * na, by go_num, Nat.le_refl _, HAT0.out⟩
    case round =>
      obtain ⟨k0, rfl, hk, hat⟩ := hrel
      obtain ⟨Q, ad, m, cap, l, rfl, hQ, hO, hcan, hd, hbel⟩ := hat
      clear HAT0 HST hbel2
      have hr := hO.rd hcan.1
      obtain ⟨ad', n', cap', e', hr⟩ := hr
      simp only [Value.slice.injEq] at e'
      obtain ⟨rfl, rfl, rfl⟩ := e'
      by_cases h0 : k0 = 0
      · subst h0
        have hrQ : Rd wr (.slice (some ⟨g, 0, none⟩) na na) Q := hQ.rd hd.2.1 hd.1 (Nat.le_refl _)
        have hlQ := hd.1
        have hR : val l < val b := by rw [hd.2.2.2]; exact Nat.mod_lt _ HBP.out
        have hll : l.length ≤ b.length := hcan.len (Nat.lt_trans hR HVB.out)
        have hend := hd.end
        have HE := Lib.hid hend; clear hend
        have HLQ := Lib.hid hlQ; clear hlQ
        have HLL := Lib.hid hll; clear hll
        clear hd hO hQ hR
        go_wp2_with fail
        refine (rnorm_any hrQ (by have := HLQ.out; omega)).mono ?_
        rintro e w5 ⟨ad5, n5, cap5, l5, rfl, -, hr5, k5, v5, hb5⟩
        have V5 := Lib.hid (v5.trans HE.out.1); clear v5
        have hr' := hr.below hb5
        have hbel5 := onto hbel hb5
        clear hr hbel hb5
        go_wp2_with fail
        refine (rnorm_any hr' (by have := HLL.out; have := HLB.out; omega)).mono ?_
        rintro e w6 ⟨ad6, n6, cap6, l6, rfl, -, hr6, k6, v6, hb6⟩
        have V6 := Lib.hid (v6.trans HE.out.2); clear v6
        have hr5' := hr5.below hb6
        have hbel6 := onto hbel5 hb6
        go_wp2
        go_ret3
        exact .inr ⟨HBP.out, _, _, _, l5, _, _, _, l6, rfl, hr5', k5, V5.out, hr6, k6, V6.out, hbel6⟩
      · obtain ⟨k, rfl⟩ : ∃ k, k0 = k + 1 := ⟨k0 - 1, by omega⟩
        clear h0
        have e0 : ((k + 1 : Nat) : Int) - 1 = (k : Int) := by omega
        rw [e0]
        have hR : val l < val b := by rw [hd.2.2.2]; exact Nat.mod_lt _ HBP.out
        have hll : l.length ≤ b.length := hcan.len (Nat.lt_trans hR HVB.out)
        have hR2 : 2 * val l + 1 < pw (b.length + 1) := by
          have := HVB.out
          rw [pw_succ]; omega
        have HR2 := Lib.hid hR2; clear hR2 hR
        have HLL := Lib.hid hll; clear hll
        have HD := Lib.hid hd; clear hd
        have hgsz : g + 1 ≤ wr.heap.size := hQ.lt
        go_wp2_with fail
        refine (radd_any hr hr (by have := HLL.out; have := HLB.out; omega) (by have := HLL.out; have := HLB.out; omega)).mono ?_
        rintro e w3 ⟨ad3, n3, cap3, l3, rfl, hO3, hr3, k3, v3, hb3⟩
        have hO4 := hO3.mono hgsz
        have hQ3 := hQ.below hb3
        have hbel3 := onto hbel hb3
        have hb3size := hb3.size
        have V3 := Lib.hid v3; clear v3
        clear hO hr hO3 hQ hbel hb3
        have hll3 : l3.length ≤ b.length + 1 := k3.len (by rw [V3.out]; have := HR2.out; omega)
        have HL3 := Lib.hid hll3; clear hll3
        go_wp2_with fail
        refine (rbit_any (HRA.out.below hbel3) (by have := HLA.out; omega) k (by omega)).mono ?_
        rintro e w' ⟨rfl, rfl⟩
        cases hbt : bt (val a) k
        · have hv3 : val l3 = 2 * val l + (if bt (val a) k then 1 else 0) := by rw [hbt, V3.out]; simp; omega
          have VV := Lib.hid hv3; clear hv3
          clear hbt
          go_wp2_with fail
          refine (rsub_any hr3 (HRB.out.below hbel3) (by have := HL3.out; have := HLB.out; omega) (by have := HLB.out; omega)).mono ?_
          rintro e w4 (⟨hle, ad4, n4, c4, l4, rfl, hO5, hr4, k4, v4, hb4⟩ | ⟨hlt, rfl, hb4⟩)
          · have hO6 := hO5.mono (Nat.le_trans hgsz hb3size)
            obtain ⟨q, s, hks, hs, hq⟩ : ∃ q s, k = 32 * q + s ∧ s < 32 ∧ q < na := ⟨k / 32, k % 32, by omega, by omega, by omega⟩
            have hQ4 := hQ3.below hb4
            have hroom := HD.out.room hks hs
            have hcl : w4.cell? ⟨g, q, none⟩ = some (.int .u32 (at0 Q q : Int)) := hQ4.cell (by
              have := HD.out.1
              unfold at0; rw [List.getD_eq_getElem?_getD, List.getElem?_eq_getElem (by omega)]; rfl)
            have hfr := hQ4.free q
            have x1 : at0 Q q < 4294967296 := at0_lt HD.out.2.1 q
            have hyes := HD.out.yes HBP.out (by rw [← VV.out]; exact hle) hks hs hq
            rw [← VV.out, ← v4] at hyes
            obtain ⟨x, hx⟩ : ∃ x, x = at0 Q q := ⟨_, rfl⟩
            rw [← hx] at hcl x1 hroom hyes
            obtain ⟨y, hy⟩ : ∃ y, y = x + 2 ^ s := ⟨_, rfl⟩
            rw [← hy] at hyes
            have f1 : (k : Int).tdiv 32 = (q : Int) := by rw [Int.tdiv_eq_ediv_of_nonneg (by omega)]; omega
            have f2 : (k : Int).tmod 32 = (s : Int) := by rw [Int.tmod_eq_emod_of_nonneg (by omega)]; omega
            have f3 : (k : Int) / 32 = (q : Int) := by omega
            have f4 : (k : Int) % 32 = (s : Int) := by omega
            have f5 : ((x : Int) + 2 ^ s) % 4294967296 = (y : Int) := by
              have e : (x : Int) + 2 ^ s = (y : Int) := by rw [hy, Int.natCast_add, Int.natCast_pow]; rfl
              rw [e]; omega
            have hbel4 := onto hbel3 hb4
            have HYES := Lib.hid hyes; clear hyes
            have HB4 := Lib.hid ((hbel4.setCell (p := ⟨g, q, none⟩) hgw (.int .u32 (y : Int))).drew)
            have HQ4 := Lib.hid (hQ4.set q y)
            have HO6 := Lib.hid (ownsRow_setCell_below hO6 (a := ⟨g, q, none⟩) (Nat.lt_succ_self g) (.int .u32 (y : Int)))
            clear hks hx hroom hy hO6 hbel4 hQ4 hbel3 hQ3 hb4 hO5 hO4 hr3 v4
            go_wp2
            go_region
            go_wp2
            go_roundw
            case rel => exact ⟨k, by go_num, by omega, Q.set q y, ad4, n4, c4, l4, rfl, HQ4.out, HO6.out, k4, HYES.out, HB4.out⟩
            case measure => simp [intOf]
          · have hno := HD.out.no HBP.out (by rw [← VV.out]; exact hlt)
            rw [← VV.out] at hno
            have HNO := Lib.hid hno; clear hno
            have hQ4 := Lib.hid (hQ3.below hb4)
            have hO6 := Lib.hid (hO4.later hb4)
            have hbel4 := onto hbel3 hb4
            clear hbel3 hQ3 hb4 hO4 hr3
            go_wp2
            go_roundw
            case rel => exact ⟨k, by go_num, by omega, Q, _, _, _, l3, rfl, hQ4.out, hO6.out, k3, HNO.out, hbel4⟩
            case measure => simp [intOf]
        · have ht : (if bt (val a) k then 1 else 0) = 1 := by rw [hbt]; rfl
          have HT := Lib.hid ht; clear ht
          clear hbt
          go_wp2_with fail
          refine (radd_any (hr3.below (alb _ _)) (lit1 _ 1 (by decide)) (by have := HL3.out; have := HLB.out; omega) (by simp)).mono ?_
          rintro e w5 ⟨ad5, n5, cap5, l5, rfl, hO5, hr5, k5, v5, hb5⟩
          replace hb5 := past hb5
          have hO4 := hO5.mono (Nat.le_trans hgsz (Nat.le_trans hb3size (by simp)))
          have hQ3 := hQ3.below hb5
          have hbel5 := onto hbel3 hb5
          have hb3size := Nat.le_trans hb3size hb5.size
          have VV : Hid (val l5 = 2 * val l + (if bt (val a) k then 1 else 0)) := Lib.hid (by rw [HT.out, v5, V3.out, val1]; omega)
          clear hO5 hr3 hb5 v5 hbel3
          have HL3 : Hid (l5.length ≤ b.length + 1) := Lib.hid (k5.len (by rw [VV.out, HT.out]; exact HR2.out))
          go_wp2_with fail
          refine (rsub_any hr5 (HRB.out.below hbel5) (by have := HL3.out; have := HLB.out; omega) (by have := HLB.out; omega)).mono ?_
          rintro e w4 (⟨hle, ad4, n4, c4, l4, rfl, hO5, hr4, k4, v4, hb4⟩ | ⟨hlt, rfl, hb4⟩)
          · have hO6 := hO5.mono (Nat.le_trans hgsz hb3size)
            obtain ⟨q, s, hks, hs, hq⟩ : ∃ q s, k = 32 * q + s ∧ s < 32 ∧ q < na := ⟨k / 32, k % 32, by omega, by omega, by omega⟩
            have hQ4 := hQ3.below hb4
            have hroom := HD.out.room hks hs
            have hcl : w4.cell? ⟨g, q, none⟩ = some (.int .u32 (at0 Q q : Int)) := hQ4.cell (by
              have := HD.out.1
              unfold at0; rw [List.getD_eq_getElem?_getD, List.getElem?_eq_getElem (by omega)]; rfl)
            have hfr := hQ4.free q
            have x1 : at0 Q q < 4294967296 := at0_lt HD.out.2.1 q
            have hyes := HD.out.yes HBP.out (by rw [← VV.out]; exact hle) hks hs hq
            rw [← VV.out, ← v4] at hyes
            obtain ⟨x, hx⟩ : ∃ x, x = at0 Q q := ⟨_, rfl⟩
            rw [← hx] at hcl x1 hroom hyes
            obtain ⟨y, hy⟩ : ∃ y, y = x + 2 ^ s := ⟨_, rfl⟩
            rw [← hy] at hyes
            have f1 : (k : Int).tdiv 32 = (q : Int) := by rw [Int.tdiv_eq_ediv_of_nonneg (by omega)]; omega
            have f2 : (k : Int).tmod 32 = (s : Int) := by rw [Int.tmod_eq_emod_of_nonneg (by omega)]; omega
            have f3 : (k : Int) / 32 = (q : Int) := by omega
            have f4 : (k : Int) % 32 = (s : Int) := by omega
            have f5 : ((x : Int) + 2 ^ s) % 4294967296 = (y : Int) := by
              have e : (x : Int) + 2 ^ s = (y : Int) := by rw [hy, Int.natCast_add, Int.natCast_pow]; rfl
              rw [e]; omega
            have hbel4 := onto hbel5 hb4
            have HYES := Lib.hid hyes; clear hyes
            have HB4 := Lib.hid ((hbel4.setCell (p := ⟨g, q, none⟩) hgw (.int .u32 (y : Int))).drew)
            have HQ4 := Lib.hid (hQ4.set q y)
            have HO6 := Lib.hid (ownsRow_setCell_below hO6 (a := ⟨g, q, none⟩) (Nat.lt_succ_self g) (.int .u32 (y : Int)))
            clear hks hx hroom hy hO6 hbel4 hQ4 hbel5 hQ3 hb4 hO5 hO4 hr5 v4
            go_wp2
            go_region
            go_wp2
            go_roundw
            case rel => exact ⟨k, by go_num, by omega, Q.set q y, ad4, n4, c4, l4, rfl, HQ4.out, HO6.out, k4, HYES.out, HB4.out⟩
            case measure => simp [intOf]
          · have hno := HD.out.no HBP.out (by rw [← VV.out]; exact hlt)
            rw [← VV.out] at hno
            have HNO := Lib.hid hno; clear hno
            have hQ4 := Lib.hid (hQ3.below hb4)
            have hO6 := Lib.hid (hO4.later hb4)
            have hbel4 := onto hbel5 hb4
            clear hbel5 hQ3 hb4 hO4 hr5
            go_wp2
            go_roundw
            case rel => exact ⟨k, by go_num, by omega, Q, _, _, _, l5, rfl, hQ4.out, hO6.out, k5, HNO.out, hbel4⟩
            case measure => simp [intOf]

end Go.Proofs.Ytpijjpjpedcbhaa
