/-
  nat.Sub: the difference of two lists, where the first one is not less; nothing and false otherwise. No condition but that each has at most ten thousand limbs.
-/
import Derived.Test.YtpijjpjpedcbhaaAdd
namespace Go.Proofs.Ytpijjpjpedcbhaa
open Go.RowKit

/-- What has been taken away so far. -/
def InvSub (a b : List Nat) (k : Nat) (l : List Nat) (c : Nat) : Prop := val l + sm (at0 b) k = sm (at0 a) k + pw k * c ∧ c ≤ 1

theorem sub_limb (x y c : Nat) (hx : x < 4294967296) (hy : y < 4294967296) (hc : c ≤ 1) : (x + 4294967296 - y - c) % 4294967296 + y + c = x + 4294967296 * bor x y c := by
  unfold bor; split <;> omega

theorem InvSub.step {a b : List Nat} (ha : Lim a) (hb : Lim b) {k : Nat} {l : List Nat} {c : Nat} (h : InvSub a b k l c) (hl : l.length = k) :
    InvSub a b (k + 1) (l ++ [(at0 a k + 4294967296 - at0 b k - c) % 4294967296]) (bor (at0 a k) (at0 b k) c) := by
  obtain ⟨h, hc⟩ := h
  refine ⟨?_, bor_le _ _ _⟩
  have e := congrArg (pw k * ·) (sub_limb _ _ c (at0_lt ha k) (at0_lt hb k) hc)
  simp only [sm]
  rw [val_snoc, hl, pw_succ, Nat.mul_comm 4294967296 (pw k), Nat.mul_assoc]
  simp only [Nat.mul_add] at e
  omega

theorem sub32_step (a b : List Nat) (ha : Lim a) (hb : Lim b) (k : Nat) (l : List Nat) (c : Nat) (w : World) (hl : l.length = k) (h : InvSub a b k l c) :
    Calls Try.prog 30 (#[.int .u32 (at0 a k : Int), .int .u32 (at0 b k : Int), .int .u32 (c : Int)] ++ #[]) w (Stepped (InvSub a b) k l w) := by
  refine (sub32_any _ _ _ w (at0_lt ha k) (at0_lt hb k) h.2).mono ?_
  rintro e w' ⟨rfl, rfl⟩
  exact ⟨⟨_, _, rfl, Nat.mod_lt _ (by decide), by have := bor_le (at0 a k) (at0 b k) c; omega, h.step ha hb hl⟩, rfl⟩

/-- What Sub answers of numbers worth A and B. -/
def SubMade (w : World) (A B : Nat) (e : Ending) (w' : World) : Prop :=
  (B ≤ A ∧ ∃ ad n cap l, e = .returned (.tuple #[.slice ad n cap, .bool true]) ∧ Rd w' (.slice ad n cap) l ∧ Can l ∧ val l = A - B ∧ Below w.heap.size w w') ∨
  (A < B ∧ e = .returned (.tuple #[.slice none 0 0, .bool false]) ∧ Below w.heap.size w w')

set_option maxHeartbeats 1000000 in
theorem sub_any {w : World} {va vb : Value} {a b : List Nat} (ha : Rd w va a) (hb : Rd w vb b) (la : a.length ≤ 10000) (lb : b.length ≤ 10000) :
    Calls Try.prog 12 #[va, vb] w (SubMade w (val a) (val b)) := by
  obtain ⟨i0, hi, hz0, hz1, hz2⟩ := info_parts Try.info36
  obtain ⟨ada, na, ca, rfl, hna, hca, hxa, -⟩ := id ha
  obtain ⟨adb, nb, cb, rfl, hnb, hcb, hxb, -⟩ := id hb
  have la' : na ≤ 10000 := by omega
  have lb' : nb ≤ 10000 := by omega
  have HA := Lib.hid hna; clear hna
  have HB := Lib.hid hnb; clear hnb
  have HXA := Lib.hid hxa; clear hxa
  have HXB := Lib.hid hxb; clear hxb
  have key : ∀ (M : Nat) (w1 : World), na ≤ M → nb ≤ M → M ≤ 10001 → w1.ownsRow w.heap.size 36 1 (.slice (some ⟨w.heap.size, 0, none⟩) M M) M (madeCells #[Value.int .u32 0] M).toList → w.grownBy w1 none →
      Calls Try.prog 29 #[.slice (some ⟨w.heap.size, 0, none⟩) M M, .slice ada na ca, .slice adb nb cb, .func (.func 30) #[] #[]] w1 fun e w2 => ∃ c l, e = .returned (.int .u32 ((c : Nat) : Int)) ∧ Rd w2 (.slice (some ⟨w.heap.size, 0, none⟩) M M) l ∧ l.length = M ∧ ((c = 0 ∧ val b ≤ val a ∧ val l = val a - val b) ∨ (c = 1 ∧ val a < val b)) ∧ Below w.heap.size w w2 := by
    intro M w1 h1 h2 h3 hown hgrow
    have hblk := made_row hown
    have hold : ∀ l w', Sta w1 w.heap.size 0 (List.replicate M 0) l w' → Below w.heap.size w w' := fun l w' h => grown_below hgrow h.1 (Nat.le_refl _)
    refine (along_any w1 w.heap.size 0 M M (List.replicate M 0) _ _ 30 #[] (at0 a) (at0 b) (InvSub a b) (by simp) (Nat.le_refl _) hblk (by omega)
      (fun k l w' _ _ hs => limb_any (ha.below (hold l w' hs)) (by omega) k) (fun k l w' _ _ hs => limb_any (hb.below (hold l w' hs)) (by omega) k)
      (fun k l c w' _ hl _ hinv hc => sub32_step a b HXA.out HXB.out k l c w' hl hinv) (by simp [InvSub, val, sm]) (fun _ _ => by simp [go_sem])).mono ?_
    rintro e w2 ⟨l, c, rfl, hl, hc, hL, hinv, hsta⟩
    obtain ⟨hr, hbel⟩ := fresh_done hgrow hsta hl hL
    refine ⟨c, l, rfl, hr, hl, ?_, hbel⟩
    obtain ⟨hinv, hc1⟩ := hinv
    have e1 := HA.out
    have e2 := HB.out
    rw [sm_all a (by omega), sm_all b (by omega)] at hinv
    have v := val_lt l hL
    rw [hl] at v
    rcases (by omega : c = 0 ∨ c = 1) with rfl | rfl <;> omega
  have KEY := Lib.hid key; clear key
  have HRA := Lib.hid ha; clear ha
  have HRB := Lib.hid hb; clear hb
  obtain ⟨M, hM1, hM2, hM3⟩ : ∃ M : Nat, na ≤ M ∧ nb ≤ M ∧ (M = na ∨ M = nb) := ⟨max na nb, by omega, by omega, by omega⟩
  have HM := Lib.hid hM3
  have hM4 : M ≤ 10001 := by omega
  clear hM3
  by_cases hlt : na < nb
  all_goals
    have hM5 := HM.out
    have hM6 : (if na < nb then nb else na) ≤ M := by split <;> omega
    have hM7 : M ≤ (if na < nb then nb else na) := by split <;> omega
    first | rw [if_pos hlt] at hM6 hM7 | rw [if_neg hlt] at hM6 hM7
    clear hM5
    go_enter Try.func12, Try.ntmps12
    go_wp2_with (at_make; refine wpList_make_full _ rfl _ _ 22 rfl w.heap.size 36 i0 (.int .u32 0) 1 Try.underlying22 hi hz0 hz1 _ _ _ _ M rfl rfl (by omega) (by omega) (by rw [hz2]; omega) (by unfold maxLen; omega) (Nat.le_refl _) ?_)
    intro w1 hown hgrow
    have HO := Lib.hid hown; clear hown
    have HG := Lib.hid hgrow; clear hgrow
    go_wp2_with fail
    refine (KEY.out M w1 hM1 hM2 hM4 HO.out HG.out).mono ?_
    rintro e w2 ⟨c, l, rfl, hr, hl, hv, hbel⟩
    have HL := Lib.hid hl; clear hl
    rcases hv with ⟨rfl, hv1, hv2⟩ | ⟨rfl, hv1⟩
    · have HV := Lib.hid hv2; clear hv2
      go_wp2_with fail
      refine (short_any hr (by have := HL.out; omega)).mono ?_
      rintro e w3 ⟨⟨ad, k, cap, l', rfl, hr', hcan, hv'⟩, rfl⟩
      have HV' := Lib.hid hv'; clear hv'
      go_wp2
      go_ret2
      exact .inl ⟨hv1, ad, k, cap, l', rfl, hr', hcan, HV'.out.trans HV.out, hbel⟩
    · go_wp2
      go_ret2
      exact .inr ⟨hv1, rfl, hbel⟩

end Go.Proofs.Ytpijjpjpedcbhaa
