/-
  nat.Add: the sum of two lists is worth the sum of both, in short, in new memory. No condition but that each has at most ten thousand limbs.
-/
import Derived.Test.YtkfododihdopiaaDoorStep
namespace Go.Proofs.YtkfododihdopiaaDoor
open Go.RowKit

theorem Tryd.info36 : (Tryd.prog.info? 35).map (fun i => (i.zero, i.size, i.bytes)) = some (some (.int .u32 0), 1, 4) := by kernel_rfl

/-- A new row of n limbs 0. -/
theorem made_row {w w1 : World} {base n : Nat} (h : w1.ownsRow base 35 1 (.slice (some ⟨w.heap.size, 0, none⟩) n n) n (madeCells #[Value.int .u32 0] n).toList) : Blk w1 w.heap.size (List.replicate n 0) := by
  obtain ⟨h1, h2⟩ := h
  rcases h2 with ⟨h2, _⟩ | ⟨g, cap, cur, hv, _, hg, _, _, hs, ht⟩
  · cases h2
  · simp only [Value.slice.injEq, Option.some.injEq, Addr.mk.injEq, and_true, true_and] at hv
    obtain ⟨rfl, rfl⟩ := hv
    unfold Blk
    rw [hg]
    have e : cur = (List.map (fun (x : Nat) => Value.int .u32 (x : Int)) (List.replicate n 0)).toArray := by
      apply Array.ext'
      rw [List.take_of_length_le (by simp [hs])] at ht
      rw [ht]
      have := toList_madeCells_one (.int .u32 0) n
      simpa using this
    rw [e]

/-- What a call answers that makes a number: a list in short, worth N; nothing that was there has been written. -/
def Made (w : World) (N : Nat) (e : Ending) (w' : World) : Prop :=
  ∃ ad n cap l, e = .returned (.slice ad n cap) ∧ Rd w' (.slice ad n cap) l ∧ Can l ∧ val l = N ∧ Below w.heap.size w w'

theorem grown_below {w w1 w2 : World} {g : Nat} (h1 : w.grownBy w1 none) (h2 : w1.grownBy w2 (some g)) (hg : w.heap.size ≤ g) : Below w.heap.size w w2 :=
  ⟨h2.os.trans h1.os, h2.tape.trans h1.tape, h2.output.trans h1.output, Nat.le_trans h1.size h2.size,
    fun k hk => (h2.block k (Nat.lt_of_lt_of_le hk h1.size) (by simp; omega)).trans (h1.block k hk (by simp))⟩

theorem put_whole {M : Nat} {l : List Nat} (h : l.length = M) : put (List.replicate M 0) 0 l = l := by
  unfold put; simp [h]

/-- The row that along has written, read as a slice. -/
theorem Blk.rd {w : World} {g : Nat} {l : List Nat} (h : Blk w g l) (hl : Lim l) {n cap : Nat} (hn : l.length = n) (hcap : n ≤ cap) : Rd w (.slice (some ⟨g, 0, none⟩) n cap) l :=
  ⟨_, n, cap, rfl, hn.symm, hcap, hl, fun _ => ⟨g, 0, rfl, h.lt, fun i x hi => by rw [Nat.zero_add]; exact h.cell hi⟩⟩

theorem fresh_done {w w1 w2 : World} {M : Nat} {l : List Nat} (h1 : w.grownBy w1 none) (h2 : Sta w1 w.heap.size 0 (List.replicate M 0) l w2) (hl : l.length = M) (hL : Lim l) :
    Rd w2 (.slice (some ⟨w.heap.size, 0, none⟩) M M) l ∧ Below w.heap.size w w2 := by
  obtain ⟨h3, h4⟩ := h2
  rw [put_whole hl] at h4
  exact ⟨h4.rd hL hl (Nat.le_refl _), grown_below h1 h3 (Nat.le_refl _)⟩

/-- What has been summed up so far. -/
def InvAdd (a b : List Nat) (k : Nat) (l : List Nat) (c : Nat) : Prop := val l + pw k * c = sm (at0 a) k + sm (at0 b) k

theorem InvAdd.step {a b : List Nat} {k : Nat} {l : List Nat} {c : Nat} (h : InvAdd a b k l c) (hl : l.length = k) :
    InvAdd a b (k + 1) (l ++ [(at0 a k + at0 b k + c) % 4294967296]) ((at0 a k + at0 b k + c) / 4294967296) := by
  unfold InvAdd at h ⊢
  simp only [sm]
  rw [val_snoc, hl]
  have e : pw k * ((at0 a k + at0 b k + c) % 4294967296) + pw (k + 1) * ((at0 a k + at0 b k + c) / 4294967296) = pw k * (at0 a k + at0 b k + c) := by
    rw [pw_succ, Nat.mul_comm 4294967296 (pw k), Nat.mul_assoc, ← Nat.mul_add, Nat.mod_add_div]
  rw [Nat.mul_add, Nat.mul_add] at e
  omega

theorem add32_step (a b : List Nat) (ha : Lim a) (hb : Lim b) (k : Nat) (l : List Nat) (c : Nat) (w : World) (hl : l.length = k) (h : InvAdd a b k l c) (hc : c < 4294967296) :
    Calls Tryd.prog 34 (#[.int .u32 (at0 a k : Int), .int .u32 (at0 b k : Int), .int .u32 (c : Int)] ++ #[]) w (Stepped (InvAdd a b) k l w) := by
  have h1 := at0_lt ha k
  have h2 := at0_lt hb k
  refine (add32_any _ _ _ w h1 h2 hc).mono ?_
  rintro e w' ⟨rfl, rfl⟩
  exact ⟨⟨_, _, rfl, Nat.mod_lt _ (by decide), by omega, h.step hl⟩, rfl⟩

set_option maxHeartbeats 1000000 in
theorem add_any {w : World} {va vb : Value} {a b : List Nat} (ha : Rd w va a) (hb : Rd w vb b) (la : a.length ≤ 10000) (lb : b.length ≤ 10000) :
    Calls Tryd.prog 22 #[va, vb] w (Made w (val a + val b)) := by
  obtain ⟨i0, hi, hz0, hz1, hz2⟩ := info_parts Tryd.info36
  obtain ⟨ada, na, ca, rfl, hna, hca, hxa, -⟩ := id ha
  obtain ⟨adb, nb, cb, rfl, hnb, hcb, hxb, -⟩ := id hb
  have la' : na ≤ 10000 := by omega
  have lb' : nb ≤ 10000 := by omega
  have HA := Lib.hid hna; clear hna
  have HB := Lib.hid hnb; clear hnb
  have HXA := Lib.hid hxa; clear hxa
  have HXB := Lib.hid hxb; clear hxb
  have key : ∀ (M : Nat) (w1 : World), na < M → nb < M → M ≤ 10001 → w1.ownsRow w.heap.size 35 1 (.slice (some ⟨w.heap.size, 0, none⟩) M M) M (madeCells #[Value.int .u32 0] M).toList → w.grownBy w1 none →
      Calls Tryd.prog 33 #[.slice (some ⟨w.heap.size, 0, none⟩) M M, .slice ada na ca, .slice adb nb cb, .func (.func 34) #[] #[]] w1 fun e w2 => ∃ c l, e = .returned (.int .u32 c) ∧ Rd w2 (.slice (some ⟨w.heap.size, 0, none⟩) M M) l ∧ l.length = M ∧ val l = val a + val b ∧ Below w.heap.size w w2 := by
    intro M w1 h1 h2 h3 hown hgrow
    have hblk := made_row hown
    have hold : ∀ l w', Sta w1 w.heap.size 0 (List.replicate M 0) l w' → Below w.heap.size w w' := fun l w' h => grown_below hgrow h.1 (Nat.le_refl _)
    refine (along_any w1 w.heap.size 0 M M (List.replicate M 0) _ _ 34 #[] (at0 a) (at0 b) (InvAdd a b) (by simp) (Nat.le_refl _) hblk (by omega)
      (fun k l w' _ _ hs => limb_any (ha.below (hold l w' hs)) (by omega) k) (fun k l w' _ _ hs => limb_any (hb.below (hold l w' hs)) (by omega) k)
      (fun k l c w' _ hl _ hinv hc => add32_step a b HXA.out HXB.out k l c w' hl hinv hc) (by simp [InvAdd, val, sm]) (fun _ _ => by simp [go_sem])).mono ?_
    rintro e w2 ⟨l, c, rfl, hl, hc, hL, hinv, hsta⟩
    obtain ⟨hr, hbel⟩ := fresh_done hgrow hsta hl hL
    refine ⟨_, l, rfl, hr, hl, ?_, hbel⟩
    unfold InvAdd at hinv
    have e1 := HA.out
    have e2 := HB.out
    rw [sm_all a (by omega), sm_all b (by omega)] at hinv
    have p := pw_pos M
    have v1 := val_lt a HXA.out
    have v2 := val_lt b HXB.out
    obtain ⟨M', rfl⟩ : ∃ M', M = M' + 1 := ⟨M - 1, by omega⟩
    have q1 := pw_le (show a.length ≤ M' by omega)
    have q2 := pw_le (show b.length ≤ M' by omega)
    have : c = 0 := by
      rcases Nat.eq_zero_or_pos c with h | h
      · exact h
      · have := Nat.mul_le_mul_left (pw (M' + 1)) h
        have e3 : pw (M' + 1) = 4294967296 * pw M' := rfl
        omega
    subst this
    omega
  have KEY := Lib.hid key; clear key
  have HRA := Lib.hid ha; clear ha
  have HRB := Lib.hid hb; clear hb
  obtain ⟨M, hM1, hM2, hM3⟩ : ∃ M : Nat, na < M ∧ nb < M ∧ (M = na + 1 ∨ M = nb + 1) := ⟨max na nb + 1, by omega, by omega, by omega⟩
  have HM := Lib.hid hM3
  have hM4 : M ≤ 10001 := by omega
  clear hM3
  by_cases hlt : na < nb
  all_goals
    have hM5 := HM.out
    have hM6 : (if na < nb then nb else na) + 1 ≤ M := by split <;> omega
    have hM7 : M ≤ (if na < nb then nb else na) + 1 := by split <;> omega
    first | rw [if_pos hlt] at hM6 hM7 | rw [if_neg hlt] at hM6 hM7
    clear hM5
    go_enter Tryd.func22, Tryd.ntmps22
    go_wp2_with (at_make; refine wpList_make_full _ rfl _ _ 22 rfl w.heap.size 35 i0 (.int .u32 0) 1 Tryd.underlying22 hi hz0 hz1 _ _ _ _ M rfl rfl (by omega) (by omega) (by rw [hz2]; omega) (by unfold maxLen; omega) (Nat.le_refl _) ?_)
    intro w1 hown hgrow
    have HO := Lib.hid hown; clear hown
    have HG := Lib.hid hgrow; clear hgrow
    go_wp2_with fail
    refine (KEY.out M w1 hM1 hM2 hM4 HO.out HG.out).mono ?_
    rintro e w2 ⟨c, l, rfl, hr, hl, hv, hbel⟩
    have HL := Lib.hid hl; clear hl
    have HV := Lib.hid hv; clear hv
    go_wp2_with fail
    refine (short_any hr (by have := HL.out; omega)).mono ?_
    rintro e w3 ⟨⟨ad, k, cap, l', rfl, hr', hcan, hv'⟩, rfl⟩
    have HV' := Lib.hid hv'; clear hv'
    go_wp2
    go_ret
    exact ⟨ad, k, cap, l', rfl, hr', hcan, HV'.out.trans HV.out, hbel⟩

end Go.Proofs.YtkfododihdopiaaDoor
