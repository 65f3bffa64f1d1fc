/-
  The document's answer: its bit and Cmp: which of two numbers is greater, bit by bit. No condition but the lists' lengths.
-/
import Derived.Test.YtkfododihdopiaaDoorRefAdd
namespace Go.Proofs.YtkfododihdopiaaDoor
open Go.RowKit

theorem bit_spell (x s : Nat) : (((x : Int) / 2 ^ s).tmod 2 == 1) = decide (x / 2 ^ s % 2 = 1) := by
  have e : (x : Int) / 2 ^ s = ((x / 2 ^ s : Nat) : Int) := by rw [Int.natCast_ediv, Int.natCast_pow]; rfl
  rw [e, Int.tmod_eq_emod_of_nonneg (Int.natCast_nonneg _)]
  by_cases h : x / 2 ^ s % 2 = 1
  · rw [decide_eq_true h, beq_iff_eq]; omega
  · rw [decide_eq_false h, beq_eq_false_iff_ne]; omega

set_option maxHeartbeats 400000 in
theorem rbit_in (b o n cap i q s x : Nat) (w : World) (hi : i = 32 * q + s) (hs : s < 32) (hq : q < n) (hn : n ≤ 1000000) (hc : w.cell? ⟨b, o + q, none⟩ = some (.int .u32 (x : Int))) :
    Calls Tryd.prog 30 #[.slice (some ⟨b, o, none⟩) n cap, .int .i64 (i : Int)] w fun e w' => e = .returned (.bool (decide (x / 2 ^ s % 2 = 1))) ∧ w = w' := by
  have e1 : ((i : Nat) : Int).tdiv 32 = (q : Int) := by rw [Int.tdiv_eq_ediv_of_nonneg (by omega)]; omega
  have e2 : ((i : Nat) : Int).tmod 32 = (s : Int) := by rw [Int.tmod_eq_emod_of_nonneg (by omega)]; omega
  have e3 : ((i : Nat) : Int) / 32 = (q : Int) := by omega
  have e4 : ((i : Nat) : Int) % 32 = (s : Int) := by omega
  have HI := Lib.hid hi; clear hi
  have hi2 : i ≤ 64000000 := by have := HI.out; omega
  go_enter Tryd.func30, Tryd.ntmps30
  go_wp2
  go_ret
  exact ⟨congrArg (fun t => Ending.returned (.bool t)) (bit_spell x s), rfl⟩

set_option maxHeartbeats 400000 in
theorem rbit_out (ad : Option Addr) (n cap i q : Nat) (w : World) (hi : i / 32 = q) (hq : n ≤ q) (hn : q ≤ 1000000) :
    Calls Tryd.prog 30 #[.slice ad n cap, .int .i64 (i : Int)] w fun e w' => e = .returned (.bool false) ∧ w = w' := by
  have e1 : ((i : Nat) : Int).tdiv 32 = (q : Int) := by rw [Int.tdiv_eq_ediv_of_nonneg (by omega)]; omega
  have e3 : ((i : Nat) : Int) / 32 = (q : Int) := by omega
  have HI := Lib.hid hi; clear hi
  have hi2 : i ≤ 64000000 := by have := HI.out; omega
  go_enter Tryd.func30, Tryd.ntmps30
  go_wp2
  go_ret
  exact ⟨rfl, rfl⟩

theorem pw_two (q : Nat) : pw q = 2 ^ (32 * q) := by
  induction q with
  | zero => rfl
  | succ q ih => rw [pw_succ, ih, Nat.mul_add, Nat.pow_add, Nat.mul_comm]

theorem val_split (l : List Nat) (q : Nat) : val l = val (l.take q) + pw q * (at0 l q + 4294967296 * val (l.drop (q + 1))) := by
  by_cases h : q < l.length
  · have e : l = l.take q ++ l.drop q := (List.take_append_drop q l).symm
    have h1 : (l.take q).length = q := by rw [List.length_take]; omega
    have h2 : at0 l q = l[q] := by unfold at0; simp [h]
    rw [h2]
    conv => lhs; rw [e, val_append, h1, List.drop_eq_getElem_cons h]
    rfl
  · rw [at0_over (by omega), List.take_of_length_le (by omega), List.drop_eq_nil_of_le (by omega)]; simp [val]

theorem val_take_lt {l : List Nat} (h : Lim l) (q : Nat) : val (l.take q) < pw q := by
  have h1 := val_lt (l.take q) fun x hx => h x (List.mem_of_mem_take hx)
  exact Nat.lt_of_lt_of_le h1 (pw_le (by rw [List.length_take]; omega))

/-- A number's bit is one of a limb's. -/
theorem val_bit {l : List Nat} (h : Lim l) (q s : Nat) (hs : s < 32) : val l / 2 ^ (32 * q + s) % 2 = at0 l q / 2 ^ s % 2 := by
  have h1 := val_take_lt h q
  rw [val_split l q, Nat.pow_add, ← pw_two, ← Nat.div_div_eq_div_mul, Nat.add_mul_div_left _ _ (pw_pos q), Nat.div_eq_of_lt h1, Nat.zero_add]
  obtain ⟨t, ht⟩ : ∃ t, 32 = s + 1 + t := ⟨31 - s, by omega⟩
  have e : (4294967296 : Nat) = 2 ^ s * (2 * 2 ^ t) := by
    rw [show (4294967296 : Nat) = 2 ^ 32 from rfl, ht, Nat.pow_add, Nat.pow_succ, Nat.mul_assoc]
  rw [e, Nat.mul_assoc, Nat.add_mul_div_left _ _ (Nat.two_pow_pos s), Nat.mul_assoc, Nat.add_mul_mod_self_left]

/-- Bit i of a number. -/
def bt (A i : Nat) : Bool := decide (A / 2 ^ i % 2 = 1)

theorem rbit_any {w : World} {v : Value} {l : List Nat} (h : Rd w v l) (hl : l.length ≤ 1000000) (i : Nat) (hi : i ≤ 32000000) :
    Calls Tryd.prog 30 #[v, .int .i64 (i : Int)] w fun e w' => e = .returned (.bool (bt (val l) i)) ∧ w = w' := by
  obtain ⟨ad, n, cap, rfl, -⟩ := id h
  obtain ⟨hn, hcap, hx, hr⟩ := h.open
  have e := val_bit hx (i / 32) (i % 32) (Nat.mod_lt _ (by decide))
  rw [Nat.div_add_mod] at e
  by_cases hk : i / 32 < n
  · obtain ⟨b, o, rfl, hb, hcell⟩ := hr (by omega)
    unfold bt
    rw [e]
    exact rbit_in b o n cap i (i / 32) (i % 32) (at0 l (i / 32)) w (by omega) (Nat.mod_lt _ (by decide)) hk (by omega) (hcell _ hk)
  · have e2 : bt (val l) i = false := by
      unfold bt
      rw [e, at0_over (by omega), Nat.zero_div]; rfl
    rw [e2]
    exact rbit_out ad n cap i (i / 32) w rfl (by omega) (by omega)

theorem up_bit (A k : Nat) : A / 2 ^ k = 2 * (A / 2 ^ (k + 1)) + (if bt A k then 1 else 0) := by
  rw [Nat.pow_succ, ← Nat.div_div_eq_div_mul]
  unfold bt
  generalize A / 2 ^ k = m
  by_cases h : m % 2 = 1
  · simp [h]; omega
  · simp [h]; omega

theorem up_lt {A B k : Nat} (h : A / 2 ^ k < B / 2 ^ k) : A < B := by
  rcases Nat.lt_or_ge A B with h1 | h1
  · exact h1
  · exact absurd (Nat.div_le_div_right (c := 2 ^ k) h1) (by omega)

theorem told {A B : Nat} {t : Int} (h : tell A B = t) : Ending.returned (.int .i64 t) = .returned (.int .i64 (tell A B)) := by rw [h]

/-- In the loop of the document's Cmp. -/
def CmpAt (w : World) (A B n : Nat) (s : Value) (wr : World) : Prop := ∃ k : Nat, s = .int .i64 ((k : Int) - 1) ∧ k ≤ n ∧ A / 2 ^ k = B / 2 ^ k ∧ Below w.heap.size w wr

set_option maxHeartbeats 1000000 in
theorem rcmp_any {w : World} {va vb : Value} {a b : List Nat} (ra : Rd w va a) (rb : Rd w vb b) (la : a.length ≤ 10000) (lb : b.length ≤ 10000) :
    Calls Tryd.prog 19 #[va, vb] w fun e w' => e = .returned (.int .i64 (tell (val a) (val b))) ∧ Below w.heap.size w w' := by
  obtain ⟨ada, na, ca, rfl, -⟩ := id ra
  obtain ⟨adb, nb, cb, rfl, -⟩ := id rb
  obtain ⟨hna, -, hxa, -⟩ := ra.open
  obtain ⟨hnb, -, hxb, -⟩ := rb.open
  have la' : na ≤ 10000 := by omega
  have lb' : nb ≤ 10000 := by omega
  obtain ⟨M, hM1, hM2, hM3⟩ : ∃ M : Nat, na ≤ M ∧ nb ≤ M ∧ (M = na ∨ M = nb) := ⟨max na nb, by omega, by omega, by omega⟩
  have hst : val a / 2 ^ (32 * M) = val b / 2 ^ (32 * M) := by
    rw [← pw_two, Nat.div_eq_of_lt (val_small hxa (by omega)), Nat.div_eq_of_lt (val_small hxb (by omega))]
  have HST := Lib.hid hst; clear hst
  have HM := Lib.hid hM3
  have hM4 : M ≤ 10000 := by omega
  have o1 := fun (wr : World) (h : Below w.heap.size w wr) (i : Nat) (hi : i ≤ 32000000) => rbit_any (ra.below h) (by omega) i hi
  have o2 := fun (wr : World) (h : Below w.heap.size w wr) (i : Nat) (hi : i ≤ 32000000) => rbit_any (rb.below h) (by omega) i hi
  clear hM3
  obtain ⟨A, hA⟩ : ∃ A, A = val a := ⟨_, rfl⟩
  obtain ⟨B, hB⟩ : ∃ B, B = val b := ⟨_, rfl⟩
  rw [← hA, ← hB] at HST ⊢
  rw [← hA] at o1
  rw [← hB] at o2
  clear hA hB hna hnb hxa hxb la lb ra rb
  have O1 := Lib.hid o1; clear o1
  have O2 := Lib.hid o2; clear o2
  by_cases hlt : na < nb
  all_goals
    have hM6 : (if na < nb then nb else na) ≤ M := by split <;> omega
    have hM7 : M ≤ (if na < nb then nb else na) := by have := HM.out; split <;> omega
    first | rw [if_pos hlt] at hM6 hM7 | rw [if_neg hlt] at hM6 hM7
    have hM8 := Nat.le_antisymm hM7 hM6
    go_enter Tryd.func19, Tryd.ntmps19
    go_wp2
    go_loopw [6] (fun s wr => CmpAt w A B (32 * M) s wr) (fun s _ => (intOf s + 1).toNat)
    case atStart => exact ⟨32 * M, by go_num, Nat.le_refl _, HST.out, Below.refl _ _⟩
    case round =>
      obtain ⟨k0, rfl, hk, he, hbel⟩ := hrel
      have HE := Lib.hid he; clear he
      by_cases h0 : k0 = 0
      · subst h0
        have e : tell A B = 0 := by
          have := HE.out
          simp at this
          rw [this]; unfold tell; simp
        have E := Lib.hid e; clear e
        go_wp2
        go_ret
        exact ⟨told E.out, hbel⟩
      · obtain ⟨k, rfl⟩ : ∃ k, k0 = k + 1 := ⟨k0 - 1, by omega⟩
        clear h0
        have q1 := O1.out wr hbel k (by omega)
        have q2 := O2.out wr hbel k (by omega)
        have u1 := up_bit A k
        have u2 := up_bit B k
        rw [HE.out] at u1
        have e0 : ((k + 1 : Nat) : Int) - 1 = (k : Int) := by omega
        rw [e0]
        have Q1 := Lib.hid q1; clear q1
        have Q2 := Lib.hid q2; clear q2
        cases hba : bt A k <;> cases hbb : bt B k
        all_goals
          rw [hba] at Q1 u1
          rw [hbb] at Q2 u2
          have U1 := Lib.hid u1; clear u1
          have U2 := Lib.hid u2; clear u2
          clear hba hbb
        · go_wp2_with fail
          refine Q1.out.mono ?_
          rintro e w' ⟨rfl, rfl⟩
          go_wp2_with fail
          refine Q2.out.mono ?_
          rintro e w' ⟨rfl, rfl⟩
          go_wp2
          go_roundw
          case rel => exact ⟨k, by go_num, by omega, by rw [U1.out, U2.out], hbel⟩
          case measure => simp [intOf]
        · go_wp2_with fail
          refine Q1.out.mono ?_
          rintro e w' ⟨rfl, rfl⟩
          go_wp2_with fail
          refine Q2.out.mono ?_
          rintro e w' ⟨rfl, rfl⟩
          go_wp2_with fail
          refine Q1.out.mono ?_
          rintro e w' ⟨rfl, rfl⟩
          have e : tell A B = -1 := tell_lt (up_lt (k := k) (by rw [U1.out, U2.out]; simp))
          have E := Lib.hid e; clear e
          go_wp2
          go_ret
          exact ⟨told E.out, hbel⟩
        · go_wp2_with fail
          refine Q1.out.mono ?_
          rintro e w' ⟨rfl, rfl⟩
          go_wp2_with fail
          refine Q2.out.mono ?_
          rintro e w' ⟨rfl, rfl⟩
          go_wp2_with fail
          refine Q1.out.mono ?_
          rintro e w' ⟨rfl, rfl⟩
          have e : tell A B = 1 := by
            have : B < A := up_lt (k := k) (by rw [U1.out, U2.out]; simp)
            unfold tell
            rw [if_neg (by omega), if_pos this]
          have E := Lib.hid e; clear e
          go_wp2
          go_ret
          exact ⟨told E.out, hbel⟩
        · go_wp2_with fail
          refine Q1.out.mono ?_
          rintro e w' ⟨rfl, rfl⟩
          go_wp2_with fail
          refine Q2.out.mono ?_
          rintro e w' ⟨rfl, rfl⟩
          go_wp2
          go_roundw
          case rel => exact ⟨k, by go_num, by omega, by rw [U1.out, U2.out], hbel⟩
          case measure => simp [intOf]

end Go.Proofs.YtkfododihdopiaaDoor
