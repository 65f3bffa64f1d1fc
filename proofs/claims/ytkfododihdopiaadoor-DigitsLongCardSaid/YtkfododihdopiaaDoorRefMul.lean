/-
  The document's answer: its times and Mul. No condition but the lists' lengths.
-/
import Derived.Test.YtkfododihdopiaaDoorRefSub
namespace Go.Proofs.YtkfododihdopiaaDoor
open Go.RowKit

/-- What times has written so far. -/
def InvTimes (a : List Nat) (m p k : Nat) (l : List Nat) (c : Nat) : Prop := val l + pw (p + k) * c = pw p * (m * sm (at0 a) k)

theorem InvTimes.step {a : List Nat} {m p k : Nat} {l : List Nat} {c : Nat} (h : InvTimes a m p k l c) (hl : l.length = p + k) {S : Nat} (hS : S = at0 a k * m + c) :
    InvTimes a m p (k + 1) (l ++ [S % 4294967296]) (S / 4294967296) := by
  unfold InvTimes at h ⊢
  have e : pw (p + k) * (S % 4294967296) + pw (p + (k + 1)) * (S / 4294967296) = pw (p + k) * S := by
    rw [← Nat.add_assoc, pw_succ, Nat.mul_comm 4294967296 (pw (p + k)), Nat.mul_assoc, ← Nat.mul_add, Nat.mod_add_div]
  rw [val_snoc, hl, Nat.add_assoc, e, hS, Nat.mul_add, Nat.add_comm (pw (p + k) * _), ← Nat.add_assoc, h]
  simp only [sm]
  rw [pw_add, Nat.mul_add, Nat.mul_add, Nat.mul_comm (at0 a k) m, Nat.mul_assoc (pw p), Nat.mul_left_comm (pw k) m]

theorem times_wide (x m c : Nat) (hx : x < 4294967296) (hm : m < 4294967296) (hc : c < 4294967296) :
    ∃ S o c' : Nat, S = x * m + c ∧ o = S % 4294967296 ∧ c' = S / 4294967296 ∧ o < 4294967296 ∧ c' < 4294967296 ∧ IntKind.u64.wrap (IntKind.u64.wrap ((x : Int) * (m : Int)) + (c : Int)) = (S : Int) ∧ S < 18446744073709551616 ∧ (S : Int) % 4294967296 = (o : Int) ∧ (S : Int) / 4294967296 = (c' : Int) := by
  have h := mul_lt x m hx hm
  refine ⟨x * m + c, (x * m + c) % 4294967296, (x * m + c) / 4294967296, rfl, rfl, rfl, Nat.mod_lt _ (by decide), ?_, ?_, ?_, ?_, ?_⟩
  · generalize x * m = t at h; omega
  · rw [wide1 x m hx hm, wide2 _ c h hc]
  · generalize x * m = t at h; omega
  · rfl
  · rfl

/-- In times' loop. -/
def TimesAt (w : World) (a : List Nat) (m p k : Nat) (v : Value) (c : Nat) (wr : World) : Prop :=
  ∃ l, Owns wr w.heap.size v l ∧ l.length = p + k ∧ Lim l ∧ c < 4294967296 ∧ InvTimes a m p k l c ∧ Below w.heap.size w wr

theorem made_owns {w1 : World} {base n : Nat} {v : Value} (h : w1.ownsRow base 35 1 v n (madeCells #[Value.int .u32 0] n).toList) : Owns w1 base v (List.replicate n 0) := by
  unfold Owns
  have e := toList_madeCells_one (.int .u32 0) n
  rw [List.length_replicate, List.map_replicate]
  rw [e] at h
  exact h

theorem val_zeros (n : Nat) : val (List.replicate n 0) = 0 := by
  induction n with
  | zero => rfl
  | succ n ih => rw [List.replicate_succ]; simp [val, ih]

theorem lim_zeros (n : Nat) : Lim (List.replicate n 0) := fun x hx => by
  rw [List.eq_of_mem_replicate hx]; decide

set_option maxHeartbeats 2000000 in
theorem rtimes_any {w : World} {va : Value} {a : List Nat} (ra : Rd w va a) (la : a.length ≤ 10000) (m p : Nat) (hm : m < 4294967296) (hp : p ≤ 10000) :
    Calls Tryd.prog 32 #[va, .int .u64 (m : Int), .int .i64 (p : Int)] w fun e w' => ∃ ad n cap l, e = .returned (.slice ad n cap) ∧ Rd w' (.slice ad n cap) l ∧ l.length ≤ p + a.length + 1 ∧ val l = pw p * (val a * m) ∧ Below w.heap.size w w' := by
  obtain ⟨i0, hi, hz0, hz1, hz2⟩ := info_parts Tryd.info36
  obtain ⟨ada, na, ca, rfl, -⟩ := id ra
  obtain ⟨hna, -, hxa, -⟩ := ra.open
  have la' : na ≤ 10000 := by omega
  have HA := Lib.hid hna; clear hna
  clear la
  go_enter Tryd.func32, Tryd.ntmps32
  go_wp2_with (at_make; refine wpList_make_full _ rfl _ _ 22 rfl w.heap.size 35 i0 (.int .u32 0) 1 Tryd.underlying22 hi hz0 hz1 _ _ _ _ p rfl rfl (by omega) (by omega) (by rw [hz2]; omega) (by unfold maxLen; omega) (Nat.le_refl _) ?_)
  intro w1 hown hgrow
  have hown2 := made_owns hown
  have hbel1 : Below w.heap.size w w1 := (Below.refl _ _).grown hgrow (Nat.le_refl _) (by simp)
  clear hown hgrow
  go_wp2
  go_loopw [7, 8, 9] (fun v c i wr => ∃ k cn : Nat, i = .int .i64 k ∧ c = .int .u64 cn ∧ k ≤ na + 1 ∧ TimesAt w a m p k v cn wr) (fun _ _ i _ => na + 1 - (intOf i).toNat)
  case atStart => exact ⟨0, 0, rfl, rfl, by omega, _, hown2, by simp, lim_zeros p, by decide, by simp [InvTimes, val_zeros, sm], hbel1⟩
  case round =>
    obtain ⟨k, cn, rfl, rfl, hk, hat⟩ := hrel
    obtain ⟨l, hown, hlen, hlim, hc1, hinv, hbel⟩ := hat
    have HL := Lib.hid hlen; clear hlen
    have HI := Lib.hid hinv; clear hinv
    clear hown2
    by_cases hkm : k ≤ na
    · have x1 := at0_lt hxa k
      have o1 := rlimb_any (ra.below hbel) k
      obtain ⟨x, hx⟩ : ∃ x, x = at0 a k := ⟨_, rfl⟩
      rw [← hx] at x1 o1
      have O1 := Lib.hid o1; clear o1
      obtain ⟨S, o, c', hS, ho, hc', ho2, hc2, e1, hS2, e2, e3⟩ := times_wide x m cn x1 hm hc1
      rw [hx] at hS
      have hstep := (HI.out).step HL.out hS
      rw [← ho, ← hc'] at hstep
      clear hS ho hc' hx
      have HST := Lib.hid hstep; clear hstep
      have HOWN := Lib.hid (hown.alloc (.cells #[.int .u32 (o : Int)] 35)); clear hown
      have hsz := hbel.size
      go_wp2_with fail
      refine O1.out.mono ?_
      rintro e w' ⟨rfl, rfl⟩
      go_wp2_with (at_builtin; refine wpList_push _ rfl _ _ rfl w.heap.size _ l rfl HOWN.out wr.heap.size o rfl (one_cell _ _ _) (by have := HL.out; omega) (by simp; omega) ?_)
      intro v' w' hown' hb'
      have hbel' := hb' w.heap.size w (Nat.le_refl _) (hbel.alloc hsz _) (by omega)
      clear hb'
      go_wp2
      go_roundw
      case rel => exact ⟨k + 1, c', by go_num, by first | rfl | (rw [e3]), by omega, _, hown', by rw [List.length_append, HL.out]; rfl, lim_snoc hlim ho2, hc2, HST.out, hbel'⟩
      case measure => simp [intOf]; omega
    · obtain rfl : k = na + 1 := by omega
      obtain ⟨ad1, n1, cap1, e1, hr1⟩ := hown.rd hlim
      subst e1
      clear hown
      have hval : val l = pw p * (val a * m) := by
        have hi := HI.out
        unfold InvTimes at hi
        rw [sm_all a (by have := HA.out; omega)] at hi
        have v1 := val_lt a hxa
        rw [← HA.out] at v1
        rcases Nat.eq_zero_or_pos cn with rfl | h
        · rw [Nat.mul_zero, Nat.add_zero] at hi; rw [hi, Nat.mul_comm m]
        · exfalso
          have h1 := Nat.mul_le_mul_left (pw (p + (na + 1))) h
          have h2 : val a * m < pw na * 4294967296 := Nat.mul_lt_mul'' v1 hm
          have h3 := Nat.mul_lt_mul_of_pos_left h2 (pw_pos p)
          rw [pw_add, pw_succ] at h1
          rw [Nat.mul_comm m, pw_add, pw_succ] at hi
          rw [Nat.mul_comm (pw na)] at h3
          omega
      have HV := Lib.hid hval; clear hval
      go_wp2
      go_ret
      exact ⟨ad1, n1, cap1, l, rfl, hr1, by have := HL.out; have := HA.out; omega, HV.out, hbel⟩

/-- In the loop of the document's Mul. -/
def RMulAt (w : World) (a b : List Nat) (k : Nat) (v : Value) (wr : World) : Prop :=
  ∃ ad n cap l, v = .slice ad n cap ∧ Rd wr (.slice ad n cap) l ∧ Can l ∧ val l = val a * sm (at0 b) k ∧ Below w.heap.size w wr

theorem sm_le_val (l : List Nat) (k : Nat) : sm (at0 l) k ≤ val l := by
  rw [sm_take]
  have h := val_append (l.take k) (l.drop k)
  rw [List.take_append_drop] at h
  omega

theorem mul_len {a b l : List Nat} (ha : Lim a) (hb : Lim b) (hl : Can l) {k : Nat} (hv : val l = val a * sm (at0 b) k) : l.length ≤ a.length + b.length := by
  refine hl.len ?_
  rw [hv, pw_add]
  exact Nat.mul_lt_mul'' (val_lt a ha) (Nat.lt_of_le_of_lt (sm_le_val b k) (val_lt b hb))

set_option maxHeartbeats 2000000 in
theorem rmul_any {w : World} {va vb : Value} {a b : List Nat} (ra : Rd w va a) (rb : Rd w vb b) (la : a.length ≤ 1000) (lb : b.length ≤ 1000) :
    Calls Tryd.prog 21 #[va, vb] w (OMade w (val a * val b)) := by
  obtain ⟨ada, na, ca, rfl, -⟩ := id ra
  obtain ⟨adb, nb, cb, rfl, -⟩ := id rb
  obtain ⟨hna, -, hxa, -⟩ := ra.open
  obtain ⟨hnb, hcb, hxb, hcell⟩ := rb.open
  have la' : na ≤ 1000 := by omega
  have lb' : nb ≤ 1000 := by omega
  have HA := Lib.hid hna; clear hna
  have HB := Lib.hid hnb; clear hnb
  have HC := Lib.hid hcell; clear hcell
  have HLA := Lib.hid la; clear la
  clear lb
  go_enter Tryd.func21, Tryd.ntmps21
  go_wp2
  go_loopw [5, 6] (fun v i wr => ∃ k : Nat, i = .int .i64 k ∧ k ≤ nb ∧ RMulAt w a b k v wr) (fun _ i _ => nb - (intOf i).toNat)
  case atStart => exact ⟨0, rfl, by omega, _, _, _, [], rfl, rd_void _ _ _, Can.nil, by simp [val, sm], Below.refl _ _⟩
  case round =>
    obtain ⟨k, rfl, hk, hat⟩ := hrel
    obtain ⟨ad, n, cap, l, rfl, hr, hcan, hval, hbel⟩ := hat
    have hlen := mul_len hxa hxb hcan hval
    have HLN := Lib.hid hlen; clear hlen
    have HV := Lib.hid hval; clear hval
    by_cases hkm : k < nb
    · obtain ⟨b1, o1, rfl, hb1, hc1⟩ := HC.out (by omega)
      have hd1 : wr.cell? ⟨b1, o1 + k, none⟩ = some (.int .u32 (at0 b k : Int)) := (hbel.cell (p := ⟨b1, o1 + k, none⟩) hb1).trans (hc1 k hkm)
      clear hc1
      have x1 := at0_lt hxb k
      have ot := fun (x : Nat) (hx : x < 4294967296) => rtimes_any (ra.below hbel) (by have := HLA.out; omega) x k hx (by omega)
      obtain ⟨x, hx⟩ : ∃ x, x = at0 b k := ⟨_, rfl⟩
      rw [← hx] at hd1 x1
      have O1 := Lib.hid (ot x x1); clear ot
      have HX := Lib.hid hx; clear hx
      go_wp2_with fail
      refine O1.out.mono ?_
      rintro e w2 ⟨adt, nt, ct, lt, rfl, rt, llt, vt, hb2⟩
      have LT := Lib.hid llt; clear llt
      have VT := Lib.hid vt; clear vt
      have hr2 := hr.below hb2
      have hbel2 := onto hbel hb2
      clear hd1
      go_wp2_with fail
      refine (radd_any hr2 rt (by have := HLN.out; have := HA.out; have := HB.out; omega) (by have := LT.out; have := HA.out; omega)).mono ?_
      rintro e w3 ⟨ads, ns, cs, ls, rfl, -, rs, ks, vs, hb3⟩
      have hbel3 := onto hbel2 hb3
      have hvs : val ls = val a * sm (at0 b) (k + 1) := by
        rw [vs, HV.out, VT.out, HX.out]
        simp only [sm]
        rw [Nat.mul_add, Nat.mul_left_comm]
      have HVS := Lib.hid hvs; clear hvs vs
      go_wp2
      go_roundw
      case rel => exact ⟨k + 1, by go_num, by omega, ads, ns, cs, ls, rfl, rs, ks, HVS.out, hbel3⟩
      case measure => simp [intOf]; omega
    · obtain rfl : k = nb := by omega
      go_wp2_with fail
      refine (rnorm_any hr (by have := HLN.out; have := HA.out; have := HB.out; omega)).mono ?_
      rintro e w3 ⟨ad, k', cap, l', rfl, hown', hr', hcan, hv', hb3⟩
      have HOW := Lib.hid (hown'.mono hbel.size); clear hown'
      have hval : val l' = val a * val b := by rw [hv', HV.out, sm_all b (by have := HB.out; omega)]
      have HVV := Lib.hid hval; clear hv' hval
      go_wp2
      go_ret
      exact ⟨ad, k', cap, l', rfl, HOW.out, hr', hcan, HVV.out, onto hbel hb3⟩

end Go.Proofs.YtkfododihdopiaaDoor
