/-
  The document's answer: its Sub. No condition but the lists' lengths.
-/
import Derived.Test.YtpijjpjpedcbhaaRefBit
namespace Go.Proofs.Ytpijjpjpedcbhaa
open Go.RowKit

/-- What the document's Sub answers of numbers worth A and B. -/
def OSubMade (w : World) (A B : Nat) (e : Ending) (w' : World) : Prop :=
  (B ≤ A ∧ ∃ ad n cap l, e = .returned (.tuple #[.slice ad n cap, .bool true]) ∧ Owns w' w.heap.size (.slice ad n cap) l ∧ Rd w' (.slice ad n cap) l ∧ Can l ∧ val l = A - B ∧ Below w.heap.size w w') ∨
  (A < B ∧ e = .returned (.tuple #[.slice none 0 0, .bool false]) ∧ Below w.heap.size w w')

theorem sm_over {l : List Nat} {n : Nat} (hv : val l < pw n) : sm (at0 l) n = val l := by
  rw [sm_take]
  have h := val_append (l.take n) (l.drop n)
  rw [List.take_append_drop] at h
  by_cases h0 : n < l.length
  · have h1 : (l.take n).length = n := by rw [List.length_take]; omega
    rw [h1] at h
    rcases Nat.eq_zero_or_pos (val (l.drop n)) with h2 | h2
    · rw [h, h2]; simp
    · have := Nat.mul_le_mul_left (pw n) h2
      omega
  · rw [List.take_of_length_le (by omega)]

theorem sub_parts (x y c : Nat) (hx : x < 4294967296) (hy : y < 4294967296) (hc : c ≤ 1) :
    ∃ o d : Nat, o = (x + 4294967296 - y - c) % 4294967296 ∧ bor x y c + d = 1 ∧ o < 4294967296 ∧ ((4294967296 : Int) + (x : Int) - (y : Int) - (c : Int)) % 4294967296 = (o : Int) ∧ ((4294967296 : Int) + (x : Int) - (y : Int) - (c : Int)) / 4294967296 = (d : Int) := by
  refine ⟨_, 1 - bor x y c, rfl, ?_, Nat.mod_lt _ (by decide), by omega, ?_⟩
  · have := bor_le x y c; omega
  · unfold bor; split <;> omega

/-- In the loop of the document's Sub. -/
def RSubAt (w : World) (a b : List Nat) (k : Nat) (v : Value) (c : Nat) (wr : World) : Prop :=
  ∃ l, Owns wr w.heap.size v l ∧ l.length = k ∧ Lim l ∧ c ≤ 1 ∧ InvSub a b k l c ∧ Below w.heap.size w wr

set_option maxHeartbeats 2000000 in
theorem rsub_any {w : World} {va vb : Value} {a b : List Nat} (ra : Rd w va a) (rb : Rd w vb b) (la : a.length ≤ 10000) (lb : b.length ≤ 10000) :
    Calls Try.prog 13 #[va, vb] w (OSubMade w (val a) (val b)) := by
  obtain ⟨ada, na, ca, rfl, -⟩ := id ra
  obtain ⟨adb, nb, cb, rfl, -⟩ := id rb
  obtain ⟨hna, -, hxa, -⟩ := ra.open
  obtain ⟨hnb, -, hxb, -⟩ := rb.open
  have la' : na ≤ 10000 := by omega
  have HA := Lib.hid hna; clear hna
  have HLB := Lib.hid lb; clear lb
  clear hnb
  by_cases hlt : val a < val b
  · have e1 := Lib.hid (tell_lt hlt)
    have HLT := Lib.hid hlt; clear hlt
    go_enter Try.func13, Try.ntmps13
    go_wp2_with fail
    refine (rcmp_any ra rb (by have := HA.out; omega) HLB.out).mono ?_
    rintro e w1 ⟨rfl, hbel⟩
    rw [e1.out]
    go_wp2
    go_ret2
    exact .inr ⟨HLT.out, rfl, hbel⟩
  · obtain ⟨v, hv, hv0⟩ : ∃ v, tell (val a) (val b) = v ∧ 0 ≤ v := ⟨_, rfl, by unfold tell; rw [if_neg hlt]; split <;> decide⟩
    have HLT := Lib.hid hlt; clear hlt
    go_enter Try.func13, Try.ntmps13
    go_wp2_with fail
    refine (rcmp_any ra rb (by have := HA.out; omega) HLB.out).mono ?_
    rintro e w1 ⟨rfl, hbel1⟩
    rw [hv]
    clear hv
    go_wp2
    go_loopw [6, 7, 8] (fun v c i wr => ∃ k cn : Nat, i = .int .i64 k ∧ c = .int .u64 cn ∧ k ≤ na ∧ RSubAt w a b k v cn wr) (fun _ _ i _ => na - (intOf i).toNat)
    case atStart => exact ⟨0, 0, rfl, rfl, by omega, [], Owns.nil _ _, rfl, fun x hx => by simp at hx, by decide, ⟨by simp [val, sm], by decide⟩, hbel1⟩
    case round =>
      obtain ⟨k, cn, rfl, rfl, hk, hat⟩ := hrel
      obtain ⟨l, hown, hlen, hlim, hc1, hinv, hbel⟩ := hat
      have HL := Lib.hid hlen; clear hlen
      have HI := Lib.hid hinv; clear hinv
      by_cases hkm : k < na
      · have x1 := at0_lt hxa k
        have y1 := at0_lt hxb k
        have o1 := rlimb_any (ra.below hbel) k
        have o2 := rlimb_any (rb.below hbel) k
        have hstep := (HI.out).step hxa hxb HL.out
        obtain ⟨x, hx⟩ : ∃ x, x = at0 a k := ⟨_, rfl⟩
        obtain ⟨y, hy⟩ : ∃ x, x = at0 b k := ⟨_, rfl⟩
        rw [← hx, ← hy] at hstep
        rw [← hx] at x1 o1
        rw [← hy] at y1 o2
        have O1 := Lib.hid o1; clear o1
        have O2 := Lib.hid o2; clear o2
        clear hx hy
        obtain ⟨o, d, ho, hd, ho2, e1, e2⟩ := sub_parts x y cn x1 y1 hc1
        rw [← ho] at hstep
        obtain ⟨c', hc'⟩ : ∃ c', c' = bor x y cn := ⟨_, rfl⟩
        rw [← hc'] at hstep hd
        clear ho hc'
        have hc2 : c' ≤ 1 := by omega
        have HST := Lib.hid hstep; clear hstep
        have HOWN := Lib.hid (hown.alloc (.cells #[.int .u32 (o : Int)] 36)); clear hown
        have hsz := hbel.size
        go_wp2_with fail
        refine O1.out.mono ?_
        rintro e w' ⟨rfl, rfl⟩
        go_wp2_with fail
        refine O2.out.mono ?_
        rintro e w' ⟨rfl, rfl⟩
        go_wp2_with (at_builtin; refine wpList_push _ rfl _ _ rfl w.heap.size _ l rfl HOWN.out wr.heap.size o rfl (one_cell _ _ _) (by have := HL.out; omega) (by simp; omega) ?_)
        intro v' w' hown' hb'
        have hbel' := hb' w.heap.size w (Nat.le_refl _) (hbel.alloc hsz _) (by omega)
        clear hb'
        go_wp2
        go_roundw
        case rel => exact ⟨k + 1, c', by go_num, by go_num, by omega, _, hown', by rw [List.length_append, HL.out]; rfl, lim_snoc hlim ho2, hc2, HST.out, hbel'⟩
        case measure => simp [intOf]; omega
      · obtain rfl : k = na := by omega
        obtain ⟨ad1, n1, cap1, e1, hr1⟩ := hown.rd hlim
        subst e1
        go_wp2_with fail
        refine (rnorm_any hr1 (by have := HL.out; omega)).mono ?_
        rintro e w3 ⟨ad, k', cap, l', rfl, hown', hr', hcan, hv', hb3⟩
        have HOW := Lib.hid (hown'.mono hbel.size); clear hown'
        have hval : val b ≤ val a ∧ val l' = val a - val b := by
          have hle : val b ≤ val a := by have := HLT.out; omega
          obtain ⟨hi, hc⟩ := HI.out
          have v1 := val_lt a hxa
          have v2 := val_lt l hlim
          rw [← HA.out] at v1
          rw [HL.out] at v2
          rw [sm_over v1, sm_over (by omega : val b < pw k)] at hi
          rcases (by omega : cn = 0 ∨ cn = 1) with rfl | rfl <;> omega
        have HV := Lib.hid hval; clear hv' hval
        go_wp2
        go_ret2
        exact .inl ⟨HV.out.1, ad, k', cap, l', rfl, HOW.out, hr', hcan, HV.out.2, onto hbel hb3⟩

end Go.Proofs.Ytpijjpjpedcbhaa
