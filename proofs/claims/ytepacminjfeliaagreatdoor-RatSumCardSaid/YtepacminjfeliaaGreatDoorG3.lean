/-
  A part of the proof: RefNorm, RefAdd, RefBit, RefSub, RefMul, RefParse, RefTenth.
-/
import Derived.Test.YtepacminjfeliaaGreatDoorG2
import Derived.Deep.RegionWith
/-
  The document's answer: its limb, Norm and Of. No condition but the lists' lengths.
-/
namespace Go.Proofs.YtepacminjfeliaaGreatDoor
open Go.RowKit

set_option maxRecDepth 100000 in
set_option maxHeartbeats 400000 in
theorem rlimb_in (b o n cap k : Nat) (x : Nat) (w : World) (hk : k < n) (hx : x < 4294967296) (hc : w.cell? ⟨b, o + k, none⟩ = some (.int .u32 (x : Int))) :
    Calls Tryz.prog 83 #[.slice (some ⟨b, o, none⟩) n cap, .int .i64 (k : Int)] w fun e w' => e = .returned (.int .u64 (x : Int)) ∧ w = w' := by
  go_enter Tryz.func83, Tryz.ntmps83
  go_wp2
  go_ret
  exact ⟨rfl, rfl⟩

set_option maxRecDepth 100000 in
set_option maxHeartbeats 400000 in
theorem rlimb_out (ad : Option Addr) (n cap k : Nat) (w : World) (hk : n ≤ k) :
    Calls Tryz.prog 83 #[.slice ad n cap, .int .i64 (k : Int)] w fun e w' => e = .returned (.int .u64 0) ∧ w = w' := by
  go_enter Tryz.func83, Tryz.ntmps83
  go_wp2
  go_ret
  exact ⟨rfl, rfl⟩

theorem rlimb_any {w : World} {v : Value} {l : List Nat} (h : Rd w v l) (k : Nat) :
    Calls Tryz.prog 83 #[v, .int .i64 (k : Int)] w fun e w' => e = .returned (.int .u64 (at0 l k : Int)) ∧ w = w' := by
  obtain ⟨ad, n, cap, rfl, -⟩ := id h
  obtain ⟨hn, hcap, hx, hr⟩ := h.open
  by_cases hk : k < n
  · obtain ⟨b, o, rfl, hb, hcell⟩ := hr (by omega)
    exact rlimb_in b o n cap k _ w hk (at0_lt hx k) (hcell k hk)
  · rw [at0_over (by omega)]
    exact rlimb_out ad n cap k w (by omega)

theorem rd_void (w : World) (ad : Option Addr) (cap : Nat) : Rd w (.slice ad 0 cap) [] := ⟨ad, 0, cap, rfl, rfl, Nat.zero_le _, by simp, by simp⟩

/-- A row of the call's own that reads as l. -/
def Owns (w : World) (base : Nat) (v : Value) (l : List Nat) : Prop := w.ownsRow base 75 1 v l.length (l.map fun (x : Nat) => Value.int .u32 (x : Int))

theorem Owns.rd {w : World} {base : Nat} {v : Value} {l : List Nat} (h : Owns w base v l) (hl : Lim l) : ∃ ad n cap, v = .slice ad n cap ∧ Rd w (.slice ad n cap) l := by
  obtain ⟨ad, cap, e, r⟩ := own_rd h hl
  exact ⟨ad, l.length, cap, e, r⟩

theorem Owns.nil (w : World) (base : Nat) : Owns w base (.slice none 0 0) [] := World.ownsRow_nil _ _ _ _

theorem Owns.push {w : World} {base n : Nat} {v : Value} {l : List Nat} {o : Int} {k : Nat} (ho : o = (k : Int)) (hn : n = l.length) (h : w.ownsRow base 75 1 v (n + 1) ((l.map fun (x : Nat) => Value.int .u32 (x : Int)) ++ [.int .u32 o])) : Owns w base v (l ++ [k]) := by
  subst ho hn
  unfold Owns
  rw [List.map_append, List.length_append]
  exact h

theorem Owns.mono {w : World} {base base' : Nat} {v : Value} {l : List Nat} (h : Owns w base v l) (hb : base' ≤ base) : Owns w base' v l :=
  ⟨h.1, h.2.imp id fun ⟨g, cap, cur, hv, hg, r⟩ => ⟨g, cap, cur, hv, Nat.le_trans hb hg, r⟩⟩

/-- What a call answers that makes a number in memory of its own: a list in short, worth N. -/
def OMade (w : World) (N : Nat) (e : Ending) (w' : World) : Prop :=
  ∃ ad n cap l, e = .returned (.slice ad n cap) ∧ Owns w' w.heap.size (.slice ad n cap) l ∧ Rd w' (.slice ad n cap) l ∧ Can l ∧ val l = N ∧ Below w.heap.size w w'

theorem OMade.made {w : World} {N : Nat} {e : Ending} {w' : World} (h : OMade w N e w') : Made w N e w' := by
  obtain ⟨ad, n, cap, l, h1, _, h2, h3, h4, h5⟩ := h
  exact ⟨ad, n, cap, l, h1, h2, h3, h4, h5⟩

theorem owns_void (w : World) (base : Nat) (h : base ≤ w.heap.size) : Owns (w.alloc (.cells #[] 75)) base (.slice (some ⟨w.heap.size, 0, none⟩) 0 0) [] :=
  World.ownsRow_lit w #[] 0 h (by decide) rfl

/-- The loop of the document's Norm: where the limbs 0 at the end begin. -/
def Cut (l : List Nat) (n k : Nat) : Prop := k ≤ n ∧ (∀ j, k ≤ j → j < n → at0 l j = 0) ∧ (0 < k → at0 l (k - 1) ≠ 0)

set_option maxRecDepth 100000 in
set_option maxHeartbeats 2000000 in
theorem rnorm_some (b o n cap : Nat) (l : List Nat) (w : World) (hr : Rd w (.slice (some ⟨b, o, none⟩) n cap) l) (hn1 : n ≤ 1000000) (h0 : 0 < n) :
    Calls Tryz.prog 58 #[.slice (some ⟨b, o, none⟩) n cap] w (OMade w (val l)) := by
  obtain ⟨i0, hi, hz0, hz1, hz2⟩ := info_parts Tryz.info36
  obtain ⟨hn, hcap, hlim, hcell⟩ := hr.open
  obtain ⟨b', o', e, hb, hc⟩ := hcell h0
  simp only [Option.some.injEq, Addr.mk.injEq, and_true] at e
  obtain ⟨rfl, rfl⟩ := e
  have HN := Lib.hid hn; clear hn
  have HL := Lib.hid hlim; clear hlim
  clear hcell
  go_enter Tryz.func58, Tryz.ntmps58
  go_wp2
  go_loop [3] (fun s => ∃ k : Nat, s = .int .i64 k ∧ k ≤ n ∧ ∀ j, k ≤ j → j < n → at0 l j = 0) (fun s => (intOf s).toNat)
  case atStart => exact ⟨n, rfl, Nat.le_refl _, fun j h1 h2 => absurd h1 (by omega)⟩
  case round =>
    obtain ⟨k, rfl, hk, hz⟩ := hrel
    have HZ := Lib.hid hz; clear hz
    have HC := Lib.hid hc; clear hc
    have fin : ∀ (k : Nat), k ≤ n → (∀ j, k ≤ j → j < n → at0 l j = 0) → (0 < k → at0 l (k - 1) ≠ 0) → Rd w (.slice (some ⟨b, o, none⟩) k cap) (l.take k) ∧ Can (l.take k) ∧ val (l.take k) = val l ∧ (l.take k).length = k := by
      intro k hk hz h1
      obtain ⟨c1, c2, c3⟩ := cut_can HN.out HL.out hk hz h1
      refine ⟨⟨_, k, cap, rfl, c3.symm, by omega, c1.1, fun hp => ⟨b, o, rfl, hb, fun i x hi => ?_⟩⟩, c1, c2, c3⟩
      have hik : i < k := by
        have := (List.getElem?_eq_some_iff.1 hi).1
        omega
      rw [List.getElem?_take_of_lt hik] at hi
      have := HC.out i (by omega)
      unfold at0 at this
      rwa [List.getD_eq_getElem?_getD, hi] at this
    have FIN := Lib.hid fin; clear fin
    by_cases hk0 : 0 < k
    · obtain ⟨k', rfl⟩ : ∃ k', k = k' + 1 := ⟨k - 1, by omega⟩
      have hcell := HC.out k' (by omega)
      obtain ⟨x, hx⟩ : ∃ x : Nat, x = at0 l k' := ⟨_, rfl⟩
      rw [← hx] at hcell
      have HX := Lib.hid hx; clear hx
      by_cases hx0 : x = 0
      · subst hx0
        go_wp2
        go_round
        case rel =>
          refine ⟨k', by go_num, by omega, fun j h1 h2 => ?_⟩
          by_cases e : j = k'
          · subst e; exact HX.out.symm
          · exact HZ.out j (by omega) h2
        case measure => simp [intOf]
      · have hx1 : ((x : Int) == 0) = false := by simp; omega
        have hfin := FIN.out (k' + 1) hk HZ.out (fun _ => by show at0 l (k' + 1 - 1) ≠ 0; rw [Nat.add_sub_cancel, ← HX.out]; exact hx0)
        obtain ⟨l', hl'⟩ : ∃ l', l' = l.take (k' + 1) := ⟨_, rfl⟩
        rw [← hl'] at hfin
        obtain ⟨f1, f2, f3, f4⟩ := hfin
        clear hl'
        have F1 := Lib.hid f1; clear f1
        have F3 := Lib.hid f3; clear f3
        have F4 := Lib.hid f4; clear f4
        go_wp2_with (at_builtin; refine wpList_append_own _ rfl _ _ 38 rfl w.heap.size 75 i0 (.int .u32 0) 1 4 Tryz.underlying38 hi hz0 hz1 hz2 rfl (by decide) _ _ _ rfl (World.ownsRow_lit w #[] 0 (Nat.le_refl _) (by decide) rfl) ⟨b, o, none⟩ (k' + 1) cap (l'.map fun (x : Nat) => Value.int .u32 (x : Int)) rfl (by simp [F4.out]) ?c1 ?c2 ?c3 ?c4 (by simp) ?_)
        case c1 =>
          intro j u hu
          obtain ⟨_, _, _, e, _, _, _, hcl⟩ := F1.out
          simp only [Value.slice.injEq] at e
          obtain ⟨rfl, rfl, rfl⟩ := e
          obtain ⟨b2, o2, e, _, hcl⟩ := hcl (by omega)
          simp only [Option.some.injEq, Addr.mk.injEq, and_true] at e
          obtain ⟨rfl, rfl⟩ := e
          exact hcl j u hu
        case c2 => intro u hu; rfl
        case c3 => unfold maxLen; omega
        case c4 => omega
        intro v' w1 hown hgrow _
        have hown2 : Owns w1 w.heap.size v' l' := by
          unfold Owns
          rw [F4.out]
          simpa using hown
        obtain ⟨ad1, n1, cap1, rfl, hr1⟩ := hown2.rd f2.1
        clear hown
        have HOW := Lib.hid hown2; clear hown2
        go_wp2
        go_ret
        exact ⟨_, _, _, _, rfl, HOW.out, hr1, f2, F3.out, ((alb w _)).grown hgrow (by simp) (by simp [Value.ownBlock])⟩
    · obtain rfl : k = 0 := by omega
      obtain ⟨f1, f2, f3, f4⟩ := FIN.out 0 hk HZ.out (fun h => absurd h (by omega))
      have F3 := Lib.hid f3; clear f3
      clear f1 f2 f4
      go_wp2
      go_ret
      exact ⟨_, _, _, [], rfl, owns_void _ _ (Nat.le_refl _), rd_void _ _ _, Can.nil, by rw [← F3.out]; rfl, alb w _⟩

set_option maxRecDepth 100000 in
set_option maxHeartbeats 1000000 in
theorem rnorm_none (ad : Option Addr) (cap : Nat) (w : World) :
    Calls Tryz.prog 58 #[.slice ad 0 cap] w (OMade w 0) := by
  cases ad with
  | none =>
    go_enter Tryz.func58, Tryz.ntmps58
    go_wp2
    go_loop [3] (fun s => s = .int .i64 0) (fun _ => 0)
    case atStart => rfl
    case round =>
      obtain rfl := hrel
      go_wp2
      go_ret
      exact ⟨_, _, _, [], rfl, owns_void _ _ (Nat.le_refl _), rd_void _ _ _, Can.nil, rfl, alb w _⟩
  | some a =>
    go_enter Tryz.func58, Tryz.ntmps58
    go_wp2
    go_loop [3] (fun s => s = .int .i64 0) (fun _ => 0)
    case atStart => rfl
    case round =>
      obtain rfl := hrel
      go_wp2
      go_ret
      exact ⟨_, _, _, [], rfl, owns_void _ _ (Nat.le_refl _), rd_void _ _ _, Can.nil, rfl, alb w _⟩

theorem rnorm_any {w : World} {v : Value} {l : List Nat} (h : Rd w v l) (hl : l.length ≤ 1000000) : Calls Tryz.prog 58 #[v] w (OMade w (val l)) := by
  obtain ⟨ad, n, cap, rfl, -⟩ := id h
  obtain ⟨hn, hcap, hx, hr⟩ := h.open
  by_cases h0 : 0 < n
  · obtain ⟨b, o, rfl, hb, hcell⟩ := hr h0
    exact rnorm_some b o n cap l w h (by omega) h0
  · obtain rfl : n = 0 := by omega
    rw [List.eq_nil_of_length_eq_zero hn.symm]
    exact rnorm_none ad cap w

end Go.Proofs.YtepacminjfeliaaGreatDoor

/-
  The document's answer: its Add: the sum of two lists, in short.
-/
namespace Go.Proofs.YtepacminjfeliaaGreatDoor
open Go.RowKit

/-- append of one limb onto a row of the call's own. -/
theorem wpList_push {ops : Array Oper} {rest : List Oper} {o : Oper} {a : Act} {Q : Exit → Act → World → Prop} (w : World) (hgd : o.guard = none) (s x : Operand)
    (ho : o.op = .call { callee := .builtin .append, args := #[s, x], argTypes := #[38, 38] }) (base : Nat) (v : Value) (l : List Nat) (hs : a.eval s = v) (hown : Owns w base v l) (g : Nat) (k : Nat)
    (hx : a.eval x = .slice (some ⟨g, 0, none⟩) 1 1) (hc : w.cell? ⟨g, 0, none⟩ = some (.int .u32 (k : Int))) (hl : l.length ≤ 1000000) (hb : base ≤ w.heap.size)
    (h : ∀ v' w', Owns w' base v' (l ++ [k]) → (∀ B w0, B ≤ base → Below B w0 w → B ≤ w.heap.size → Below B w0 w') → wpList Tryz.prog ops Q rest (a.put o.dst v') w') : wpList Tryz.prog ops Q (o :: rest) a w := by
  obtain ⟨i0, hi, hz0, hz1, hz2⟩ := info_parts Tryz.info36
  refine wpList_append_own w hgd s x 38 ho base 75 i0 (.int .u32 0) 1 4 Tryz.underlying38 hi hz0 hz1 hz2 rfl (by decide) v l.length _ hs hown ⟨g, 0, none⟩ 1 1 [.int .u32 (k : Int)] hx rfl ?_ ?_ (by unfold maxLen; omega) (by omega) hb ?_
  · intro j u hj
    match j, hj with
    | 0, hj => simp at hj; subst hj; simpa [Addr.add] using hc
  · intro u hu; simp at hu; subst hu; rfl
  · intro v' w' hown' hgrow _
    refine h v' w' (Owns.push rfl rfl hown') fun B w0 hB hbel hB2 => hbel.grown hgrow hB2 fun j hj => ?_
    exact Nat.le_trans hB (World.ownsRow.lt hown j hj).1

theorem Owns.alloc {w : World} {base : Nat} {v : Value} {l : List Nat} (h : Owns w base v l) (o : Obj) : Owns (w.alloc o) base v l := World.ownsRow.alloc h o

theorem one_cell (w : World) (v : Value) (t : TypeId) : (w.alloc (.cells #[v] t)).cell? ⟨w.heap.size, 0, none⟩ = some v := by
  have h := heap_alloc_new w (.cells #[v] t)
  unfold World.cell?
  rw [h]; rfl

theorem alloc_le {n : Nat} {wr : World} {o : Obj} (h : n ≤ wr.heap.size) : n ≤ (wr.alloc o).heap.size := by simp; omega

theorem lim_snoc {l : List Nat} {x : Nat} (h : Lim l) (hx : x < 4294967296) : Lim (l ++ [x]) := by
  intro y hy
  rcases List.mem_append.1 hy with h1 | h1
  · exact h y h1
  · simp at h1; omega

/-- In the loop of the document's Add. -/
def RAddAt (w : World) (a b : List Nat) (k : Nat) (v : Value) (c : Nat) (wr : World) : Prop :=
  ∃ l, Owns wr w.heap.size v l ∧ l.length = k ∧ Lim l ∧ c ≤ 1 ∧ InvAdd a b k l c ∧ Below w.heap.size w wr

set_option maxRecDepth 100000 in
set_option maxHeartbeats 2000000 in
theorem radd_any {w : World} {va vb : Value} {a b : List Nat} (ra : Rd w va a) (rb : Rd w vb b) (la : a.length ≤ 10000) (lb : b.length ≤ 10000) :
    Calls Tryz.prog 57 #[va, vb] w (OMade w (val a + val b)) := by
  obtain ⟨ada, na, ca, rfl, -⟩ := id ra
  obtain ⟨adb, nb, cb, rfl, -⟩ := id rb
  obtain ⟨hna, -, hxa, -⟩ := ra.open
  obtain ⟨hnb, -, hxb, -⟩ := rb.open
  have la' : na ≤ 10000 := by omega
  have lb' : nb ≤ 10000 := by omega
  have HA := Lib.hid hna; clear hna
  have HB := Lib.hid hnb; clear hnb
  obtain ⟨M, hM1, hM2, hM3⟩ : ∃ M : Nat, na ≤ M ∧ nb ≤ M ∧ (M = na ∨ M = nb) := ⟨max na nb, by omega, by omega, by omega⟩
  have HM := Lib.hid hM3
  have hM4 : M ≤ 10001 := by omega
  clear hM3
  by_cases hlt : na < nb
  all_goals
    have hM6 : (if na < nb then nb else na) ≤ M := by split <;> omega
    have hM7 : M ≤ (if na < nb then nb else na) := by have := HM.out; split <;> omega
    first | rw [if_pos hlt] at hM6 hM7 | rw [if_neg hlt] at hM6 hM7
    go_enter Tryz.func57, Tryz.ntmps57
    go_wp2
    go_loopw [5, 6, 7] (fun v c i wr => ∃ k cn : Nat, i = .int .i64 k ∧ c = .int .u64 cn ∧ k ≤ M + 1 ∧ RAddAt w a b k v cn wr) (fun _ _ i _ => M + 1 - (intOf i).toNat)
    case atStart => exact ⟨0, 0, rfl, rfl, by omega, [], Owns.nil _ _, rfl, fun x hx => by simp at hx, by decide, by simp [InvAdd, val, sm], Below.refl _ _⟩
    case round =>
      obtain ⟨k, cn, rfl, rfl, hk, hat⟩ := hrel
      obtain ⟨l, hown, hlen, hlim, hc1, hinv, hbel⟩ := hat
      have HL := Lib.hid hlen; clear hlen
      have HI := Lib.hid hinv; clear hinv
      by_cases hkm : k ≤ M
      · have x1 := at0_lt hxa k
        have y1 := at0_lt hxb k
        have o1 := rlimb_any (ra.below hbel) k
        have o2 := rlimb_any (rb.below hbel) k
        obtain ⟨x, hx⟩ : ∃ x, x = at0 a k := ⟨_, rfl⟩
        obtain ⟨y, hy⟩ : ∃ x, x = at0 b k := ⟨_, rfl⟩
        rw [← hx] at x1 o1
        rw [← hy] at y1 o2
        have O1 := Lib.hid o1; clear o1
        have O2 := Lib.hid o2; clear o2
        have HX := Lib.hid hx; clear hx
        have HY := Lib.hid hy; clear hy
        obtain ⟨o, ho⟩ : ∃ o, o = (x + y + cn) % 4294967296 := ⟨_, rfl⟩
        obtain ⟨c', hc'⟩ : ∃ c', c' = (x + y + cn) / 4294967296 := ⟨_, rfl⟩
        have e1 : ((x : Int) + (y : Int) + (cn : Int)) % 4294967296 = (o : Int) := by omega
        have e2 : ((x : Int) + (y : Int) + (cn : Int)) / 4294967296 = (c' : Int) := by omega
        have ho2 : o < 4294967296 := by omega
        have hc2 : c' ≤ 1 := by omega
        have hstep := (HI.out).step HL.out
        rw [← HX.out, ← HY.out, ← ho, ← hc'] at hstep
        have HST := Lib.hid hstep; clear hstep
        have HO := Lib.hid ho; clear ho
        have HC := Lib.hid hc'; clear hc'
        have HOWN := Lib.hid (hown.alloc (.cells #[.int .u32 (o : Int)] 75)); clear hown
        have hsz := hbel.size
        go_wp2_with fail
        refine O1.out.mono ?_
        rintro e w' ⟨rfl, rfl⟩
        go_wp2_with fail
        refine O2.out.mono ?_
        rintro e w' ⟨rfl, rfl⟩
        go_wp2_with (at_builtin; refine wpList_push _ rfl _ _ rfl w.heap.size _ l rfl HOWN.out wr.heap.size o rfl (one_cell _ _ _) (by have := HL.out; omega) (by simp; omega) ?_)
        intro v' w' hown' hb'
        have hbel' := hb' w.heap.size w (Nat.le_refl _) (hbel.alloc hsz _) (by omega)
        clear hb'
        go_wp2
        go_roundw
        case rel => exact ⟨k + 1, c', by go_num, by first | rfl | rw [e2], by omega, _, hown', by rw [List.length_append, HL.out]; rfl, lim_snoc hlim ho2, hc2, HST.out, hbel'⟩
        case measure => simp [intOf]; omega
      · obtain rfl : k = M + 1 := by omega
        obtain ⟨ad1, n1, cap1, e1, hr1⟩ := hown.rd hlim
        subst e1
        go_wp2_with fail
        refine (rnorm_any hr1 (by have := HL.out; omega)).mono ?_
        rintro e w3 ⟨ad, k', cap, l', rfl, hown', hr', hcan, hv', hb3⟩
        have HOW := Lib.hid (hown'.mono hbel.size); clear hown'
        have hval : val l = val a + val b := by
          have hi := HI.out
          unfold InvAdd at hi
          rw [sm_all a (by have := HA.out; omega), sm_all b (by have := HB.out; omega)] at hi
          have v1 := val_lt a hxa
          have v2 := val_lt b hxb
          have q1 := pw_le (show a.length ≤ M by have := HA.out; omega)
          have q2 := pw_le (show b.length ≤ M by have := HB.out; omega)
          have p := pw_pos M
          rcases (by omega : cn = 0 ∨ cn = 1) with rfl | rfl
          · omega
          · rw [pw_succ] at hi; omega
        have HV := Lib.hid (hv'.trans hval); clear hv' hval
        go_wp2
        go_ret
        exact ⟨ad, k', cap, l', rfl, HOW.out, hr', hcan, HV.out, onto hbel hb3⟩

end Go.Proofs.YtepacminjfeliaaGreatDoor

/-
  The document's answer: its bit and Cmp: which of two numbers is greater, bit by bit. No condition but the lists' lengths.
-/
namespace Go.Proofs.YtepacminjfeliaaGreatDoor
open Go.RowKit

theorem bit_spell (x s : Nat) : (((x : Int) / 2 ^ s).tmod 2 == 1) = decide (x / 2 ^ s % 2 = 1) := by
  have e : (x : Int) / 2 ^ s = ((x / 2 ^ s : Nat) : Int) := by rw [Int.natCast_ediv, Int.natCast_pow]; rfl
  rw [e, Int.tmod_eq_emod_of_nonneg (Int.natCast_nonneg _)]
  by_cases h : x / 2 ^ s % 2 = 1
  · rw [decide_eq_true h, beq_iff_eq]; omega
  · rw [decide_eq_false h, beq_eq_false_iff_ne]; omega

set_option maxRecDepth 100000 in
set_option maxHeartbeats 400000 in
theorem rbit_in (b o n cap i q s x : Nat) (w : World) (hi : i = 32 * q + s) (hs : s < 32) (hq : q < n) (hn : n ≤ 1000000) (hc : w.cell? ⟨b, o + q, none⟩ = some (.int .u32 (x : Int))) :
    Calls Tryz.prog 67 #[.slice (some ⟨b, o, none⟩) n cap, .int .i64 (i : Int)] w fun e w' => e = .returned (.bool (decide (x / 2 ^ s % 2 = 1))) ∧ w = w' := by
  have e1 : ((i : Nat) : Int).tdiv 32 = (q : Int) := by rw [Int.tdiv_eq_ediv_of_nonneg (by omega)]; omega
  have e2 : ((i : Nat) : Int).tmod 32 = (s : Int) := by rw [Int.tmod_eq_emod_of_nonneg (by omega)]; omega
  have e3 : ((i : Nat) : Int) / 32 = (q : Int) := by omega
  have e4 : ((i : Nat) : Int) % 32 = (s : Int) := by omega
  have HI := Lib.hid hi; clear hi
  have hi2 : i ≤ 64000000 := by have := HI.out; omega
  go_enter Tryz.func67, Tryz.ntmps67
  go_wp2
  go_ret
  exact ⟨congrArg (fun t => Ending.returned (.bool t)) (bit_spell x s), rfl⟩

set_option maxRecDepth 100000 in
set_option maxHeartbeats 400000 in
theorem rbit_out (ad : Option Addr) (n cap i q : Nat) (w : World) (hi : i / 32 = q) (hq : n ≤ q) (hn : q ≤ 1000000) :
    Calls Tryz.prog 67 #[.slice ad n cap, .int .i64 (i : Int)] w fun e w' => e = .returned (.bool false) ∧ w = w' := by
  have e1 : ((i : Nat) : Int).tdiv 32 = (q : Int) := by rw [Int.tdiv_eq_ediv_of_nonneg (by omega)]; omega
  have e3 : ((i : Nat) : Int) / 32 = (q : Int) := by omega
  have HI := Lib.hid hi; clear hi
  have hi2 : i ≤ 64000000 := by have := HI.out; omega
  go_enter Tryz.func67, Tryz.ntmps67
  go_wp2
  go_ret
  exact ⟨rfl, rfl⟩

theorem pw_two (q : Nat) : pw q = 2 ^ (32 * q) := by
  induction q with
  | zero => rfl
  | succ q ih => rw [pw_succ, ih, Nat.mul_add, Nat.pow_add, Nat.mul_comm]

theorem val_split (l : List Nat) (q : Nat) : val l = val (l.take q) + pw q * (at0 l q + 4294967296 * val (l.drop (q + 1))) := by
  by_cases h : q < l.length
  · have e : l = l.take q ++ l.drop q := (List.take_append_drop q l).symm
    have h1 : (l.take q).length = q := by rw [List.length_take]; omega
    have h2 : at0 l q = l[q] := by unfold at0; simp [h]
    rw [h2]
    conv => lhs; rw [e, val_append, h1, List.drop_eq_getElem_cons h]
    rfl
  · rw [at0_over (by omega), List.take_of_length_le (by omega), List.drop_eq_nil_of_le (by omega)]; simp [val]

theorem val_take_lt {l : List Nat} (h : Lim l) (q : Nat) : val (l.take q) < pw q := by
  have h1 := val_lt (l.take q) fun x hx => h x (List.mem_of_mem_take hx)
  exact Nat.lt_of_lt_of_le h1 (pw_le (by rw [List.length_take]; omega))

/-- A number's bit is one of a limb's. -/
theorem val_bit {l : List Nat} (h : Lim l) (q s : Nat) (hs : s < 32) : val l / 2 ^ (32 * q + s) % 2 = at0 l q / 2 ^ s % 2 := by
  have h1 := val_take_lt h q
  rw [val_split l q, Nat.pow_add, ← pw_two, ← Nat.div_div_eq_div_mul, Nat.add_mul_div_left _ _ (pw_pos q), Nat.div_eq_of_lt h1, Nat.zero_add]
  obtain ⟨t, ht⟩ : ∃ t, 32 = s + 1 + t := ⟨31 - s, by omega⟩
  have e : (4294967296 : Nat) = 2 ^ s * (2 * 2 ^ t) := by
    rw [show (4294967296 : Nat) = 2 ^ 32 from rfl, ht, Nat.pow_add, Nat.pow_succ, Nat.mul_assoc]
  rw [e, Nat.mul_assoc, Nat.add_mul_div_left _ _ (Nat.two_pow_pos s), Nat.mul_assoc, Nat.add_mul_mod_self_left]

/-- Bit i of a number. -/
def bt (A i : Nat) : Bool := decide (A / 2 ^ i % 2 = 1)

theorem rbit_any {w : World} {v : Value} {l : List Nat} (h : Rd w v l) (hl : l.length ≤ 1000000) (i : Nat) (hi : i ≤ 32000000) :
    Calls Tryz.prog 67 #[v, .int .i64 (i : Int)] w fun e w' => e = .returned (.bool (bt (val l) i)) ∧ w = w' := by
  obtain ⟨ad, n, cap, rfl, -⟩ := id h
  obtain ⟨hn, hcap, hx, hr⟩ := h.open
  have e := val_bit hx (i / 32) (i % 32) (Nat.mod_lt _ (by decide))
  rw [Nat.div_add_mod] at e
  by_cases hk : i / 32 < n
  · obtain ⟨b, o, rfl, hb, hcell⟩ := hr (by omega)
    unfold bt
    rw [e]
    exact rbit_in b o n cap i (i / 32) (i % 32) (at0 l (i / 32)) w (by omega) (Nat.mod_lt _ (by decide)) hk (by omega) (hcell _ hk)
  · have e2 : bt (val l) i = false := by
      unfold bt
      rw [e, at0_over (by omega), Nat.zero_div]; rfl
    rw [e2]
    exact rbit_out ad n cap i (i / 32) w rfl (by omega) (by omega)

theorem up_bit (A k : Nat) : A / 2 ^ k = 2 * (A / 2 ^ (k + 1)) + (if bt A k then 1 else 0) := by
  rw [Nat.pow_succ, ← Nat.div_div_eq_div_mul]
  unfold bt
  generalize A / 2 ^ k = m
  by_cases h : m % 2 = 1
  · simp [h]; omega
  · simp [h]; omega

theorem up_lt {A B k : Nat} (h : A / 2 ^ k < B / 2 ^ k) : A < B := by
  rcases Nat.lt_or_ge A B with h1 | h1
  · exact h1
  · exact absurd (Nat.div_le_div_right (c := 2 ^ k) h1) (by omega)

theorem told {A B : Nat} {t : Int} (h : tell A B = t) : Ending.returned (.int .i64 t) = .returned (.int .i64 (tell A B)) := by rw [h]

/-- In the loop of the document's Cmp. -/
def CmpAt (w : World) (A B n : Nat) (s : Value) (wr : World) : Prop := ∃ k : Nat, s = .int .i64 ((k : Int) - 1) ∧ k ≤ n ∧ A / 2 ^ k = B / 2 ^ k ∧ Below w.heap.size w wr

set_option maxRecDepth 100000 in
set_option maxHeartbeats 1000000 in
theorem rcmp_any {w : World} {va vb : Value} {a b : List Nat} (ra : Rd w va a) (rb : Rd w vb b) (la : a.length ≤ 10000) (lb : b.length ≤ 10000) :
    Calls Tryz.prog 42 #[va, vb] w fun e w' => e = .returned (.int .i64 (tell (val a) (val b))) ∧ Below w.heap.size w w' := by
  obtain ⟨ada, na, ca, rfl, -⟩ := id ra
  obtain ⟨adb, nb, cb, rfl, -⟩ := id rb
  obtain ⟨hna, -, hxa, -⟩ := ra.open
  obtain ⟨hnb, -, hxb, -⟩ := rb.open
  have la' : na ≤ 10000 := by omega
  have lb' : nb ≤ 10000 := by omega
  obtain ⟨M, hM1, hM2, hM3⟩ : ∃ M : Nat, na ≤ M ∧ nb ≤ M ∧ (M = na ∨ M = nb) := ⟨max na nb, by omega, by omega, by omega⟩
  have hst : val a / 2 ^ (32 * M) = val b / 2 ^ (32 * M) := by
    rw [← pw_two, Nat.div_eq_of_lt (val_small hxa (by omega)), Nat.div_eq_of_lt (val_small hxb (by omega))]
  have HST := Lib.hid hst; clear hst
  have HM := Lib.hid hM3
  have hM4 : M ≤ 10000 := by omega
  have o1 := fun (wr : World) (h : Below w.heap.size w wr) (i : Nat) (hi : i ≤ 32000000) => rbit_any (ra.below h) (by omega) i hi
  have o2 := fun (wr : World) (h : Below w.heap.size w wr) (i : Nat) (hi : i ≤ 32000000) => rbit_any (rb.below h) (by omega) i hi
  clear hM3
  obtain ⟨A, hA⟩ : ∃ A, A = val a := ⟨_, rfl⟩
  obtain ⟨B, hB⟩ : ∃ B, B = val b := ⟨_, rfl⟩
  rw [← hA, ← hB] at HST ⊢
  rw [← hA] at o1
  rw [← hB] at o2
  clear hA hB hna hnb hxa hxb la lb ra rb
  have O1 := Lib.hid o1; clear o1
  have O2 := Lib.hid o2; clear o2
  by_cases hlt : na < nb
  all_goals
    have hM6 : (if na < nb then nb else na) ≤ M := by split <;> omega
    have hM7 : M ≤ (if na < nb then nb else na) := by have := HM.out; split <;> omega
    first | rw [if_pos hlt] at hM6 hM7 | rw [if_neg hlt] at hM6 hM7
    have hM8 := Nat.le_antisymm hM7 hM6
    go_enter Tryz.func42, Tryz.ntmps42
    go_wp2
    go_loopw [6] (fun s wr => CmpAt w A B (32 * M) s wr) (fun s _ => (intOf s + 1).toNat)
    case atStart => exact ⟨32 * M, by go_num, Nat.le_refl _, HST.out, Below.refl _ _⟩
    case round =>
      obtain ⟨k0, rfl, hk, he, hbel⟩ := hrel
      have HE := Lib.hid he; clear he
      by_cases h0 : k0 = 0
      · subst h0
        have e : tell A B = 0 := by
          have := HE.out
          simp at this
          rw [this]; unfold tell; simp
        have E := Lib.hid e; clear e
        go_wp2
        go_ret
        exact ⟨told E.out, hbel⟩
      · obtain ⟨k, rfl⟩ : ∃ k, k0 = k + 1 := ⟨k0 - 1, by omega⟩
        clear h0
        have q1 := O1.out wr hbel k (by omega)
        have q2 := O2.out wr hbel k (by omega)
        have u1 := up_bit A k
        have u2 := up_bit B k
        rw [HE.out] at u1
        have e0 : ((k + 1 : Nat) : Int) - 1 = (k : Int) := by omega
        rw [e0]
        have Q1 := Lib.hid q1; clear q1
        have Q2 := Lib.hid q2; clear q2
        cases hba : bt A k <;> cases hbb : bt B k
        all_goals
          rw [hba] at Q1 u1
          rw [hbb] at Q2 u2
          have U1 := Lib.hid u1; clear u1
          have U2 := Lib.hid u2; clear u2
          clear hba hbb
        · go_wp2_with fail
          refine Q1.out.mono ?_
          rintro e w' ⟨rfl, rfl⟩
          go_wp2_with fail
          refine Q2.out.mono ?_
          rintro e w' ⟨rfl, rfl⟩
          go_wp2
          go_roundw
          case rel => exact ⟨k, by go_num, by omega, by rw [U1.out, U2.out], hbel⟩
          case measure => simp [intOf]
        · go_wp2_with fail
          refine Q1.out.mono ?_
          rintro e w' ⟨rfl, rfl⟩
          go_wp2_with fail
          refine Q2.out.mono ?_
          rintro e w' ⟨rfl, rfl⟩
          go_wp2_with fail
          refine Q1.out.mono ?_
          rintro e w' ⟨rfl, rfl⟩
          have e : tell A B = -1 := tell_lt (up_lt (k := k) (by rw [U1.out, U2.out]; simp))
          have E := Lib.hid e; clear e
          go_wp2
          go_ret
          exact ⟨told E.out, hbel⟩
        · go_wp2_with fail
          refine Q1.out.mono ?_
          rintro e w' ⟨rfl, rfl⟩
          go_wp2_with fail
          refine Q2.out.mono ?_
          rintro e w' ⟨rfl, rfl⟩
          go_wp2_with fail
          refine Q1.out.mono ?_
          rintro e w' ⟨rfl, rfl⟩
          have e : tell A B = 1 := by
            have : B < A := up_lt (k := k) (by rw [U1.out, U2.out]; simp)
            unfold tell
            rw [if_neg (by omega), if_pos this]
          have E := Lib.hid e; clear e
          go_wp2
          go_ret
          exact ⟨told E.out, hbel⟩
        · go_wp2_with fail
          refine Q1.out.mono ?_
          rintro e w' ⟨rfl, rfl⟩
          go_wp2_with fail
          refine Q2.out.mono ?_
          rintro e w' ⟨rfl, rfl⟩
          go_wp2
          go_roundw
          case rel => exact ⟨k, by go_num, by omega, by rw [U1.out, U2.out], hbel⟩
          case measure => simp [intOf]

end Go.Proofs.YtepacminjfeliaaGreatDoor

/-
  The document's answer: its Sub. No condition but the lists' lengths.
-/
namespace Go.Proofs.YtepacminjfeliaaGreatDoor
open Go.RowKit

/-- What the document's Sub answers of numbers worth A and B. -/
def OSubMade (w : World) (A B : Nat) (e : Ending) (w' : World) : Prop :=
  (B ≤ A ∧ ∃ ad n cap l, e = .returned (.tuple #[.slice ad n cap, .bool true]) ∧ Owns w' w.heap.size (.slice ad n cap) l ∧ Rd w' (.slice ad n cap) l ∧ Can l ∧ val l = A - B ∧ Below w.heap.size w w') ∨
  (A < B ∧ e = .returned (.tuple #[.slice none 0 0, .bool false]) ∧ Below w.heap.size w w')

theorem sm_over {l : List Nat} {n : Nat} (hv : val l < pw n) : sm (at0 l) n = val l := by
  rw [sm_take]
  have h := val_append (l.take n) (l.drop n)
  rw [List.take_append_drop] at h
  by_cases h0 : n < l.length
  · have h1 : (l.take n).length = n := by rw [List.length_take]; omega
    rw [h1] at h
    rcases Nat.eq_zero_or_pos (val (l.drop n)) with h2 | h2
    · rw [h, h2]; simp
    · have := Nat.mul_le_mul_left (pw n) h2
      omega
  · rw [List.take_of_length_le (by omega)]

theorem sub_parts (x y c : Nat) (hx : x < 4294967296) (hy : y < 4294967296) (hc : c ≤ 1) :
    ∃ o d : Nat, o = (x + 4294967296 - y - c) % 4294967296 ∧ bor x y c + d = 1 ∧ o < 4294967296 ∧ ((4294967296 : Int) + (x : Int) - (y : Int) - (c : Int)) % 4294967296 = (o : Int) ∧ ((4294967296 : Int) + (x : Int) - (y : Int) - (c : Int)) / 4294967296 = (d : Int) := by
  refine ⟨_, 1 - bor x y c, rfl, ?_, Nat.mod_lt _ (by decide), by omega, ?_⟩
  · have := bor_le x y c; omega
  · unfold bor; split <;> omega

/-- In the loop of the document's Sub. -/
def RSubAt (w : World) (a b : List Nat) (k : Nat) (v : Value) (c : Nat) (wr : World) : Prop :=
  ∃ l, Owns wr w.heap.size v l ∧ l.length = k ∧ Lim l ∧ c ≤ 1 ∧ InvSub a b k l c ∧ Below w.heap.size w wr

set_option maxRecDepth 100000 in
set_option maxHeartbeats 2000000 in
theorem rsub_any {w : World} {va vb : Value} {a b : List Nat} (ra : Rd w va a) (rb : Rd w vb b) (la : a.length ≤ 10000) (lb : b.length ≤ 10000) :
    Calls Tryz.prog 64 #[va, vb] w (OSubMade w (val a) (val b)) := by
  obtain ⟨ada, na, ca, rfl, -⟩ := id ra
  obtain ⟨adb, nb, cb, rfl, -⟩ := id rb
  obtain ⟨hna, -, hxa, -⟩ := ra.open
  obtain ⟨hnb, -, hxb, -⟩ := rb.open
  have la' : na ≤ 10000 := by omega
  have HA := Lib.hid hna; clear hna
  have HLB := Lib.hid lb; clear lb
  clear hnb
  by_cases hlt : val a < val b
  · have e1 := Lib.hid (tell_lt hlt)
    have HLT := Lib.hid hlt; clear hlt
    go_enter Tryz.func64, Tryz.ntmps64
    go_wp2_with fail
    refine (rcmp_any ra rb (by have := HA.out; omega) HLB.out).mono ?_
    rintro e w1 ⟨rfl, hbel⟩
    rw [e1.out]
    go_wp2
    go_ret2
    exact .inr ⟨HLT.out, rfl, hbel⟩
  · obtain ⟨v, hv, hv0⟩ : ∃ v, tell (val a) (val b) = v ∧ 0 ≤ v := ⟨_, rfl, by unfold tell; rw [if_neg hlt]; split <;> decide⟩
    have HLT := Lib.hid hlt; clear hlt
    go_enter Tryz.func64, Tryz.ntmps64
    go_wp2_with fail
    refine (rcmp_any ra rb (by have := HA.out; omega) HLB.out).mono ?_
    rintro e w1 ⟨rfl, hbel1⟩
    rw [hv]
    clear hv
    go_wp2
    go_loopw [6, 7, 8] (fun v c i wr => ∃ k cn : Nat, i = .int .i64 k ∧ c = .int .u64 cn ∧ k ≤ na ∧ RSubAt w a b k v cn wr) (fun _ _ i _ => na - (intOf i).toNat)
    case atStart => exact ⟨0, 0, rfl, rfl, by omega, [], Owns.nil _ _, rfl, fun x hx => by simp at hx, by decide, ⟨by simp [val, sm], by decide⟩, hbel1⟩
    case round =>
      obtain ⟨k, cn, rfl, rfl, hk, hat⟩ := hrel
      obtain ⟨l, hown, hlen, hlim, hc1, hinv, hbel⟩ := hat
      have HL := Lib.hid hlen; clear hlen
      have HI := Lib.hid hinv; clear hinv
      by_cases hkm : k < na
      · have x1 := at0_lt hxa k
        have y1 := at0_lt hxb k
        have o1 := rlimb_any (ra.below hbel) k
        have o2 := rlimb_any (rb.below hbel) k
        have hstep := (HI.out).step hxa hxb HL.out
        obtain ⟨x, hx⟩ : ∃ x, x = at0 a k := ⟨_, rfl⟩
        obtain ⟨y, hy⟩ : ∃ x, x = at0 b k := ⟨_, rfl⟩
        rw [← hx, ← hy] at hstep
        rw [← hx] at x1 o1
        rw [← hy] at y1 o2
        have O1 := Lib.hid o1; clear o1
        have O2 := Lib.hid o2; clear o2
        clear hx hy
        obtain ⟨o, d, ho, hd, ho2, e1, e2⟩ := sub_parts x y cn x1 y1 hc1
        rw [← ho] at hstep
        obtain ⟨c', hc'⟩ : ∃ c', c' = bor x y cn := ⟨_, rfl⟩
        rw [← hc'] at hstep hd
        clear ho hc'
        have hc2 : c' ≤ 1 := by omega
        have HST := Lib.hid hstep; clear hstep
        have HOWN := Lib.hid (hown.alloc (.cells #[.int .u32 (o : Int)] 75)); clear hown
        have hsz := hbel.size
        go_wp2_with fail
        refine O1.out.mono ?_
        rintro e w' ⟨rfl, rfl⟩
        go_wp2_with fail
        refine O2.out.mono ?_
        rintro e w' ⟨rfl, rfl⟩
        go_wp2_with (at_builtin; refine wpList_push _ rfl _ _ rfl w.heap.size _ l rfl HOWN.out wr.heap.size o rfl (one_cell _ _ _) (by have := HL.out; omega) (by simp; omega) ?_)
        intro v' w' hown' hb'
        have hbel' := hb' w.heap.size w (Nat.le_refl _) (hbel.alloc hsz _) (by omega)
        clear hb'
        go_wp2
        go_roundw
        case rel => exact ⟨k + 1, c', by go_num, by go_num, by omega, _, hown', by rw [List.length_append, HL.out]; rfl, lim_snoc hlim ho2, hc2, HST.out, hbel'⟩
        case measure => simp [intOf]; omega
      · obtain rfl : k = na := by omega
        obtain ⟨ad1, n1, cap1, e1, hr1⟩ := hown.rd hlim
        subst e1
        go_wp2_with fail
        refine (rnorm_any hr1 (by have := HL.out; omega)).mono ?_
        rintro e w3 ⟨ad, k', cap, l', rfl, hown', hr', hcan, hv', hb3⟩
        have HOW := Lib.hid (hown'.mono hbel.size); clear hown'
        have hval : val b ≤ val a ∧ val l' = val a - val b := by
          have hle : val b ≤ val a := by have := HLT.out; omega
          obtain ⟨hi, hc⟩ := HI.out
          have v1 := val_lt a hxa
          have v2 := val_lt l hlim
          rw [← HA.out] at v1
          rw [HL.out] at v2
          rw [sm_over v1, sm_over (by omega : val b < pw k)] at hi
          rcases (by omega : cn = 0 ∨ cn = 1) with rfl | rfl <;> omega
        have HV := Lib.hid hval; clear hv' hval
        go_wp2
        go_ret2
        exact .inl ⟨HV.out.1, ad, k', cap, l', rfl, HOW.out, hr', hcan, HV.out.2, onto hbel hb3⟩

end Go.Proofs.YtepacminjfeliaaGreatDoor

/-
  The document's answer: its times and Mul. No condition but the lists' lengths.
-/
namespace Go.Proofs.YtepacminjfeliaaGreatDoor
open Go.RowKit

/-- What times has written so far. -/
def InvTimes (a : List Nat) (m p k : Nat) (l : List Nat) (c : Nat) : Prop := val l + pw (p + k) * c = pw p * (m * sm (at0 a) k)

theorem InvTimes.step {a : List Nat} {m p k : Nat} {l : List Nat} {c : Nat} (h : InvTimes a m p k l c) (hl : l.length = p + k) {S : Nat} (hS : S = at0 a k * m + c) :
    InvTimes a m p (k + 1) (l ++ [S % 4294967296]) (S / 4294967296) := by
  unfold InvTimes at h ⊢
  have e : pw (p + k) * (S % 4294967296) + pw (p + (k + 1)) * (S / 4294967296) = pw (p + k) * S := by
    rw [← Nat.add_assoc, pw_succ, Nat.mul_comm 4294967296 (pw (p + k)), Nat.mul_assoc, ← Nat.mul_add, Nat.mod_add_div]
  rw [val_snoc, hl, Nat.add_assoc, e, hS, Nat.mul_add, Nat.add_comm (pw (p + k) * _), ← Nat.add_assoc, h]
  simp only [sm]
  rw [pw_add, Nat.mul_add, Nat.mul_add, Nat.mul_comm (at0 a k) m, Nat.mul_assoc (pw p), Nat.mul_left_comm (pw k) m]

theorem times_wide (x m c : Nat) (hx : x < 4294967296) (hm : m < 4294967296) (hc : c < 4294967296) :
    ∃ S o c' : Nat, S = x * m + c ∧ o = S % 4294967296 ∧ c' = S / 4294967296 ∧ o < 4294967296 ∧ c' < 4294967296 ∧ IntKind.u64.wrap (IntKind.u64.wrap ((x : Int) * (m : Int)) + (c : Int)) = (S : Int) ∧ S < 18446744073709551616 ∧ (S : Int) % 4294967296 = (o : Int) ∧ (S : Int) / 4294967296 = (c' : Int) := by
  have h := mul_lt x m hx hm
  refine ⟨x * m + c, (x * m + c) % 4294967296, (x * m + c) / 4294967296, rfl, rfl, rfl, Nat.mod_lt _ (by decide), ?_, ?_, ?_, ?_, ?_⟩
  · generalize x * m = t at h; omega
  · rw [wide1 x m hx hm, wide2 _ c h hc]
  · generalize x * m = t at h; omega
  · rfl
  · rfl

/-- In times' loop. -/
def TimesAt (w : World) (a : List Nat) (m p k : Nat) (v : Value) (c : Nat) (wr : World) : Prop :=
  ∃ l, Owns wr w.heap.size v l ∧ l.length = p + k ∧ Lim l ∧ c < 4294967296 ∧ InvTimes a m p k l c ∧ Below w.heap.size w wr

theorem made_owns {w1 : World} {base n : Nat} {v : Value} (h : w1.ownsRow base 75 1 v n (madeCells #[Value.int .u32 0] n).toList) : Owns w1 base v (List.replicate n 0) := by
  unfold Owns
  have e := toList_madeCells_one (.int .u32 0) n
  rw [List.length_replicate, List.map_replicate]
  rw [e] at h
  exact h

theorem val_zeros (n : Nat) : val (List.replicate n 0) = 0 := by
  induction n with
  | zero => rfl
  | succ n ih => rw [List.replicate_succ]; simp [val, ih]

theorem lim_zeros (n : Nat) : Lim (List.replicate n 0) := fun x hx => by
  rw [List.eq_of_mem_replicate hx]; decide

set_option maxRecDepth 100000 in
set_option maxHeartbeats 2000000 in
theorem rtimes_any {w : World} {va : Value} {a : List Nat} (ra : Rd w va a) (la : a.length ≤ 10000) (m p : Nat) (hm : m < 4294967296) (hp : p ≤ 10000) :
    Calls Tryz.prog 68 #[va, .int .u64 (m : Int), .int .i64 (p : Int)] w fun e w' => ∃ ad n cap l, e = .returned (.slice ad n cap) ∧ Rd w' (.slice ad n cap) l ∧ l.length ≤ p + a.length + 1 ∧ val l = pw p * (val a * m) ∧ Below w.heap.size w w' := by
  obtain ⟨i0, hi, hz0, hz1, hz2⟩ := info_parts Tryz.info36
  obtain ⟨ada, na, ca, rfl, -⟩ := id ra
  obtain ⟨hna, -, hxa, -⟩ := ra.open
  have la' : na ≤ 10000 := by omega
  have HA := Lib.hid hna; clear hna
  clear la
  go_enter Tryz.func68, Tryz.ntmps68
  go_wp2_with (at_make; refine wpList_make_full _ rfl _ _ 38 rfl w.heap.size 75 i0 (.int .u32 0) 1 Tryz.underlying38 hi hz0 hz1 _ _ _ _ p rfl rfl (by omega) (by omega) (by rw [hz2]; omega) (by unfold maxLen; omega) (Nat.le_refl _) ?_)
  intro w1 hown hgrow
  have hown2 := made_owns hown
  have hbel1 : Below w.heap.size w w1 := (Below.refl _ _).grown hgrow (Nat.le_refl _) (by simp)
  clear hown hgrow
  go_wp2
  go_loopw [7, 8, 9] (fun v c i wr => ∃ k cn : Nat, i = .int .i64 k ∧ c = .int .u64 cn ∧ k ≤ na + 1 ∧ TimesAt w a m p k v cn wr) (fun _ _ i _ => na + 1 - (intOf i).toNat)
  case atStart => exact ⟨0, 0, rfl, rfl, by omega, _, hown2, by simp, lim_zeros p, by decide, by simp [InvTimes, val_zeros, sm], hbel1⟩
  case round =>
    obtain ⟨k, cn, rfl, rfl, hk, hat⟩ := hrel
    obtain ⟨l, hown, hlen, hlim, hc1, hinv, hbel⟩ := hat
    have HL := Lib.hid hlen; clear hlen
    have HI := Lib.hid hinv; clear hinv
    clear hown2
    by_cases hkm : k ≤ na
    · have x1 := at0_lt hxa k
      have o1 := rlimb_any (ra.below hbel) k
      obtain ⟨x, hx⟩ : ∃ x, x = at0 a k := ⟨_, rfl⟩
      rw [← hx] at x1 o1
      have O1 := Lib.hid o1; clear o1
      obtain ⟨S, o, c', hS, ho, hc', ho2, hc2, e1, hS2, e2, e3⟩ := times_wide x m cn x1 hm hc1
      rw [hx] at hS
      have hstep := (HI.out).step HL.out hS
      rw [← ho, ← hc'] at hstep
      clear hS ho hc' hx
      have HST := Lib.hid hstep; clear hstep
      have HOWN := Lib.hid (hown.alloc (.cells #[.int .u32 (o : Int)] 75)); clear hown
      have hsz := hbel.size
      go_wp2_with fail
      refine O1.out.mono ?_
      rintro e w' ⟨rfl, rfl⟩
      go_wp2_with (at_builtin; refine wpList_push _ rfl _ _ rfl w.heap.size _ l rfl HOWN.out wr.heap.size o rfl (one_cell _ _ _) (by have := HL.out; omega) (by simp; omega) ?_)
      intro v' w' hown' hb'
      have hbel' := hb' w.heap.size w (Nat.le_refl _) (hbel.alloc hsz _) (by omega)
      clear hb'
      go_wp2
      go_roundw
      case rel => exact ⟨k + 1, c', by go_num, by first | rfl | (rw [e3]), by omega, _, hown', by rw [List.length_append, HL.out]; rfl, lim_snoc hlim ho2, hc2, HST.out, hbel'⟩
      case measure => simp [intOf]; omega
    · obtain rfl : k = na + 1 := by omega
      obtain ⟨ad1, n1, cap1, e1, hr1⟩ := hown.rd hlim
      subst e1
      clear hown
      have hval : val l = pw p * (val a * m) := by
        have hi := HI.out
        unfold InvTimes at hi
        rw [sm_all a (by have := HA.out; omega)] at hi
        have v1 := val_lt a hxa
        rw [← HA.out] at v1
        rcases Nat.eq_zero_or_pos cn with rfl | h
        · rw [Nat.mul_zero, Nat.add_zero] at hi; rw [hi, Nat.mul_comm m]
        · exfalso
          have h1 := Nat.mul_le_mul_left (pw (p + (na + 1))) h
          have h2 : val a * m < pw na * 4294967296 := Nat.mul_lt_mul'' v1 hm
          have h3 := Nat.mul_lt_mul_of_pos_left h2 (pw_pos p)
          rw [pw_add, pw_succ] at h1
          rw [Nat.mul_comm m, pw_add, pw_succ] at hi
          rw [Nat.mul_comm (pw na)] at h3
          omega
      have HV := Lib.hid hval; clear hval
      go_wp2
      go_ret
      exact ⟨ad1, n1, cap1, l, rfl, hr1, by have := HL.out; have := HA.out; omega, HV.out, hbel⟩

/-- In the loop of the document's Mul. -/
def RMulAt (w : World) (a b : List Nat) (k : Nat) (v : Value) (wr : World) : Prop :=
  ∃ ad n cap l, v = .slice ad n cap ∧ Rd wr (.slice ad n cap) l ∧ Can l ∧ val l = val a * sm (at0 b) k ∧ Below w.heap.size w wr

theorem sm_le_val (l : List Nat) (k : Nat) : sm (at0 l) k ≤ val l := by
  rw [sm_take]
  have h := val_append (l.take k) (l.drop k)
  rw [List.take_append_drop] at h
  omega

theorem mul_len {a b l : List Nat} (ha : Lim a) (hb : Lim b) (hl : Can l) {k : Nat} (hv : val l = val a * sm (at0 b) k) : l.length ≤ a.length + b.length := by
  refine hl.len ?_
  rw [hv, pw_add]
  exact Nat.mul_lt_mul'' (val_lt a ha) (Nat.lt_of_le_of_lt (sm_le_val b k) (val_lt b hb))

set_option maxRecDepth 100000 in
set_option maxHeartbeats 2000000 in
theorem rmul_any {w : World} {va vb : Value} {a b : List Nat} (ra : Rd w va a) (rb : Rd w vb b) (la : a.length ≤ 1000) (lb : b.length ≤ 1000) :
    Calls Tryz.prog 45 #[va, vb] w (OMade w (val a * val b)) := by
  obtain ⟨ada, na, ca, rfl, -⟩ := id ra
  obtain ⟨adb, nb, cb, rfl, -⟩ := id rb
  obtain ⟨hna, -, hxa, -⟩ := ra.open
  obtain ⟨hnb, hcb, hxb, hcell⟩ := rb.open
  have la' : na ≤ 1000 := by omega
  have lb' : nb ≤ 1000 := by omega
  have HA := Lib.hid hna; clear hna
  have HB := Lib.hid hnb; clear hnb
  have HC := Lib.hid hcell; clear hcell
  have HLA := Lib.hid la; clear la
  clear lb
  go_enter Tryz.func45, Tryz.ntmps45
  go_wp2
  go_loopw [5, 6] (fun v i wr => ∃ k : Nat, i = .int .i64 k ∧ k ≤ nb ∧ RMulAt w a b k v wr) (fun _ i _ => nb - (intOf i).toNat)
  case atStart => exact ⟨0, rfl, by omega, _, _, _, [], rfl, rd_void _ _ _, Can.nil, by simp [val, sm], Below.refl _ _⟩
  case round =>
    obtain ⟨k, rfl, hk, hat⟩ := hrel
    obtain ⟨ad, n, cap, l, rfl, hr, hcan, hval, hbel⟩ := hat
    have hlen := mul_len hxa hxb hcan hval
    have HLN := Lib.hid hlen; clear hlen
    have HV := Lib.hid hval; clear hval
    by_cases hkm : k < nb
    · obtain ⟨b1, o1, rfl, hb1, hc1⟩ := HC.out (by omega)
      have hd1 : wr.cell? ⟨b1, o1 + k, none⟩ = some (.int .u32 (at0 b k : Int)) := (hbel.cell (p := ⟨b1, o1 + k, none⟩) hb1).trans (hc1 k hkm)
      clear hc1
      have x1 := at0_lt hxb k
      have ot := fun (x : Nat) (hx : x < 4294967296) => rtimes_any (ra.below hbel) (by have := HLA.out; omega) x k hx (by omega)
      obtain ⟨x, hx⟩ : ∃ x, x = at0 b k := ⟨_, rfl⟩
      rw [← hx] at hd1 x1
      have O1 := Lib.hid (ot x x1); clear ot
      have HX := Lib.hid hx; clear hx
      go_wp2_with fail
      refine O1.out.mono ?_
      rintro e w2 ⟨adt, nt, ct, lt, rfl, rt, llt, vt, hb2⟩
      have LT := Lib.hid llt; clear llt
      have VT := Lib.hid vt; clear vt
      have hr2 := hr.below hb2
      have hbel2 := onto hbel hb2
      clear hd1
      go_wp2_with fail
      refine (radd_any hr2 rt (by have := HLN.out; have := HA.out; have := HB.out; omega) (by have := LT.out; have := HA.out; omega)).mono ?_
      rintro e w3 ⟨ads, ns, cs, ls, rfl, -, rs, ks, vs, hb3⟩
      have hbel3 := onto hbel2 hb3
      have hvs : val ls = val a * sm (at0 b) (k + 1) := by
        rw [vs, HV.out, VT.out, HX.out]
        simp only [sm]
        rw [Nat.mul_add, Nat.mul_left_comm]
      have HVS := Lib.hid hvs; clear hvs vs
      go_wp2
      go_roundw
      case rel => exact ⟨k + 1, by go_num, by omega, ads, ns, cs, ls, rfl, rs, ks, HVS.out, hbel3⟩
      case measure => simp [intOf]; omega
    · obtain rfl : k = nb := by omega
      go_wp2_with fail
      refine (rnorm_any hr (by have := HLN.out; have := HA.out; have := HB.out; omega)).mono ?_
      rintro e w3 ⟨ad, k', cap, l', rfl, hown', hr', hcan, hv', hb3⟩
      have HOW := Lib.hid (hown'.mono hbel.size); clear hown'
      have hval : val l' = val a * val b := by rw [hv', HV.out, sm_all b (by have := HB.out; omega)]
      have HVV := Lib.hid hval; clear hv' hval
      go_wp2
      go_ret
      exact ⟨ad, k', cap, l', rfl, HOW.out, hr', hcan, HVV.out, onto hbel hb3⟩

end Go.Proofs.YtepacminjfeliaaGreatDoor

/-
  The document's Parse. The text has 1000000 bytes at most.
-/
namespace Go.Proofs.YtepacminjfeliaaGreatDoor
open Go.RowKit

theorem bel_alloc {w W : World} (h : Below w.heap.size w W) (o : Obj) : Below w.heap.size w (W.alloc o) := h.alloc h.size o

theorem bel_drew {B : Nat} {w W : World} (h : Below B w W) : Below B w W.drew := h.drew

theorem one_under (w : World) (v : Value) (t : TypeId) (o : Obj) : ((w.alloc (.cells #[v] t)).alloc o).cell? ⟨w.heap.size, 0, none⟩ = some v := by
  rw [((Below.refl (w.heap.size + 1) (w.alloc (.cells #[v] t))).alloc (by simp) o).cell (by simp)]
  exact one_cell w v t

theorem one_over (w : World) (v : Value) (t : TypeId) (o : Obj) : ((w.alloc o).alloc (.cells #[v] t)).cell? ⟨w.heap.size + 1, 0, none⟩ = some v := by
  have h := one_cell (w.alloc o) v t
  rwa [World.size_alloc] at h

theorem val_ten : val [(10 : Int).toNat] = 10 := by decide

theorem wrap_u8 (x : Int) (h0 : 0 ≤ x) (h1 : x < 256) : IntKind.u8.wrap x = x := by
  simp [IntKind.wrap, IntKind.signed, IntKind.bits]; omega

theorem wrap_u32 (x : Int) (h0 : 0 ≤ x) (h1 : x < 4294967296) : IntKind.u32.wrap x = x := by
  simp [IntKind.wrap, IntKind.signed, IntKind.bits]; omega

/-- A literal of one number, wherever it lies. -/
theorem rd_one {w : World} {b : Nat} {y : Int} (hc : w.cell? ⟨b, 0, none⟩ = some (.int .u32 y)) (h0 : 0 ≤ y) (h1 : y < 4294967296) (hb : b < w.heap.size) : Rd w (.slice (some ⟨b, 0, none⟩) 1 1) [y.toNat] := by
  refine ⟨some ⟨b, 0, none⟩, 1, 1, rfl, rfl, Nat.le_refl _, fun z hz => by simp at hz; omega, fun _ => ⟨b, 0, rfl, hb, fun i z hz => ?_⟩⟩
  match i, hz with
  | 0, hz =>
    have : z = y.toNat := by simpa using hz.symm
    subst this
    rw [hc, Int.toNat_of_nonneg h0]
  | i + 1, hz => simp at hz

set_option maxRecDepth 100000 in
set_option maxHeartbeats 4000000 in
theorem rparse_any (s : ByteArray) (w : World) (hs : s.size ≤ 1000000) : Calls Tryz.prog 31 #[.string s] w (Parsed w (by0 s)) := by
  have hlen := by0_len s
  by_cases hD : Dec (by0 s)
  · have hr := rright_any s w hs
    rw [decide_eq_true hD] at hr
    have HR := Lib.hid hr; clear hr
    by_cases h19 : 1900 < s.size
    · go_enter Tryz.func31, Tryz.ntmps31
      go_wp2_with fail
      refine HR.out.mono ?_
      rintro e w1 ⟨rfl, hb⟩
      go_wp2
      go_ret2
      exact ⟨hb, .inr (.inl ⟨hD, by omega, rfl⟩)⟩
    · go_enter Tryz.func31, Tryz.ntmps31
      go_wp2_with fail
      refine HR.out.mono ?_
      rintro e w1 ⟨rfl, hb⟩
      clear HR
      go_wp2
      go_loopw [4, 5] (fun v i wr => ∃ (pos : Nat) (ad : Option Addr) (n cap : Nat) (l : List Nat), v = .slice ad n cap ∧ i = .int .i64 pos ∧ pos ≤ s.size ∧ Rd wr (.slice ad n cap) l ∧ l.length ≤ 202 ∧ val l = num ((by0 s).take pos) ∧ Below w1.heap.size w1 wr) (fun _ i _ => s.size - (intOf i).toNat)
      case atStart => exact ⟨0, none, 0, 0, [], rfl, rfl, by omega, Rd.nil _, by simp, rfl, Below.refl _ _⟩
      case round =>
        obtain ⟨pos, ad, n, cap, l, rfl, rfl, hle, hrd, hll, hval, hbel⟩ := hrel
        by_cases hp : pos < s.size
        · have hb := by0_at s pos hp
          have hdig := hD.1 _ (List.mem_of_getElem? hb)
          have hnum := num_take hb
          obtain ⟨x, hx⟩ : ∃ x, x = (s[pos]'hp).toNat := ⟨_, rfl⟩
          have hdg : dg (s[pos]'hp) = x - 48 := by rw [hx]; rfl
          rw [← hx] at hdig
          rw [hdg] at hnum
          have HN := Lib.hid hnum; clear hnum hdg hb
          have HL := Lib.hid hll
          have HV := Lib.hid hval; clear hval
          go_wp2
          have hd2 : Hid (Digs ((by0 s).take (pos + 1))) := Lib.hid fun b hb => hD.1 b (List.mem_of_mem_take hb)
          have hl2 : ((by0 s).take (pos + 1)).length ≤ 1900 := by rw [List.length_take]; omega
          have hz : (48 : Int) ≤ x ∧ (x : Int) ≤ 57 := by omega
          obtain ⟨d, hd⟩ : ∃ d, d = x - 48 := ⟨_, rfl⟩
          have eW : IntKind.u32.wrap (IntKind.u8.wrap (((s[pos]'hp).toNat : Int) - 48)) = (d : Int) := by rw [← hx, hd, wrap_u8 _ (by omega) (by omega), wrap_u32 _ (by omega) (by omega)]; omega
          have d9 : d ≤ 9 := by omega
          rw [← hd] at HN
          clear hdig hx hd
          go_region_with (first
            | (go_at_call 45
               refine (rmul_any (a := l) (b := [(10 : Int).toNat]) ?_ ?_ ?_ ?_).mono ?_
               · first | exact hrd.below (bel_drew (bel_alloc (Below.refl _ _) _)) | exact hrd.below (bel_drew (bel_alloc (bel_alloc (Below.refl _ _) _) _))
               · refine rd_one ?_ (by decide) (by decide) ?_ <;> first | exact one_cell _ _ _ | exact one_under _ _ _ _ | exact one_over _ _ _ _ | (simp; done) | (simp; omega)
               · have := HL.out; omega
               · simp
               rintro e w3 ⟨ad3, n3, cap3, l3, rfl, -, r3, k3, v3, hb3⟩
               have q3 : l3.length ≤ 200 := few_limbs hd2.out hl2 k3 (by rw [v3, HN.out, HV.out, val_ten]; omega)
               have HB3 := Lib.hid hb3
               have HV3 := Lib.hid v3
               have HW3 : Hid (Below w1.heap.size w1 w3) := by
                 first
                   | exact onto (onto hbel (bel_drew (bel_alloc (Below.refl _ _) _))) hb3
                   | exact onto (onto hbel (bel_drew (bel_alloc (bel_alloc (Below.refl _ _) _) _))) hb3
               clear v3 hb3)
            | (go_at_call 57
               refine (radd_any (a := l3) (b := [(d : Int).toNat]) ?_ ?_ ?_ ?_).mono ?_
               · first | exact r3 | exact r3.below (alb _ _)
               · first
                   | (refine rd_one ?_ ?_ ?_ ?_ <;> first | exact one_cell _ _ _ | exact one_under _ _ _ _ | exact one_over _ _ _ _ | (simp; done) | omega | (simp; omega))
                   | (refine (rd_one ?_ ?_ ?_ ?_).below HB3.out <;> first | exact one_cell _ _ _ | exact one_under _ _ _ _ | exact one_over _ _ _ _ | (simp; done) | omega | (simp; omega))
               · omega
               · simp
               rintro e w5 ⟨ad5, n5, cap5, l5, rfl, -, r5, k5, v5, hb5⟩
               have HV5 := Lib.hid v5
               have HW5 : Hid (Below w1.heap.size w1 w5) := by first | exact onto HW3.out hb5 | exact onto HW3.out (past hb5)
               clear v5 hb5))
          all_goals
            have hv5 : val l5 = num ((by0 s).take (pos + 1)) := by
              rw [HV5.out, HV3.out, HN.out, HV.out, val_ten, val1, Int.toNat_natCast]; omega
            have q5 : l5.length ≤ 202 := by have := few_limbs hd2.out hl2 k5 (by rw [hv5]; exact Nat.le_refl _); omega
            have HVV := Lib.hid hv5
            clear hv5
            go_wp2
            go_roundw
            case rel => exact ⟨pos + 1, ad5, n5, cap5, l5, rfl, by go_num, by omega, r5, q5, HVV.out, HW5.out⟩
            case measure => simp [intOf]; omega
        · obtain rfl : pos = s.size := by omega
          rw [List.take_of_length_le (by rw [by0_len]; exact Nat.le_refl _)] at hval
          have HV := Lib.hid hval
          clear hval
          go_wp2_with fail
          refine (rnorm_any hrd (by omega)).mono ?_
          rintro e w3 ⟨ad3, n3, cap3, l3, rfl, -, r3, k3, v3, hb3⟩
          have HV3 := Lib.hid (v3.trans HV.out)
          clear v3
          go_wp2
          go_ret2
          exact ⟨onto hb (onto hbel hb3), .inr (.inr ⟨hD, by omega, ad3, n3, cap3, l3, rfl, r3, k3, HV3.out⟩)⟩
  · have hr := rright_any s w hs
    rw [decide_eq_false hD] at hr
    go_enter Tryz.func31, Tryz.ntmps31
    go_wp2_with fail
    refine hr.mono ?_
    rintro e w1 ⟨rfl, hb⟩
    go_wp2
    go_ret2
    exact ⟨hb, .inl ⟨hD, rfl⟩⟩

end Go.Proofs.YtepacminjfeliaaGreatDoor

/-
  The document's answer: a number divided by ten, and the digit that is left. The number has 10000 limbs at most.
-/
namespace Go.Proofs.YtepacminjfeliaaGreatDoor
open Go.RowKit

theorem tenth_step {a Q : List Nat} {k r : Nat} (hQ : Q.length = a.length) (hk : k < a.length) (h : 10 * val (Q.drop (k + 1)) + r = val (a.drop (k + 1))) :
    10 * val ((Q.set k ((r * 4294967296 + at0 a k) / 10)).drop k) + (r * 4294967296 + at0 a k) % 10 = val (a.drop k) := by
  have e1 : a.drop k = at0 a k :: a.drop (k + 1) := by
    rw [List.drop_eq_getElem_cons hk]
    congr 1
    unfold at0; rw [List.getD_eq_getElem?_getD, List.getElem?_eq_getElem hk]; rfl
  have e2 : (Q.set k ((r * 4294967296 + at0 a k) / 10)).drop k = ((r * 4294967296 + at0 a k) / 10) :: Q.drop (k + 1) := by
    rw [List.drop_eq_getElem_cons (by rw [List.length_set]; omega), List.getElem_set_self, List.drop_set_of_lt (by omega)]
  rw [e1, e2, val, val, ← h]
  omega

/-- In the loop of tenth: the limbs from k on are done. -/
def TenAt (w : World) (g : Nat) (a : List Nat) (k r : Nat) (wr : World) : Prop :=
  ∃ Q, Blk wr g Q ∧ Q.length = a.length ∧ Lim Q ∧ r < 10 ∧ 10 * val (Q.drop k) + r = val (a.drop k) ∧ Below w.heap.size w wr

/-- What tenth answers. -/
def Tenthed (w : World) (N : Nat) (e : Ending) (w' : World) : Prop :=
  ∃ ad n cap l, e = .returned (.tuple #[.slice ad n cap, .int .u8 ((48 + N % 10 : Nat) : Int)]) ∧ Owns w' w.heap.size (.slice ad n cap) l ∧ Rd w' (.slice ad n cap) l ∧ Can l ∧ val l = N / 10 ∧ Below w.heap.size w w'

theorem lim_put {l : List Nat} (h : Lim l) {k x : Nat} (hx : x < 4294967296) : Lim (l.set k x) := fun y hy => by
  rcases List.mem_or_eq_of_mem_set hy with h1 | h1
  · exact h y h1
  · omega

set_option maxRecDepth 100000 in
set_option maxHeartbeats 4000000 in
theorem tenth_any {w : World} {va : Value} {a : List Nat} (ra : Rd w va a) (la : a.length ≤ 10000) : Calls Tryz.prog 84 #[va] w (Tenthed w (val a)) := by
  obtain ⟨i0, hi, hz0, hz1, hz2⟩ := info_parts Tryz.info36
  obtain ⟨ada, na, ca, rfl, -⟩ := id ra
  obtain ⟨hna, -, hxa, -⟩ := ra.open
  have la' : na ≤ 10000 := by omega
  have HA := Lib.hid hna; clear hna
  have HRA := Lib.hid ra; clear ra
  go_enter Tryz.func84, Tryz.ntmps84
  go_wp2_with (at_make; refine wpList_make_full _ rfl _ _ 38 rfl w.heap.size 75 i0 (.int .u32 0) 1 Tryz.underlying38 hi hz0 hz1 _ _ _ _ na rfl rfl (by omega) (by omega) (by rw [hz2]; omega) (by unfold maxLen; omega) (Nat.le_refl _) ?_)
  intro w1 hown hgrow
  have H0 : TenAt w w.heap.size a na 0 w1 := by
    refine ⟨_, made_row hown, by rw [List.length_replicate, ← HA.out], ?_, by omega, ?_, grown_below hgrow (World.grownBy.refl _ _) (Nat.le_refl _)⟩
    · intro x hx; rw [List.eq_of_mem_replicate hx]; decide
    · rw [List.drop_of_length_le (by simp), List.drop_of_length_le (by rw [← HA.out]; exact Nat.le_refl _)]
      rfl
  clear hown hgrow
  go_wp2_with fail
  go_loopw [5, 6] (fun r i wr => ∃ k x : Nat, r = .int .u64 x ∧ i = .int .i64 ((k : Int) - 1) ∧ k ≤ na ∧ TenAt w w.heap.size a k x wr) (fun _ i _ => (intOf i + 1).toNat)
  case atStart => exact ⟨na, 0, rfl, by go_num, Nat.le_refl _, H0⟩
  case round =>
    obtain ⟨k0, x, rfl, rfl, hk, hat⟩ := hrel
    obtain ⟨Q, hblk, hQl, hQ, hx, hv, hbel⟩ := hat
    clear H0
    by_cases h0 : k0 = 0
    · subst h0
      have hr : Rd wr (.slice (some ⟨w.heap.size, 0, none⟩) na na) Q := hblk.rd hQ (by rw [hQl, ← HA.out]) (Nat.le_refl _)
      have hvv : val Q = val a / 10 ∧ x = val a % 10 := by rw [List.drop_zero, List.drop_zero] at hv; omega
      have HV := Lib.hid hvv
      clear hv hvv hblk
      go_wp2_with fail
      refine (rnorm_any hr (by rw [hQl, ← HA.out]; omega)).mono ?_
      rintro e w3 ⟨ad3, n3, cap3, l3, rfl, o3, r3, k3, v3, hb3⟩
      have O3 := Lib.hid (o3.mono hbel.size)
      have V3 := Lib.hid (v3.trans HV.out.1)
      have eX : 48 + (x : Int) = ((48 + val a % 10 : Nat) : Int) := by rw [HV.out.2]; omega
      have EX := Lib.hid eX
      clear v3 eX o3
      go_wp2
      go_ret2
      exact ⟨ad3, n3, cap3, l3, by rw [← EX.out]; rfl, O3.out, r3, k3, V3.out, onto hbel hb3⟩
    · obtain ⟨k, rfl⟩ : ∃ k, k0 = k + 1 := ⟨k0 - 1, by omega⟩
      clear h0
      have e0 : ((k + 1 : Nat) : Int) - 1 = (k : Int) := by omega
      rw [e0]
      have hstep := tenth_step hQl (by rw [← HA.out]; omega) hv
      have x1 := at0_lt hxa k
      obtain ⟨b, o, e, hb, hcell⟩ := (HRA.out.below hbel).open.2.2.2 (by omega)
      subst e
      have hc := hcell k (by omega)
      obtain ⟨y, hy⟩ : ∃ y, y = at0 a k := ⟨_, rfl⟩
      rw [← hy] at hstep x1 hc
      obtain ⟨R, hR⟩ : ∃ R, R = x * 4294967296 + y := ⟨_, rfl⟩
      obtain ⟨q, hq⟩ : ∃ q, q = R / 10 := ⟨_, rfl⟩
      obtain ⟨m, hm⟩ : ∃ m, m = R % 10 := ⟨_, rfl⟩
      rw [← hR, ← hq, ← hm] at hstep
      have e1 : (x : Int) * 4294967296 + (y : Int) = (R : Int) := by omega
      have e2 : (R : Int) / 10 = (q : Int) := by omega
      have e3 : (R : Int).tdiv 10 = (q : Int) := by rw [Int.tdiv_eq_ediv_of_nonneg (by omega)]; omega
      have e4 : (R : Int) % 10 = (m : Int) := by omega
      have e5 : (R : Int).tmod 10 = (m : Int) := by rw [Int.tmod_eq_emod_of_nonneg (by omega)]; omega
      have q1 : q < 4294967296 := by omega
      have m1 : m < 10 := by omega
      have R1 : R < 18446744073709551616 := by omega
      have hcl : wr.cell? ⟨w.heap.size, k, none⟩ = some (.int .u32 (at0 Q k : Int)) := hblk.cell (by
        unfold at0; rw [List.getD_eq_getElem?_getD, List.getElem?_eq_getElem (by rw [hQl, ← HA.out]; omega)]; rfl)
      have hfr := hblk.free k
      have HST := Lib.hid hstep
      have HQ4 := Lib.hid (hblk.set k q)
      have HB4 := Lib.hid (hbel.setCell (p := ⟨w.heap.size, k, none⟩) (Nat.le_refl _) (.int .u32 (q : Int)))
      have HQL : Hid ((Q.set k q).length = a.length) := Lib.hid (by rw [List.length_set, hQl])
      clear hstep hv hblk hbel hy hR hq hm hQl
      go_wp2
      go_roundw
      case rel => exact ⟨k, m, rfl, rfl, by omega, _, HQ4.out, HQL.out, lim_put hQ q1, m1, HST.out, HB4.out⟩
      case measure => simp [intOf]

end Go.Proofs.YtepacminjfeliaaGreatDoor
