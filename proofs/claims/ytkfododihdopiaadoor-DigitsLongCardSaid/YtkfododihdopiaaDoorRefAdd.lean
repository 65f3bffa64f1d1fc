/-
  The document's answer: its Add: the sum of two lists, in short.
-/
import Derived.Test.YtkfododihdopiaaDoorRefNorm
namespace Go.Proofs.YtkfododihdopiaaDoor
open Go.RowKit

/-- append of one limb onto a row of the call's own. -/
theorem wpList_push {ops : Array Oper} {rest : List Oper} {o : Oper} {a : Act} {Q : Exit → Act → World → Prop} (w : World) (hgd : o.guard = none) (s x : Operand)
    (ho : o.op = .call { callee := .builtin .append, args := #[s, x], argTypes := #[22, 22] }) (base : Nat) (v : Value) (l : List Nat) (hs : a.eval s = v) (hown : Owns w base v l) (g : Nat) (k : Nat)
    (hx : a.eval x = .slice (some ⟨g, 0, none⟩) 1 1) (hc : w.cell? ⟨g, 0, none⟩ = some (.int .u32 (k : Int))) (hl : l.length ≤ 1000000) (hb : base ≤ w.heap.size)
    (h : ∀ v' w', Owns w' base v' (l ++ [k]) → (∀ B w0, B ≤ base → Below B w0 w → B ≤ w.heap.size → Below B w0 w') → wpList Tryd.prog ops Q rest (a.put o.dst v') w') : wpList Tryd.prog ops Q (o :: rest) a w := by
  obtain ⟨i0, hi, hz0, hz1, hz2⟩ := info_parts Tryd.info36
  refine wpList_append_own w hgd s x 22 ho base 35 i0 (.int .u32 0) 1 4 Tryd.underlying22 hi hz0 hz1 hz2 rfl (by decide) v l.length _ hs hown ⟨g, 0, none⟩ 1 1 [.int .u32 (k : Int)] hx rfl ?_ ?_ (by unfold maxLen; omega) (by omega) hb ?_
  · intro j u hj
    match j, hj with
    | 0, hj => simp at hj; subst hj; simpa [Addr.add] using hc
  · intro u hu; simp at hu; subst hu; rfl
  · intro v' w' hown' hgrow _
    refine h v' w' (Owns.push rfl rfl hown') fun B w0 hB hbel hB2 => hbel.grown hgrow hB2 fun j hj => ?_
    exact Nat.le_trans hB (World.ownsRow.lt hown j hj).1

theorem Owns.alloc {w : World} {base : Nat} {v : Value} {l : List Nat} (h : Owns w base v l) (o : Obj) : Owns (w.alloc o) base v l := World.ownsRow.alloc h o

theorem one_cell (w : World) (v : Value) (t : TypeId) : (w.alloc (.cells #[v] t)).cell? ⟨w.heap.size, 0, none⟩ = some v := by
  have h := heap_alloc_new w (.cells #[v] t)
  unfold World.cell?
  rw [h]; rfl

theorem alloc_le {n : Nat} {wr : World} {o : Obj} (h : n ≤ wr.heap.size) : n ≤ (wr.alloc o).heap.size := by simp; omega

theorem lim_snoc {l : List Nat} {x : Nat} (h : Lim l) (hx : x < 4294967296) : Lim (l ++ [x]) := by
  intro y hy
  rcases List.mem_append.1 hy with h1 | h1
  · exact h y h1
  · simp at h1; omega

/-- In the loop of the document's Add. -/
def RAddAt (w : World) (a b : List Nat) (k : Nat) (v : Value) (c : Nat) (wr : World) : Prop :=
  ∃ l, Owns wr w.heap.size v l ∧ l.length = k ∧ Lim l ∧ c ≤ 1 ∧ InvAdd a b k l c ∧ Below w.heap.size w wr

set_option maxHeartbeats 2000000 in
theorem radd_any {w : World} {va vb : Value} {a b : List Nat} (ra : Rd w va a) (rb : Rd w vb b) (la : a.length ≤ 10000) (lb : b.length ≤ 10000) :
    Calls Tryd.prog 20 #[va, vb] w (OMade w (val a + val b)) := by
  obtain ⟨ada, na, ca, rfl, -⟩ := id ra
  obtain ⟨adb, nb, cb, rfl, -⟩ := id rb
  obtain ⟨hna, -, hxa, -⟩ := ra.open
  obtain ⟨hnb, -, hxb, -⟩ := rb.open
  have la' : na ≤ 10000 := by omega
  have lb' : nb ≤ 10000 := by omega
  have HA := Lib.hid hna; clear hna
  have HB := Lib.hid hnb; clear hnb
  obtain ⟨M, hM1, hM2, hM3⟩ : ∃ M : Nat, na ≤ M ∧ nb ≤ M ∧ (M = na ∨ M = nb) := ⟨max na nb, by omega, by omega, by omega⟩
  have HM := Lib.hid hM3
  have hM4 : M ≤ 10001 := by omega
  clear hM3
  by_cases hlt : na < nb
  all_goals
    have hM6 : (if na < nb then nb else na) ≤ M := by split <;> omega
    have hM7 : M ≤ (if na < nb then nb else na) := by have := HM.out; split <;> omega
    first | rw [if_pos hlt] at hM6 hM7 | rw [if_neg hlt] at hM6 hM7
    go_enter Tryd.func20, Tryd.ntmps20
    go_wp2
    go_loopw [5, 6, 7] (fun v c i wr => ∃ k cn : Nat, i = .int .i64 k ∧ c = .int .u64 cn ∧ k ≤ M + 1 ∧ RAddAt w a b k v cn wr) (fun _ _ i _ => M + 1 - (intOf i).toNat)
    case atStart => exact ⟨0, 0, rfl, rfl, by omega, [], Owns.nil _ _, rfl, fun x hx => by simp at hx, by decide, by simp [InvAdd, val, sm], Below.refl _ _⟩
    case round =>
      obtain ⟨k, cn, rfl, rfl, hk, hat⟩ := hrel
      obtain ⟨l, hown, hlen, hlim, hc1, hinv, hbel⟩ := hat
      have HL := Lib.hid hlen; clear hlen
      have HI := Lib.hid hinv; clear hinv
      by_cases hkm : k ≤ M
      · have x1 := at0_lt hxa k
        have y1 := at0_lt hxb k
        have o1 := rlimb_any (ra.below hbel) k
        have o2 := rlimb_any (rb.below hbel) k
        obtain ⟨x, hx⟩ : ∃ x, x = at0 a k := ⟨_, rfl⟩
        obtain ⟨y, hy⟩ : ∃ x, x = at0 b k := ⟨_, rfl⟩
        rw [← hx] at x1 o1
        rw [← hy] at y1 o2
        have O1 := Lib.hid o1; clear o1
        have O2 := Lib.hid o2; clear o2
        have HX := Lib.hid hx; clear hx
        have HY := Lib.hid hy; clear hy
        obtain ⟨o, ho⟩ : ∃ o, o = (x + y + cn) % 4294967296 := ⟨_, rfl⟩
        obtain ⟨c', hc'⟩ : ∃ c', c' = (x + y + cn) / 4294967296 := ⟨_, rfl⟩
        have e1 : ((x : Int) + (y : Int) + (cn : Int)) % 4294967296 = (o : Int) := by omega
        have e2 : ((x : Int) + (y : Int) + (cn : Int)) / 4294967296 = (c' : Int) := by omega
        have ho2 : o < 4294967296 := by omega
        have hc2 : c' ≤ 1 := by omega
        have hstep := (HI.out).step HL.out
        rw [← HX.out, ← HY.out, ← ho, ← hc'] at hstep
        have HST := Lib.hid hstep; clear hstep
        have HO := Lib.hid ho; clear ho
        have HC := Lib.hid hc'; clear hc'
        have HOWN := Lib.hid (hown.alloc (.cells #[.int .u32 (o : Int)] 35)); clear hown
        have hsz := hbel.size
        go_wp2_with fail
        refine O1.out.mono ?_
        rintro e w' ⟨rfl, rfl⟩
        go_wp2_with fail
        refine O2.out.mono ?_
        rintro e w' ⟨rfl, rfl⟩
        go_wp2_with (at_builtin; refine wpList_push _ rfl _ _ rfl w.heap.size _ l rfl HOWN.out wr.heap.size o rfl (one_cell _ _ _) (by have := HL.out; omega) (by simp; omega) ?_)
        intro v' w' hown' hb'
        have hbel' := hb' w.heap.size w (Nat.le_refl _) (hbel.alloc hsz _) (by omega)
        clear hb'
        go_wp2
        go_roundw
        case rel => exact ⟨k + 1, c', by go_num, by first | rfl | rw [e2], by omega, _, hown', by rw [List.length_append, HL.out]; rfl, lim_snoc hlim ho2, hc2, HST.out, hbel'⟩
        case measure => simp [intOf]; omega
      · obtain rfl : k = M + 1 := by omega
        obtain ⟨ad1, n1, cap1, e1, hr1⟩ := hown.rd hlim
        subst e1
        go_wp2_with fail
        refine (rnorm_any hr1 (by have := HL.out; omega)).mono ?_
        rintro e w3 ⟨ad, k', cap, l', rfl, hown', hr', hcan, hv', hb3⟩
        have HOW := Lib.hid (hown'.mono hbel.size); clear hown'
        have hval : val l = val a + val b := by
          have hi := HI.out
          unfold InvAdd at hi
          rw [sm_all a (by have := HA.out; omega), sm_all b (by have := HB.out; omega)] at hi
          have v1 := val_lt a hxa
          have v2 := val_lt b hxb
          have q1 := pw_le (show a.length ≤ M by have := HA.out; omega)
          have q2 := pw_le (show b.length ≤ M by have := HB.out; omega)
          have p := pw_pos M
          rcases (by omega : cn = 0 ∨ cn = 1) with rfl | rfl
          · omega
          · rw [pw_succ] at hi; omega
        have HV := Lib.hid (hv'.trans hval); clear hv' hval
        go_wp2
        go_ret
        exact ⟨ad, k', cap, l', rfl, HOW.out, hr', hcan, HV.out, onto hbel hb3⟩

end Go.Proofs.YtkfododihdopiaaDoor
