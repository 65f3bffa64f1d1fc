/-
  The program's nines: a number's digits, nine in each, the lowest first. The number has 200 limbs at most.
-/
import Derived.Test.YtkfododihdopiaaDoorRefText
import Derived.Test.YtkfododihdopiaaDoorDivNew
namespace Go.Proofs.YtkfododihdopiaaDoor
open Go.RowKit

set_option maxHeartbeats 400000 in
theorem dlimb_any {w : World} {v : Value} {l : List Nat} (h : Rd w v l) : Calls Tryd.prog 39 #[v] w fun e w' => e = .returned (.int .u32 (at0 l 0 : Int)) ∧ w = w' := by
  obtain ⟨ad, n, cap, rfl, -⟩ := id h
  obtain ⟨hn, hcap, hx, hr⟩ := h.open
  by_cases h0 : n = 0
  · subst h0
    have e : at0 l 0 = 0 := by rw [List.eq_nil_of_length_eq_zero hn.symm]; rfl
    rw [e]
    clear hr hx hn
    go_enter Tryd.func39, Tryd.ntmps39
    go_wp2
    go_ret
    exact ⟨rfl, rfl⟩
  · obtain ⟨b, o, rfl, hb, hcell⟩ := hr (by omega)
    have hc := hcell 0 (by omega)
    rw [Nat.add_zero] at hc
    have hz : ((n : Int) == 0) = false := by simp; omega
    have h1 : 0 < n := by omega
    clear hcell hr
    go_enter Tryd.func39, Tryd.ntmps39
    go_wp2
    go_ret
    exact ⟨rfl, rfl⟩

theorem Owns.below {w w' : World} {base : Nat} {v : Value} {l : List Nat} (h : Owns w base v l) (hb : Below w.heap.size w w') : Owns w' base v l := by
  obtain ⟨h1, h2⟩ := h
  refine ⟨h1, h2.imp id fun ⟨g, cap, cur, hv, hg, hh, r⟩ => ⟨g, cap, cur, hv, hg, ?_, r⟩⟩
  exact below_heap hb hh

theorem Rd.grownOver {w w' : World} {b o n cap : Nat} {l : List Nat} {r : Option Nat} (h : Rd w (.slice (some ⟨b, o, none⟩) n cap) l) (hg : w.grownBy w' r) (hr : ∀ j, r = some j → j < b) : Rd w' (.slice (some ⟨b, o, none⟩) n cap) l := by
  obtain ⟨ad, n', cap', e, hn, hcap, hlim, hc⟩ := h
  simp only [Value.slice.injEq] at e
  obtain ⟨rfl, rfl, rfl⟩ := e
  refine ⟨_, n, cap, rfl, hn, hcap, hlim, fun h0 => ?_⟩
  obtain ⟨b', o', e, hb, hcell⟩ := hc h0
  obtain ⟨rfl, rfl⟩ : b = b' ∧ o = o' := by simpa using e
  refine ⟨b, o, rfl, Nat.lt_of_lt_of_le hb hg.size, fun i x hi => ?_⟩
  rw [World.cell?_of_block (a := ⟨b, o + i, none⟩) (hg.block b hb fun e => by have := hr b e.symm; omega)]
  exact hcell i x hi

/-- append of one limb onto a row of the call's own, with what else is kept. -/
theorem wpList_pushG {ops : Array Oper} {rest : List Oper} {o : Oper} {a : Act} {Q : Exit → Act → World → Prop} (w : World) (hgd : o.guard = none) (s x : Operand)
    (ho : o.op = .call { callee := .builtin .append, args := #[s, x], argTypes := #[22, 22] }) (base : Nat) (v : Value) (l : List Nat) (hs : a.eval s = v) (hown : Owns w base v l) (g : Nat) (k : Nat)
    (hx : a.eval x = .slice (some ⟨g, 0, none⟩) 1 1) (hc : w.cell? ⟨g, 0, none⟩ = some (.int .u32 (k : Int))) (hl : l.length ≤ 1000000) (hb : base ≤ w.heap.size)
    (h : ∀ v' w', Owns w' base v' (l ++ [k]) → w.grownBy w' v.ownBlock → (∀ B w0, B ≤ base → Below B w0 w → B ≤ w.heap.size → Below B w0 w') → wpList Tryd.prog ops Q rest (a.put o.dst v') w') : wpList Tryd.prog ops Q (o :: rest) a w := by
  obtain ⟨i0, hi, hz0, hz1, hz2⟩ := info_parts Tryd.info36
  refine wpList_append_own w hgd s x 22 ho base 35 i0 (.int .u32 0) 1 4 Tryd.underlying22 hi hz0 hz1 hz2 rfl (by decide) v l.length _ hs hown ⟨g, 0, none⟩ 1 1 [.int .u32 (k : Int)] hx rfl ?_ ?_ (by unfold maxLen; omega) (by omega) hb ?_
  · intro j u hj
    match j, hj with
    | 0, hj => simp at hj; subst hj; simpa [Addr.add] using hc
  · intro u hu; simp at hu; subst hu; rfl
  · intro v' w' hown' hgrow _
    refine h v' w' (Owns.push rfl rfl hown') hgrow fun B w0 hB hbel hB2 => hbel.grown hgrow hB2 fun j hj => ?_
    exact Nat.le_trans hB (World.ownsRow.lt hown j hj).1

/-- In the loop of nines: m tells how much is left. -/
def NineAt (w : World) (N K : Nat) (m : Nat) (u v : Value) (wr : World) : Prop :=
  ∃ ad n cap X ns, v = .slice ad n cap ∧ Rd wr (.slice ad n cap) X ∧ X.length ≤ 200 ∧ (ns ≠ [] → Can X) ∧ m = 2 * val X + min 1 X.length ∧ Owns wr w.heap.size u ns ∧ (∀ x ∈ ns, x < 1000000000) ∧ N = bil ns + 1000000000 ^ ns.length * val X ∧ 9 * ns.length < K + 9 ∧ Below w.heap.size w wr

/-- What nines answers. -/
def Nined (w : World) (N K : Nat) (e : Ending) (w' : World) : Prop :=
  ∃ ad n cap ns, e = .returned (.slice ad n cap) ∧ Rd w' (.slice ad n cap) ns ∧ (∀ x ∈ ns, x < 1000000000) ∧ bil ns = N ∧ 9 * ns.length < K + 9 ∧ Below w.heap.size w w'

theorem at0_val {l : List Nat} (h : l.length ≤ 1) : at0 l 0 = val l := by
  match l, h with
  | [], _ => rfl
  | [x], _ => simp [at0, val]

set_option maxRecDepth 100000 in
set_option maxHeartbeats 4000000 in
theorem nines_any {w : World} {va : Value} {a : List Nat} (ra : Rd w va a) (la : a.length ≤ 200) {K : Nat} (hK : val a < 10 ^ K) (hK0 : 1 ≤ K) (hK1 : K ≤ 100000) : Calls Tryd.prog 26 #[va] w (Nined w (val a) K) := by
  obtain ⟨ada, na, ca, rfl, -⟩ := id ra
  have HK := Lib.hid hK
  clear hK
  go_enter Tryd.func26, Tryd.ntmps26
  go_wp2_with fail
  refine (of_any 1000000000 w (by decide) (by decide)).mono ?_
  rintro e w1 ⟨ad1, n1, cap1, l1, rfl, r1, k1, v1, hb1⟩
  have V1 := Lib.hid v1
  have q1 : l1.length ≤ 1 := k1.len (by rw [v1]; decide)
  have hat : NineAt w1 (val a) K (2 * val a + min 1 a.length) (.slice none 0 0) (.slice ada na ca) w1 :=
    ⟨ada, na, ca, a, [], rfl, ra.below hb1, la, fun h => absurd rfl h, rfl, Owns.nil _ _, fun x hx => by simp at hx, by simp [bil], by simp, Below.refl _ _⟩
  have HAT := Lib.hid hat
  clear hat ra v1
  go_wp2_with fail
  go_loopg [3, 5] (2 * val a + min 1 a.length) (fun m u v wr => NineAt w1 (val a) K m u v wr)
  case atStart => exact HAT.out
  case round =>
    clear HAT
    obtain ⟨ad, n, cap, X, ns, rfl, rX, hXl, hcan, hm, hO, hsm, hN, h9, hbel⟩ := hrel
    have hn := rX.open.1
    have HNN := Lib.hid hn
    by_cases h0 : n = 0
    · subst h0
      obtain ⟨adu, nu, cu, e, hr⟩ := hO.rd (fun x hx => by have := hsm x hx; omega)
      subst e
      have hX : val X = 0 := by rw [List.eq_nil_of_length_eq_zero hn.symm]; rfl
      rw [hX, Nat.mul_zero, Nat.add_zero] at hN
      have HN := Lib.hid hN
      clear hN hcan hm hO rX hn hX
      go_wp2
      go_ret
      exact ⟨adu, nu, cu, ns, rfl, hr, hsm, HN.out.symm, h9, onto hb1 hbel⟩
    · have hz2 : ((n : Int) == 0) = false := by simp; omega
      have hp2 : (0 : Int) < n := by omega
      have hstep := bil_step hN
      have hcount : 9 * (ns ++ [val X % 1000000000]).length < K + 9 := by
        rw [List.length_append, List.length_singleton]
        by_cases hns : ns = []
        · subst hns; simp; omega
        · have := bil_count hN (can_pos (hcan hns) (k := n - 1) (by omega)) HK.out
          omega
      have HST := Lib.hid hstep
      have HCT := Lib.hid hcount
      have HM := Lib.hid hm
      have h9' : ns.length ≤ 100000 := by omega
      clear hcan hN hstep hcount hm h9 hn
      have rb := r1.below hbel
      go_wp2_with fail
      refine (div_new rX rb (by omega) (by omega)).mono ?_
      rintro e w3 (h | ⟨g3, n3, cap3, l3, ad4, n4, cap4, l4, hg3, rfl, r3, k3, v3, r4, k4, v4, hb3⟩)
      · rw [V1.out] at h
        exact absurd h (by decide)
      rw [V1.out] at v3 v4
      have hv4 : val l4 = val X % 1000000000 := v4
      have hv3 : val l3 = val X / 1000000000 := v3
      have q4 : l4.length ≤ 1 := k4.len (by rw [hv4]; exact Nat.lt_of_lt_of_le (Nat.mod_lt _ (by decide)) (by decide))
      have q3 : l3.length ≤ 200 := by
        refine k3.len (Nat.lt_of_le_of_lt ?_ (val_small rX.lim hXl))
        rw [hv3]; exact Nat.div_le_self _ _
      have hlim4 := dlimb_any r4
      rw [at0_val q4, hv4] at hlim4
      have HL4 := Lib.hid hlim4
      have hu := fun j hj => (World.ownsRow.lt hO j hj).2
      have HU := Lib.hid hu
      have V3 := Lib.hid hv3
      have hO3 := hO.below hb3
      have hbel3 := onto hbel hb3
      have hsz := hbel3.size
      obtain ⟨d, hd⟩ : ∃ d, d = val X % 1000000000 := ⟨_, rfl⟩
      rw [← hd] at HL4 HST HCT
      have hd9 : d < 1000000000 := by rw [hd]; exact Nat.mod_lt _ (by decide)
      have HO4 := Lib.hid (hO3.alloc (.cells #[.int .u32 (d : Int)] 35))
      clear v3 v4 hv3 hv4 hb3 hO hbel hO3 hu hlim4 rX rb hd r4
      go_wp2_with fail
      refine HL4.out.mono ?_
      rintro e w' ⟨rfl, rfl⟩
      go_wp2_with (at_builtin; refine wpList_pushG _ rfl _ _ rfl w1.heap.size _ ns rfl HO4.out w3.heap.size d rfl (one_cell _ _ _) (by omega) (by simp; omega) ?_)
      intro v' w4 hO5 hg5 hb4
      have hbel4 := hb4 w1.heap.size w1 (Nat.le_refl _) (hbel3.alloc hsz _) (by first | omega | (simp; omega))
      have r5 := (r3.below (alb _ (.cells #[.int .u32 (d : Int)] 35))).grownOver hg5 (fun j hj => Nat.lt_of_lt_of_le (HU.out j hj) hg3)
      clear hb4 hg5 r3
      go_wp2
      go_roundg (2 * val l3 + min 1 l3.length)
      case rel => exact (show NineAt w1 (val a) K (2 * val l3 + min 1 l3.length) _ _ _ from ⟨some ⟨g3, 0, none⟩, n3, cap3, l3, _, rfl, r5, q3, fun _ => k3, rfl, hO5, fun x hx => by
        rcases List.mem_append.1 hx with h | h
        · exact hsm x h
        · simp at h; omega, by rw [V3.out]; exact HST.out, HCT.out, hbel4⟩)
      case measure =>
        have h1 := HM.out
        have h2 := V3.out
        have h3 := HNN.out
        have h4 : l3.length = 0 ∨ 0 < val l3 := by
          by_cases h : l3.length = 0
          · exact .inl h
          · exact .inr (can_pos k3 (k := l3.length - 1) (by omega))
        by_cases hv : val X = 0
        · have : l3.length = 0 := by rcases h4 with h4 | h4 <;> omega
          omega
        · omega

end Go.Proofs.YtkfododihdopiaaDoor
