/-
  The document's answer: its limb, Norm and Of. No condition but the lists' lengths.
-/
import Derived.Test.YtkfododihdopiaaDoorRow
namespace Go.Proofs.YtkfododihdopiaaDoor
open Go.RowKit

set_option maxHeartbeats 400000 in
theorem rlimb_in (b o n cap k : Nat) (x : Nat) (w : World) (hk : k < n) (hx : x < 4294967296) (hc : w.cell? ⟨b, o + k, none⟩ = some (.int .u32 (x : Int))) :
    Calls Tryd.prog 31 #[.slice (some ⟨b, o, none⟩) n cap, .int .i64 (k : Int)] w fun e w' => e = .returned (.int .u64 (x : Int)) ∧ w = w' := by
  go_enter Tryd.func31, Tryd.ntmps31
  go_wp2
  go_ret
  exact ⟨rfl, rfl⟩

set_option maxHeartbeats 400000 in
theorem rlimb_out (ad : Option Addr) (n cap k : Nat) (w : World) (hk : n ≤ k) :
    Calls Tryd.prog 31 #[.slice ad n cap, .int .i64 (k : Int)] w fun e w' => e = .returned (.int .u64 0) ∧ w = w' := by
  go_enter Tryd.func31, Tryd.ntmps31
  go_wp2
  go_ret
  exact ⟨rfl, rfl⟩

theorem rlimb_any {w : World} {v : Value} {l : List Nat} (h : Rd w v l) (k : Nat) :
    Calls Tryd.prog 31 #[v, .int .i64 (k : Int)] w fun e w' => e = .returned (.int .u64 (at0 l k : Int)) ∧ w = w' := by
  obtain ⟨ad, n, cap, rfl, -⟩ := id h
  obtain ⟨hn, hcap, hx, hr⟩ := h.open
  by_cases hk : k < n
  · obtain ⟨b, o, rfl, hb, hcell⟩ := hr (by omega)
    exact rlimb_in b o n cap k _ w hk (at0_lt hx k) (hcell k hk)
  · rw [at0_over (by omega)]
    exact rlimb_out ad n cap k w (by omega)

theorem rd_void (w : World) (ad : Option Addr) (cap : Nat) : Rd w (.slice ad 0 cap) [] := ⟨ad, 0, cap, rfl, rfl, Nat.zero_le _, by simp, by simp⟩

/-- A row of the call's own that reads as l. -/
def Owns (w : World) (base : Nat) (v : Value) (l : List Nat) : Prop := w.ownsRow base 35 1 v l.length (l.map fun (x : Nat) => Value.int .u32 (x : Int))

theorem Owns.rd {w : World} {base : Nat} {v : Value} {l : List Nat} (h : Owns w base v l) (hl : Lim l) : ∃ ad n cap, v = .slice ad n cap ∧ Rd w (.slice ad n cap) l := by
  obtain ⟨ad, cap, e, r⟩ := own_rd h hl
  exact ⟨ad, l.length, cap, e, r⟩

theorem Owns.nil (w : World) (base : Nat) : Owns w base (.slice none 0 0) [] := World.ownsRow_nil _ _ _ _

theorem Owns.push {w : World} {base n : Nat} {v : Value} {l : List Nat} {o : Int} {k : Nat} (ho : o = (k : Int)) (hn : n = l.length) (h : w.ownsRow base 35 1 v (n + 1) ((l.map fun (x : Nat) => Value.int .u32 (x : Int)) ++ [.int .u32 o])) : Owns w base v (l ++ [k]) := by
  subst ho hn
  unfold Owns
  rw [List.map_append, List.length_append]
  exact h

theorem Owns.mono {w : World} {base base' : Nat} {v : Value} {l : List Nat} (h : Owns w base v l) (hb : base' ≤ base) : Owns w base' v l :=
  ⟨h.1, h.2.imp id fun ⟨g, cap, cur, hv, hg, r⟩ => ⟨g, cap, cur, hv, Nat.le_trans hb hg, r⟩⟩

/-- What a call answers that makes a number in memory of its own: a list in short, worth N. -/
def OMade (w : World) (N : Nat) (e : Ending) (w' : World) : Prop :=
  ∃ ad n cap l, e = .returned (.slice ad n cap) ∧ Owns w' w.heap.size (.slice ad n cap) l ∧ Rd w' (.slice ad n cap) l ∧ Can l ∧ val l = N ∧ Below w.heap.size w w'

theorem OMade.made {w : World} {N : Nat} {e : Ending} {w' : World} (h : OMade w N e w') : Made w N e w' := by
  obtain ⟨ad, n, cap, l, h1, _, h2, h3, h4, h5⟩ := h
  exact ⟨ad, n, cap, l, h1, h2, h3, h4, h5⟩

theorem owns_void (w : World) (base : Nat) (h : base ≤ w.heap.size) : Owns (w.alloc (.cells #[] 35)) base (.slice (some ⟨w.heap.size, 0, none⟩) 0 0) [] :=
  World.ownsRow_lit w #[] 0 h (by decide) rfl

/-- The loop of the document's Norm: where the limbs 0 at the end begin. -/
def Cut (l : List Nat) (n k : Nat) : Prop := k ≤ n ∧ (∀ j, k ≤ j → j < n → at0 l j = 0) ∧ (0 < k → at0 l (k - 1) ≠ 0)

set_option maxHeartbeats 2000000 in
theorem rnorm_some (b o n cap : Nat) (l : List Nat) (w : World) (hr : Rd w (.slice (some ⟨b, o, none⟩) n cap) l) (hn1 : n ≤ 1000000) (h0 : 0 < n) :
    Calls Tryd.prog 18 #[.slice (some ⟨b, o, none⟩) n cap] w (OMade w (val l)) := by
  obtain ⟨i0, hi, hz0, hz1, hz2⟩ := info_parts Tryd.info36
  obtain ⟨hn, hcap, hlim, hcell⟩ := hr.open
  obtain ⟨b', o', e, hb, hc⟩ := hcell h0
  simp only [Option.some.injEq, Addr.mk.injEq, and_true] at e
  obtain ⟨rfl, rfl⟩ := e
  have HN := Lib.hid hn; clear hn
  have HL := Lib.hid hlim; clear hlim
  clear hcell
  go_enter Tryd.func18, Tryd.ntmps18
  go_wp2
  go_loop [3] (fun s => ∃ k : Nat, s = .int .i64 k ∧ k ≤ n ∧ ∀ j, k ≤ j → j < n → at0 l j = 0) (fun s => (intOf s).toNat)
  case atStart => exact ⟨n, rfl, Nat.le_refl _, fun j h1 h2 => absurd h1 (by omega)⟩
  case round =>
    obtain ⟨k, rfl, hk, hz⟩ := hrel
    have HZ := Lib.hid hz; clear hz
    have HC := Lib.hid hc; clear hc
    have fin : ∀ (k : Nat), k ≤ n → (∀ j, k ≤ j → j < n → at0 l j = 0) → (0 < k → at0 l (k - 1) ≠ 0) → Rd w (.slice (some ⟨b, o, none⟩) k cap) (l.take k) ∧ Can (l.take k) ∧ val (l.take k) = val l ∧ (l.take k).length = k := by
      intro k hk hz h1
      obtain ⟨c1, c2, c3⟩ := cut_can HN.out HL.out hk hz h1
      refine ⟨⟨_, k, cap, rfl, c3.symm, by omega, c1.1, fun hp => ⟨b, o, rfl, hb, fun i x hi => ?_⟩⟩, c1, c2, c3⟩
      have hik : i < k := by
        have := (List.getElem?_eq_some_iff.1 hi).1
        omega
      rw [List.getElem?_take_of_lt hik] at hi
      have := HC.out i (by omega)
      unfold at0 at this
      rwa [List.getD_eq_getElem?_getD, hi] at this
    have FIN := Lib.hid fin; clear fin
    by_cases hk0 : 0 < k
    · obtain ⟨k', rfl⟩ : ∃ k', k = k' + 1 := ⟨k - 1, by omega⟩
      have hcell := HC.out k' (by omega)
      obtain ⟨x, hx⟩ : ∃ x : Nat, x = at0 l k' := ⟨_, rfl⟩
      rw [← hx] at hcell
      have HX := Lib.hid hx; clear hx
      by_cases hx0 : x = 0
      · subst hx0
        go_wp2
        go_round
        case rel =>
          refine ⟨k', by go_num, by omega, fun j h1 h2 => ?_⟩
          by_cases e : j = k'
          · subst e; exact HX.out.symm
          · exact HZ.out j (by omega) h2
        case measure => simp [intOf]
      · have hx1 : ((x : Int) == 0) = false := by simp; omega
        have hfin := FIN.out (k' + 1) hk HZ.out (fun _ => by show at0 l (k' + 1 - 1) ≠ 0; rw [Nat.add_sub_cancel, ← HX.out]; exact hx0)
        obtain ⟨l', hl'⟩ : ∃ l', l' = l.take (k' + 1) := ⟨_, rfl⟩
        rw [← hl'] at hfin
        obtain ⟨f1, f2, f3, f4⟩ := hfin
        clear hl'
        have F1 := Lib.hid f1; clear f1
        have F3 := Lib.hid f3; clear f3
        have F4 := Lib.hid f4; clear f4
        go_wp2_with (at_builtin; refine wpList_append_own _ rfl _ _ 22 rfl w.heap.size 35 i0 (.int .u32 0) 1 4 Tryd.underlying22 hi hz0 hz1 hz2 rfl (by decide) _ _ _ rfl (World.ownsRow_lit w #[] 0 (Nat.le_refl _) (by decide) rfl) ⟨b, o, none⟩ (k' + 1) cap (l'.map fun (x : Nat) => Value.int .u32 (x : Int)) rfl (by simp [F4.out]) ?c1 ?c2 ?c3 ?c4 (by simp) ?_)
        case c1 =>
          intro j u hu
          obtain ⟨_, _, _, e, _, _, _, hcl⟩ := F1.out
          simp only [Value.slice.injEq] at e
          obtain ⟨rfl, rfl, rfl⟩ := e
          obtain ⟨b2, o2, e, _, hcl⟩ := hcl (by omega)
          simp only [Option.some.injEq, Addr.mk.injEq, and_true] at e
          obtain ⟨rfl, rfl⟩ := e
          exact hcl j u hu
        case c2 => intro u hu; rfl
        case c3 => unfold maxLen; omega
        case c4 => omega
        intro v' w1 hown hgrow _
        have hown2 : Owns w1 w.heap.size v' l' := by
          unfold Owns
          rw [F4.out]
          simpa using hown
        obtain ⟨ad1, n1, cap1, rfl, hr1⟩ := hown2.rd f2.1
        clear hown
        have HOW := Lib.hid hown2; clear hown2
        go_wp2
        go_ret
        exact ⟨_, _, _, _, rfl, HOW.out, hr1, f2, F3.out, ((alb w _)).grown hgrow (by simp) (by simp [Value.ownBlock])⟩
    · obtain rfl : k = 0 := by omega
      obtain ⟨f1, f2, f3, f4⟩ := FIN.out 0 hk HZ.out (fun h => absurd h (by omega))
      have F3 := Lib.hid f3; clear f3
      clear f1 f2 f4
      go_wp2
      go_ret
      exact ⟨_, _, _, [], rfl, owns_void _ _ (Nat.le_refl _), rd_void _ _ _, Can.nil, by rw [← F3.out]; rfl, alb w _⟩

set_option maxHeartbeats 1000000 in
theorem rnorm_none (ad : Option Addr) (cap : Nat) (w : World) :
    Calls Tryd.prog 18 #[.slice ad 0 cap] w (OMade w 0) := by
  cases ad with
  | none =>
    go_enter Tryd.func18, Tryd.ntmps18
    go_wp2
    go_loop [3] (fun s => s = .int .i64 0) (fun _ => 0)
    case atStart => rfl
    case round =>
      obtain rfl := hrel
      go_wp2
      go_ret
      exact ⟨_, _, _, [], rfl, owns_void _ _ (Nat.le_refl _), rd_void _ _ _, Can.nil, rfl, alb w _⟩
  | some a =>
    go_enter Tryd.func18, Tryd.ntmps18
    go_wp2
    go_loop [3] (fun s => s = .int .i64 0) (fun _ => 0)
    case atStart => rfl
    case round =>
      obtain rfl := hrel
      go_wp2
      go_ret
      exact ⟨_, _, _, [], rfl, owns_void _ _ (Nat.le_refl _), rd_void _ _ _, Can.nil, rfl, alb w _⟩

theorem rnorm_any {w : World} {v : Value} {l : List Nat} (h : Rd w v l) (hl : l.length ≤ 1000000) : Calls Tryd.prog 18 #[v] w (OMade w (val l)) := by
  obtain ⟨ad, n, cap, rfl, -⟩ := id h
  obtain ⟨hn, hcap, hx, hr⟩ := h.open
  by_cases h0 : 0 < n
  · obtain ⟨b, o, rfl, hb, hcell⟩ := hr h0
    exact rnorm_some b o n cap l w h (by omega) h0
  · obtain rfl : n = 0 := by omega
    rw [List.eq_nil_of_length_eq_zero hn.symm]
    exact rnorm_none ad cap w

end Go.Proofs.YtkfododihdopiaaDoor
