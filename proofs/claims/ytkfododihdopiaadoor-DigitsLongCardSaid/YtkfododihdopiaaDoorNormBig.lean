/-
  The document's Norm once more, of a list as long as the memory bears.
-/
import Derived.Test.YtkfododihdopiaaDoorRefNorm
namespace Go.Proofs.YtkfododihdopiaaDoor
open Go.RowKit

set_option maxHeartbeats 2000000 in
theorem rnormb_some (b o n cap : Nat) (l : List Nat) (w : World) (hr : Rd w (.slice (some ⟨b, o, none⟩) n cap) l) (hn1 : n ≤ 35184372087808) (h0 : 0 < n) :
    Calls Tryd.prog 18 #[.slice (some ⟨b, o, none⟩) n cap] w (OMade w (val l)) := by
  obtain ⟨i0, hi, hz0, hz1, hz2⟩ := info_parts Tryd.info36
  obtain ⟨hn, hcap, hlim, hcell⟩ := hr.open
  obtain ⟨b', o', e, hb, hc⟩ := hcell h0
  simp only [Option.some.injEq, Addr.mk.injEq, and_true] at e
  obtain ⟨rfl, rfl⟩ := e
  have HN := Lib.hid hn; clear hn
  have HL := Lib.hid hlim; clear hlim
  clear hcell
  go_enter Tryd.func18, Tryd.ntmps18
  go_wp2
  go_loop [3] (fun s => ∃ k : Nat, s = .int .i64 k ∧ k ≤ n ∧ ∀ j, k ≤ j → j < n → at0 l j = 0) (fun s => (intOf s).toNat)
  case atStart => exact ⟨n, rfl, Nat.le_refl _, fun j h1 h2 => absurd h1 (by omega)⟩
  case round =>
    obtain ⟨k, rfl, hk, hz⟩ := hrel
    have HZ := Lib.hid hz; clear hz
    have HC := Lib.hid hc; clear hc
    have fin : ∀ (k : Nat), k ≤ n → (∀ j, k ≤ j → j < n → at0 l j = 0) → (0 < k → at0 l (k - 1) ≠ 0) → Rd w (.slice (some ⟨b, o, none⟩) k cap) (l.take k) ∧ Can (l.take k) ∧ val (l.take k) = val l ∧ (l.take k).length = k := by
      intro k hk hz h1
      obtain ⟨c1, c2, c3⟩ := cut_can HN.out HL.out hk hz h1
      refine ⟨⟨_, k, cap, rfl, c3.symm, by omega, c1.1, fun hp => ⟨b, o, rfl, hb, fun i x hi => ?_⟩⟩, c1, c2, c3⟩
      have hik : i < k := by
        have := (List.getElem?_eq_some_iff.1 hi).1
        omega
      rw [List.getElem?_take_of_lt hik] at hi
      have := HC.out i (by omega)
      unfold at0 at this
      rwa [List.getD_eq_getElem?_getD, hi] at this
    have FIN := Lib.hid fin; clear fin
    by_cases hk0 : 0 < k
    · obtain ⟨k', rfl⟩ : ∃ k', k = k' + 1 := ⟨k - 1, by omega⟩
      have hcell := HC.out k' (by omega)
      obtain ⟨x, hx⟩ : ∃ x : Nat, x = at0 l k' := ⟨_, rfl⟩
      rw [← hx] at hcell
      have HX := Lib.hid hx; clear hx
      by_cases hx0 : x = 0
      · subst hx0
        go_wp2
        go_round
        case rel =>
          refine ⟨k', by go_num, by omega, fun j h1 h2 => ?_⟩
          by_cases e : j = k'
          · subst e; exact HX.out.symm
          · exact HZ.out j (by omega) h2
        case measure => simp [intOf]
      · have hx1 : ((x : Int) == 0) = false := by simp; omega
        have hfin := FIN.out (k' + 1) hk HZ.out (fun _ => by show at0 l (k' + 1 - 1) ≠ 0; rw [Nat.add_sub_cancel, ← HX.out]; exact hx0)
        obtain ⟨l', hl'⟩ : ∃ l', l' = l.take (k' + 1) := ⟨_, rfl⟩
        rw [← hl'] at hfin
        obtain ⟨f1, f2, f3, f4⟩ := hfin
        clear hl'
        have F1 := Lib.hid f1; clear f1
        have F3 := Lib.hid f3; clear f3
        have F4 := Lib.hid f4; clear f4
        go_wp2_with (at_builtin; refine wpList_append_own _ rfl _ _ 22 rfl w.heap.size 35 i0 (.int .u32 0) 1 4 Tryd.underlying22 hi hz0 hz1 hz2 rfl (by decide) _ _ _ rfl (World.ownsRow_lit w #[] 0 (Nat.le_refl _) (by decide) rfl) ⟨b, o, none⟩ (k' + 1) cap (l'.map fun (x : Nat) => Value.int .u32 (x : Int)) rfl (by simp [F4.out]) ?c1 ?c2 ?c3 ?c4 (by simp) ?_)
        case c1 =>
          intro j u hu
          obtain ⟨_, _, _, e, _, _, _, hcl⟩ := F1.out
          simp only [Value.slice.injEq] at e
          obtain ⟨rfl, rfl, rfl⟩ := e
          obtain ⟨b2, o2, e, _, hcl⟩ := hcl (by omega)
          simp only [Option.some.injEq, Addr.mk.injEq, and_true] at e
          obtain ⟨rfl, rfl⟩ := e
          exact hcl j u hu
        case c2 => intro u hu; rfl
        case c3 => unfold maxLen; omega
        case c4 => omega
        intro v' w1 hown hgrow _
        have hown2 : Owns w1 w.heap.size v' l' := by
          unfold Owns
          rw [F4.out]
          simpa using hown
        obtain ⟨ad1, n1, cap1, rfl, hr1⟩ := hown2.rd f2.1
        clear hown
        have HOW := Lib.hid hown2; clear hown2
        go_wp2
        go_ret
        exact ⟨_, _, _, _, rfl, HOW.out, hr1, f2, F3.out, ((alb w _)).grown hgrow (by simp) (by simp [Value.ownBlock])⟩
    · obtain rfl : k = 0 := by omega
      obtain ⟨f1, f2, f3, f4⟩ := FIN.out 0 hk HZ.out (fun h => absurd h (by omega))
      have F3 := Lib.hid f3; clear f3
      clear f1 f2 f4
      go_wp2
      go_ret
      exact ⟨_, _, _, [], rfl, owns_void _ _ (Nat.le_refl _), rd_void _ _ _, Can.nil, by rw [← F3.out]; rfl, alb w _⟩

theorem rnorm_big {w : World} {v : Value} {l : List Nat} (h : Rd w v l) (hl : l.length ≤ 35184372087808) : Calls Tryd.prog 18 #[v] w (OMade w (val l)) := by
  obtain ⟨ad, n, cap, rfl, -⟩ := id h
  obtain ⟨hn, hcap, hx, hr⟩ := h.open
  by_cases h0 : 0 < n
  · obtain ⟨b, o, rfl, hb, hcell⟩ := hr h0
    exact rnormb_some b o n cap l w h (by omega) h0
  · obtain rfl : n = 0 := by omega
    rw [List.eq_nil_of_length_eq_zero hn.symm]
    exact rnorm_none ad cap w

end Go.Proofs.YtkfododihdopiaaDoor
