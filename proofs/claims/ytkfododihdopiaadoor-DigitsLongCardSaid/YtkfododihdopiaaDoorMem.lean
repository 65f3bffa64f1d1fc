/-
  What a slice of 32-bit limbs reads in a world, and how that lasts when blocks are added; the step of one limb read is proved. No condition.
-/
import Derived.Test.YtkfododihdopiaaDoorRows
import Derived.WalkKit
import Derived.WalkSpells
import Derived.WalkLawsBesides
import Derived.Lib.Hide
import Derived.Deep.QuietTactic
import Derived.BigQuiet
namespace Go.Proofs.YtkfododihdopiaaDoor
open Go.RowKit

/-- The slice v reads, in world w, as the list l of limbs. -/
def Rd (w : World) (v : Value) (l : List Nat) : Prop :=
  ∃ ad n cap, v = .slice ad n cap ∧ n = l.length ∧ n ≤ cap ∧ (∀ x ∈ l, x < 4294967296) ∧
    (0 < n → ∃ b o, ad = some ⟨b, o, none⟩ ∧ b < w.heap.size ∧ ∀ (i x : Nat), l[i]? = some x → w.cell? ⟨b, o + i, none⟩ = some (.int .u32 (x : Int)))

theorem Rd.same {w w' : World} {v : Value} {l : List Nat} (h : Rd w v l) (hs : w.heap.size ≤ w'.heap.size)
    (hc : ∀ ad n cap b o, v = .slice ad n cap → ad = some ⟨b, o, none⟩ → 0 < n → ∀ i, w'.cell? ⟨b, o + i, none⟩ = w.cell? ⟨b, o + i, none⟩) : Rd w' v l := by
  obtain ⟨ad, n, cap, rfl, hn, hcap, hx, hr⟩ := h
  refine ⟨ad, n, cap, rfl, hn, hcap, hx, fun h0 => ?_⟩
  obtain ⟨b, o, e, hb, hcell⟩ := hr h0
  exact ⟨b, o, e, Nat.lt_of_lt_of_le hb hs, fun i x hi => (hc ad n cap b o rfl e h0 i).trans (hcell i x hi)⟩

theorem Rd.below {w w' : World} {v : Value} {l : List Nat} (h : Rd w v l) (hb : Below w.heap.size w w') : Rd w' v l := by
  obtain ⟨ad, n, cap, rfl, hn, hcap, hx, hr⟩ := h
  refine ⟨ad, n, cap, rfl, hn, hcap, hx, fun h0 => ?_⟩
  obtain ⟨b, o, e, hb', hcell⟩ := hr h0
  exact ⟨b, o, e, Nat.lt_of_lt_of_le hb' hb.size, fun i x hi => (hb.cell (p := ⟨b, o + i, none⟩) hb').trans (hcell i x hi)⟩

theorem Rd.nil (w : World) : Rd w (.slice none 0 0) [] := ⟨none, 0, 0, rfl, rfl, Nat.le_refl _, by simp, by simp⟩

theorem Rd.lim {w : World} {v : Value} {l : List Nat} (h : Rd w v l) : ∀ x ∈ l, x < 4294967296 := by
  obtain ⟨_, _, _, _, _, _, hx, _⟩ := h; exact hx

/-- One limb of a list; 0 above its end. -/
def at0 (l : List Nat) (k : Nat) : Nat := l.getD k 0

theorem at0_lt {l : List Nat} (h : ∀ x ∈ l, x < 4294967296) (k : Nat) : at0 l k < 4294967296 := by
  unfold at0
  by_cases hk : k < l.length
  · rw [List.getD_eq_getElem?_getD, List.getElem?_eq_getElem hk]; exact h _ (List.getElem_mem hk)
  · rw [List.getD_eq_getElem?_getD, List.getElem?_eq_none (by omega)]; decide

set_option maxHeartbeats 400000 in
theorem limb_in (b o n cap k : Nat) (x : Int) (w : World) (hk : k < n) (_hn : n ≤ 1000000) (hc : w.cell? ⟨b, o + k, none⟩ = some (.int .u32 x)) :
    Calls Tryd.prog 45 #[.slice (some ⟨b, o, none⟩) n cap, .int .i64 (k : Int)] w fun e w' => e = .returned (.int .u32 x) ∧ w = w' := by
  go_enter Tryd.func45, Tryd.ntmps45
  go_wp2
  go_ret
  exact ⟨rfl, rfl⟩

set_option maxHeartbeats 400000 in
theorem limb_out (ad : Option Addr) (n cap k : Nat) (w : World) (hk : n ≤ k) (_hn : n ≤ 1000000) :
    Calls Tryd.prog 45 #[.slice ad n cap, .int .i64 (k : Int)] w fun e w' => e = .returned (.int .u32 0) ∧ w = w' := by
  go_enter Tryd.func45, Tryd.ntmps45
  go_wp2
  go_ret
  exact ⟨rfl, rfl⟩

theorem limb_any {w : World} {v : Value} {l : List Nat} (h : Rd w v l) (hl : l.length ≤ 1000000) (k : Nat) :
    Calls Tryd.prog 45 #[v, .int .i64 (k : Int)] w fun e w' => e = .returned (.int .u32 (at0 l k : Int)) ∧ w = w' := by
  obtain ⟨ad, n, cap, rfl, hn, hcap, hx, hr⟩ := h
  by_cases hk : k < n
  · obtain ⟨b, o, rfl, hb, hcell⟩ := hr (by omega)
    have e : l[k]? = some (at0 l k) := by
      unfold at0; rw [List.getD_eq_getElem?_getD, List.getElem?_eq_getElem (by omega)]; rfl
    exact limb_in b o n cap k _ w hk (by omega) (hcell k _ e)
  · have e : at0 l k = 0 := by unfold at0; rw [List.getD_eq_getElem?_getD, List.getElem?_eq_none (by omega)]; rfl
    rw [e]
    exact limb_out ad n cap k w (by omega) (by omega)

end Go.Proofs.YtkfododihdopiaaDoor
