/-
  cmp.Compare of two numbers, nat.Cmp of two lists, and the document's Same: is it less, the same, greater; are two lists alike. Lists of at most a million limbs.
-/
import Derived.Test.YtkfododihdopiaaDoorOf
namespace Go.Proofs.YtkfododihdopiaaDoor
open Go.RowKit

/-- -1, 0 or 1. -/
def tell (m n : Nat) : Int := if m < n then -1 else if n < m then 1 else 0

theorem Rd.drewN {w : World} {v : Value} {l : List Nat} (h : Rd w v l) (n : Nat) : Rd (w.drewN n) v l := h

theorem drewN_below (w : World) (n : Nat) : Below w.heap.size w (w.drewN n) := ⟨rfl, rfl, rfl, Nat.le_refl _, fun _ _ => rfl⟩

theorem drewN_add (w : World) (m n : Nat) : (w.drewN m).drewN n = w.drewN (m + n) := by simp [World.drewN, Nat.add_assoc]

theorem Rd.open {w : World} {ad : Option Addr} {n cap : Nat} {l : List Nat} (h : Rd w (.slice ad n cap) l) :
    n = l.length ∧ n ≤ cap ∧ Lim l ∧ (0 < n → ∃ b o, ad = some ⟨b, o, none⟩ ∧ b < w.heap.size ∧ ∀ i, i < n → w.cell? ⟨b, o + i, none⟩ = some (.int .u32 (at0 l i : Int))) := by
  obtain ⟨ad', n', cap', e, hn, hcap, hlim, hc⟩ := h
  simp only [Value.slice.injEq] at e
  obtain ⟨rfl, rfl, rfl⟩ := e
  refine ⟨hn, hcap, hlim, fun h0 => ?_⟩
  obtain ⟨b, o, e, hb, hc⟩ := hc h0
  refine ⟨b, o, e, hb, fun i hi => hc i _ ?_⟩
  unfold at0; rw [List.getD_eq_getElem?_getD, List.getElem?_eq_getElem (by omega)]; rfl

theorem draw_below {B : Nat} {a w : World} (h : Below B a w) (n : Nat) : Below B a (w.drewN n) := h.trans ⟨rfl, rfl, rfl, Nat.le_refl _, fun _ _ => rfl⟩

/-- What Cmp answers of numbers worth A and B. -/
def Told (w : World) (A B : Nat) (e : Ending) (w' : World) : Prop := e = .returned (.int .i64 (tell A B)) ∧ Below w.heap.size w w'

theorem can_less {a b : List Nat} (ha : Can a) (hb : Can b) (h : a.length < b.length) : val a < val b := by
  have h1 := val_lt a ha.1
  have h2 := hb.le (by omega)
  have h3 := pw_le (show a.length ≤ b.length - 1 by omega)
  omega

theorem tell_lt {m n : Nat} (h : m < n) : tell m n = -1 := by unfold tell; rw [if_pos h]
theorem tell_eq {m n : Nat} (h : m = n) : tell m n = 0 := by unfold tell; rw [if_neg (by omega), if_neg (by omega)]
theorem tell_gt {m n : Nat} (h : n < m) : tell m n = 1 := by unfold tell; rw [if_neg (by omega), if_pos h]

/-- The two rows agree from place i on. -/
def Agree (a b : List Nat) (i n : Int) : Prop := ∀ j : Nat, i < j → (j : Int) < n → at0 a j = at0 b j

theorem agree_less {a b : List Nat} (ha : Lim a) {k n : Nat} (h : Agree a b k n) (hk : k < n) (hna : a.length = n) (hnb : b.length = n) (hl : at0 a k < at0 b k) : val a < val b := by
  rw [← sm_all a (k := n) (by omega), ← sm_all b (k := n) (by omega)]
  exact sm_less (fun j => at0_lt ha j) hk (fun j h1 h2 => h j (by omega) (by omega)) hl

theorem agree_same {a b : List Nat} {n : Nat} (h : Agree a b (-1) n) (hna : a.length = n) (hnb : b.length = n) : a = b := by
  apply List.ext_getElem (by omega)
  intro i h1 h2
  have := h i (by omega) (by omega)
  unfold at0 at this
  simpa [h1, h2] using this

theorem agree_sym {a b : List Nat} {i n : Int} (h : Agree a b i n) : Agree b a i n := fun j h1 h2 => (h j h1 h2).symm

theorem agree_down {a b : List Nat} {k : Nat} {n : Int} (h : Agree a b k n) (e : at0 a k = at0 b k) : Agree a b ((k : Int) - 1) n := by
  intro j h1 h2
  by_cases hj : j = k
  · subst hj; exact e
  · exact h j (by omega) h2

end Go.Proofs.YtkfododihdopiaaDoor
