/-
  nat.Of and nat.Norm: a number of 64 bits as a list in short; a list in short, in new memory.
-/
import Derived.Test.YtkfododihdopiaaDoorAdd
import Derived.Laws.AppendOwnNone
namespace Go.Proofs.YtkfododihdopiaaDoor
open Go.RowKit

/-- The two limbs of a number of 64 bits. -/
theorem of_two (x : Int) (h0 : 0 ≤ x) (h1 : x < 18446744073709551616) : ∃ p q : Nat, x % 4294967296 = (p : Int) ∧ x / 4294967296 = (q : Int) ∧ p < 4294967296 ∧ q < 4294967296 ∧ val [p, q] = x.toNat :=
  ⟨(x % 4294967296).toNat, (x / 4294967296).toNat, by omega, by omega, by omega, by omega, by simp only [val]; omega⟩

theorem two_blk (w : World) (p q : Nat) : Blk (w.alloc (.cells #[.int .u32 (p : Int), .int .u32 (q : Int)] 35)) w.heap.size [p, q] := by
  unfold Blk
  exact heap_alloc_new w _

theorem lim_two {p q : Nat} (hp : p < 4294967296) (hq : q < 4294967296) : Lim [p, q] := by
  intro x hx
  simp at hx
  rcases hx with rfl | rfl <;> assumption

set_option maxHeartbeats 400000 in
theorem of_any (x : Int) (w : World) (h0 : 0 ≤ x) (h1 : x < 18446744073709551616) :
    Calls Tryd.prog 24 #[.int .u64 x] w (Made w x.toNat) := by
  obtain ⟨p, q, hp, hq, p1, q1, hv⟩ := of_two x h0 h1
  have HV := Lib.hid hv; clear hv
  go_enter Tryd.func24, Tryd.ntmps24
  go_wp2_with fail
  refine (short_any ((two_blk w p q).rd (lim_two p1 q1) (n := 2) (cap := 2) rfl (by decide)) (by simp)).mono ?_
  rintro e w3 ⟨⟨ad, k, cap, l', rfl, hr', hcan, hv'⟩, rfl⟩
  have HV' := Lib.hid hv'; clear hv'
  go_wp2
  go_ret
  exact ⟨ad, k, cap, l', rfl, hr', hcan, HV'.out.trans HV.out, (Below.refl _ _).alloc (Nat.le_refl _) _⟩

/-- An owned row of limbs, read as a slice. -/
theorem own_rd {w : World} {base : Nat} {v : Value} {n : Nat} {l : List Nat} (h : w.ownsRow base 35 1 v n (l.map fun (x : Nat) => Value.int .u32 (x : Int))) (hl : Lim l) : ∃ ad cap, v = .slice ad n cap ∧ Rd w (.slice ad n cap) l := by
  obtain ⟨h1, h2⟩ := h
  have hn : l.length = n := by simpa using h1
  rcases h2 with ⟨rfl, rfl⟩ | ⟨g, cap, cur, rfl, _, hg, hcap, _, hs, ht⟩
  · obtain rfl : l = [] := List.eq_nil_of_length_eq_zero hn
    exact ⟨_, _, rfl, Rd.nil w⟩
  · refine ⟨_, cap, rfl, _, n, cap, rfl, hn.symm, hcap, hl, fun _ => ⟨g, 0, rfl, (Array.getElem?_eq_some_iff.1 hg).1, fun i x hi => ?_⟩⟩
    have h3 : (cur.toList.take (n * 1))[i]? = some (.int .u32 (x : Int)) := by rw [ht, List.getElem?_map, hi]; rfl
    have hi' : i < n := by have := (List.getElem?_eq_some_iff.1 hi).1; omega
    rw [List.getElem?_take_of_lt (by omega)] at h3
    rw [Nat.zero_add]
    simp only [World.cell?, hg]
    simpa using h3

end Go.Proofs.YtkfododihdopiaaDoor
