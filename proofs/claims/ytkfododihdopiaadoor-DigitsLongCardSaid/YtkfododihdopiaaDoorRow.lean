/-
  A slice that came in, as the row's frame tells it, reads as a list of limbs.
-/
import Derived.Test.YtkfododihdopiaaDoorForms
import Derived.OpenShut
namespace Go.Proofs.YtkfododihdopiaaDoor
open Go.RowKit

theorem rd_row {w : World} {a : Option Addr} {len cap : Nat} {zs : List Int}
    (h : (a = none ∧ len = 0 ∧ cap = 0 ∧ zs = []) ∨ ∃ x, a = some x ∧ len ≤ cap ∧ cap ≤ maxLen ∧ zs.length = cap ∧ (∀ i, i < zs.length → w.cell? (x.add i) = some (.int .u32 (zs.getD i 0))) ∧ ∀ n ∈ zs, (Lit.int .u32 n).wf = true) :
    ∃ l, Rd w (.slice a len cap) l := by
  rcases h with ⟨rfl, rfl, rfl, _⟩ | ⟨x, rfl, hl, _, hz, hc, hw⟩
  · exact ⟨[], Rd.nil w⟩
  · have bd : ∀ n ∈ zs, 0 ≤ n ∧ n ≤ 4294967295 := fun n hn => by
      have h := hw n hn
      simp only [Lit.wf, IntKind.min, IntKind.max, IntKind.bits, IntKind.signed, Bool.and_eq_true] at h
      simpa using h
    refine ⟨(zs.take len).map Int.toNat, _, len, cap, rfl, by simp; omega, hl, fun y hy => ?_, fun h0 => ?_⟩
    · obtain ⟨n, hn, rfl⟩ := List.mem_map.1 hy
      have := bd n (List.mem_of_mem_take hn)
      omega
    · obtain ⟨b, off, rfl, hc'⟩ := ints_at hc (by omega)
      refine ⟨b, off, rfl, World.block_lt_of_cell? w ⟨b, off + 0, none⟩ (hc' 0 (by omega)), fun i y hy => ?_⟩
      have hi : i < len := by
        have := (List.getElem?_eq_some_iff.1 hy).1
        simp at this
        omega
      rw [hc' i (by omega)]
      rw [List.getElem?_map, List.getElem?_take_of_lt hi, List.getElem?_eq_getElem (by omega)] at hy
      simp only [Option.map_some, Option.some.injEq] at hy
      rw [← hy, List.getD_eq_getElem?_getD, List.getElem?_eq_getElem (by omega)]
      have := bd _ (List.getElem_mem (show i < zs.length by omega))
      simp only [Option.getD_some]
      rw [Int.toNat_of_nonneg this.1]

end Go.Proofs.YtkfododihdopiaaDoor
