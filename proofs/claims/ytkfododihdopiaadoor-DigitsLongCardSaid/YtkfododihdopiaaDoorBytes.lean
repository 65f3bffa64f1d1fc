/-
  Slices of bytes: what one reads as in a world; a row of bytes of the call's own; as a string. No condition.
-/
import Derived.Test.YtkfododihdopiaaDoorRefTenth
import Derived.Laws.IdiomStrings
import Derived.OwnWalkIn
namespace Go.Proofs.YtkfododihdopiaaDoor
open Go.RowKit

theorem Tryd.infoByte : (Tryd.prog.info? 5).map (fun i => (i.zero, i.size, i.bytes)) = some (some (.int .u8 0), 1, 1) := by kernel_rfl

theorem add_at (b o j : Nat) : (⟨b, o, none⟩ : Addr).add j = ⟨b, o + j, none⟩ := by
  by_cases h : j = 0 <;> simp [Addr.add, h]

/-- Bytes as a slice's cells. -/
def byteVals (l : List UInt8) : List Value := l.map fun b => Value.int .u8 (b.toNat : Int)

theorem byteVals_at {l : List UInt8} {j : Nat} {b : UInt8} (h : l[j]? = some b) : (byteVals l)[j]? = some (.int .u8 (b.toNat : Int)) := by
  unfold byteVals; rw [List.getElem?_map, h]; rfl

theorem byteVals_len (l : List UInt8) : (byteVals l).length = l.length := by simp [byteVals]

theorem byteVals_append (l m : List UInt8) : byteVals (l ++ m) = byteVals l ++ byteVals m := by simp [byteVals]

/-- The slice v reads, in world w, as the bytes l. -/
def RdB (w : World) (v : Value) (l : List UInt8) : Prop :=
  (v = .slice none 0 0 ∧ l = []) ∨ ∃ b o n cap, v = .slice (some ⟨b, o, none⟩) n cap ∧ n = l.length ∧ b < w.heap.size ∧ ∀ (i : Nat) (x : UInt8), l[i]? = some x → w.cell? ⟨b, o + i, none⟩ = some (.int .u8 (x.toNat : Int))

theorem RdB.below {w w' : World} {v : Value} {l : List UInt8} (h : RdB w v l) (hb : Below w.heap.size w w') : RdB w' v l := by
  rcases h with h | ⟨b, o, n, cap, rfl, hn, hlt, hc⟩
  · exact .inl h
  · exact .inr ⟨b, o, n, cap, rfl, hn, Nat.lt_of_lt_of_le hlt hb.size, fun i x hi => (hb.cell (p := ⟨b, o + i, none⟩) hlt).trans (hc i x hi)⟩

/-- A row of bytes of the call's own. -/
def OwnsB (w : World) (base : Nat) (v : Value) (l : List UInt8) : Prop := w.ownsRow base 5 1 v l.length (byteVals l)

theorem OwnsB.nil (w : World) (base : Nat) : OwnsB w base (.slice none 0 0) [] := World.ownsRow_nil _ _ _ _

theorem OwnsB.mono {w : World} {base base' : Nat} {v : Value} {l : List UInt8} (h : OwnsB w base v l) (hb : base' ≤ base) : OwnsB w base' v l :=
  ⟨h.1, h.2.imp id fun ⟨g, cap, cur, hv, hg, r⟩ => ⟨g, cap, cur, hv, Nat.le_trans hb hg, r⟩⟩

theorem OwnsB.alloc {w : World} {base : Nat} {v : Value} {l : List UInt8} (h : OwnsB w base v l) (o : Obj) : OwnsB (w.alloc o) base v l := World.ownsRow.alloc h o

theorem OwnsB.below {w w' : World} {base : Nat} {v : Value} {l : List UInt8} (h : OwnsB w base v l) (hb : Below w.heap.size w w') : OwnsB w' base v l := by
  obtain ⟨h1, h2⟩ := h
  refine ⟨h1, h2.imp id fun ⟨g, cap, cur, hv, hg, hh, r⟩ => ⟨g, cap, cur, hv, hg, ?_, r⟩⟩
  exact below_heap hb hh

theorem OwnsB.rd {w : World} {base : Nat} {v : Value} {l : List UInt8} (h : OwnsB w base v l) : RdB w v l := by
  obtain ⟨h1, h2⟩ := h
  rcases h2 with ⟨rfl, hl⟩ | ⟨g, cap, cur, rfl, _, hg, hcap, _, hs, ht⟩
  · refine .inl ⟨rfl, ?_⟩
    have := byteVals_len l
    rw [h1] at this
    first | exact List.eq_nil_of_length_eq_zero hl | (unfold byteVals at hl; simpa using hl)
  · refine .inr ⟨g, 0, l.length, cap, rfl, rfl, (Array.getElem?_eq_some_iff.1 hg).1, fun i x hi => ?_⟩
    have h3 : (cur.toList.take (l.length * 1))[i]? = some (.int .u8 (x.toNat : Int)) := by rw [ht]; exact byteVals_at hi
    have hi' : i < l.length := (List.getElem?_eq_some_iff.1 hi).1
    rw [List.getElem?_take_of_lt (by omega)] at h3
    rw [Nat.zero_add]
    simp only [World.cell?, hg]
    simpa using h3

/-- Bytes appended onto a row of the call's own. -/
theorem wpList_pushB {ops : Array Oper} {rest : List Oper} {o : Oper} {a : Act} {Q : Exit → Act → World → Prop} (w : World) (hgd : o.guard = none) (s x : Operand)
    (ho : o.op = .call { callee := .builtin .append, args := #[s, x], argTypes := #[33, 33] }) (base : Nat) (v : Value) (l : List UInt8) (hs : a.eval s = v) (hown : OwnsB w base v l) (ad : Addr) (m c : Nat) (k : List UInt8)
    (hx : a.eval x = .slice (some ad) m c) (hk : k.length = m) (hc : ∀ (j : Nat) (b : UInt8), k[j]? = some b → w.cell? (ad.add j) = some (.int .u8 (b.toNat : Int))) (hl : l.length ≤ 100000) (hm : m ≤ 100000) (hb : base ≤ w.heap.size)
    (h : ∀ v' w', OwnsB w' base v' (l ++ k) → w.grownBy w' v.ownBlock → (v' = .slice none 0 0 ↔ v = .slice none 0 0 ∧ m = 0) → (∀ B w0, B ≤ base → Below B w0 w → B ≤ w.heap.size → Below B w0 w') → wpList Tryd.prog ops Q rest (a.put o.dst v') w') : wpList Tryd.prog ops Q (o :: rest) a w := by
  obtain ⟨i0, hi, hz0, hz1, hz2⟩ := info_parts Tryd.infoByte
  refine wpList_append_own w hgd s x 33 ho base 5 i0 (.int .u8 0) 1 1 Tryd.underlying33 hi hz0 hz1 hz2 rfl (by decide) v l.length _ hs hown ad m c (byteVals k) hx (by rw [byteVals_len, hk, Nat.mul_one]) ?_ ?_ (by unfold maxLen; omega) (by omega) hb ?_
  · intro j u hj
    unfold byteVals at hj
    rw [List.getElem?_map] at hj
    cases hkj : k[j]? with
    | none => rw [hkj] at hj; simp at hj
    | some b => rw [hkj] at hj; simp at hj; subst hj; exact hc j b hkj
  · intro u hu
    obtain ⟨b, _, rfl⟩ := List.mem_map.1 hu
    rfl
  · intro v' w' hown' hgrow hnil
    refine h v' w' (by unfold OwnsB; rw [List.length_append, hk, byteVals_append]; exact hown') hgrow hnil fun B w0 hB hbel hB2 => hbel.grown hgrow hB2 fun j hj => ?_
    exact Nat.le_trans hB (World.ownsRow.lt hown j hj).1

/-- A slice of bytes as a string. -/
theorem string_of {w : World} {v : Value} {l : List UInt8} (h : RdB w v l) : (convert 33 9 v).run Tryd.prog w = .ok (.string ⟨l.toArray⟩) w := by
  rcases h with ⟨rfl, rfl⟩ | ⟨b, o, n, cap, rfl, rfl, hlt, hc⟩
  · rw [run_convert_bytes_string w _ _ _ _ _ _ Tryd.underlying33 Tryd.underlying5 Tryd.underlying9]
    rfl
  · refine run_convert_bytes_back w _ _ _ ⟨b, o, none⟩ cap l Tryd.underlying33 Tryd.underlying5 Tryd.underlying9 fun j hj => ?_
    rw [add_at]; exact hc j _ (List.getElem?_eq_getElem hj)

theorem by0_mk (l : List UInt8) : by0 ⟨l.toArray⟩ = l := by simp [by0]

end Go.Proofs.YtkfododihdopiaaDoor
