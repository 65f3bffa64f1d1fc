/-
  Rows of texts of the call's own: two at once.
-/
import Derived.Test.YtepacminjfeliaaGreatDoorQSum
import Derived.Deep.AppendLies
namespace Go.Proofs.YtepacminjfeliaaGreatDoor
open Go.RowKit

theorem Tryz.infoStr : (Tryz.prog.info? 9).map (fun i => (i.zero, i.size, i.bytes)) = some (some (.string ⟨#[]⟩), 1, 16) := by kernel_rfl

/-- A row of texts of the call's own. -/
def OwnS (w : World) (base : Nat) (v : Value) (S : List ByteArray) : Prop := w.ownsRow base 9 1 v S.length (S.map .string)

theorem OwnS.nil (w : World) (base : Nat) : OwnS w base (.slice none 0 0) [] := World.ownsRow_nil _ _ _ _

theorem OwnS.alloc {w : World} {base : Nat} {v : Value} {S : List ByteArray} (h : OwnS w base v S) (o : Obj) : OwnS (w.alloc o) base v S := World.ownsRow.alloc h o

theorem OwnS.below {w w' : World} {base : Nat} {v : Value} {S : List ByteArray} (h : OwnS w base v S) (hb : Below w.heap.size w w') : OwnS w' base v S := by
  obtain ⟨h1, h2⟩ := h
  refine ⟨h1, h2.imp id fun ⟨g, cap, cur, hv, hg, hh, r⟩ => ⟨g, cap, cur, hv, hg, ?_, r⟩⟩
  exact below_heap hb hh

theorem OwnS.rd {w : World} {base : Nat} {v : Value} {S : List ByteArray} (h : OwnS w base v S) : RdS w v S := by
  obtain ⟨h1, h2⟩ := h
  rcases h2 with ⟨rfl, hl⟩ | ⟨g, cap, cur, rfl, _, hg, hcap, _, hs, ht⟩
  · refine ⟨none, 0, by rw [hl], by omega, fun hne => absurd (List.eq_nil_of_length_eq_zero hl) hne⟩
  · refine ⟨some ⟨g, 0, none⟩, cap, rfl, hcap, fun _ => ⟨g, 0, rfl, (Array.getElem?_eq_some_iff.1 hg).1, fun i s hi => ?_⟩⟩
    have h3 : (cur.toList.take (S.length * 1))[i]? = some (.string s) := by rw [ht]; simp [hi]
    have hi' : i < S.length := (List.getElem?_eq_some_iff.1 hi).1
    rw [List.getElem?_take_of_lt (by omega)] at h3
    rw [Nat.zero_add]
    simp only [World.cell?, hg]
    simpa using h3

/-- Two rows that lie apart. -/
def ApartS (v u : Value) : Prop := v.ownBlock = none ∨ v.ownBlock ≠ u.ownBlock

theorem OwnS.kept {W W' : World} {base : Nat} {v u : Value} {S : List ByteArray} (h : OwnS W base v S) (hg : W.grownBy W' u.ownBlock) (ha : ApartS v u) : OwnS W' base v S :=
  World.ownsRow.kept h hg ha

theorem ApartS.symm {v u : Value} (h : ApartS v u) : ApartS u v := by
  unfold ApartS at *
  rcases h with h | h
  · cases hu : u.ownBlock with
    | none => exact .inl rfl
    | some k => right; rw [h]; nofun
  · exact .inr fun e => h e.symm

/-- append of texts onto a row of the call's own. -/
theorem wpList_pushS {ops : Array Oper} {rest : List Oper} {o : Oper} {a : Act} {Q : Exit → Act → World → Prop} (w : World) (hgd : o.guard = none) (s x : Operand)
    (ho : o.op = .call { callee := .builtin .append, args := #[s, x], argTypes := #[30, 30] }) (base : Nat) (v : Value) (S : List ByteArray) (hs : a.eval s = v) (hown : OwnS w base v S) (ad : Addr) (m c : Nat) (K : List ByteArray)
    (hx : a.eval x = .slice (some ad) m c) (hk : K.length = m) (hm0 : 0 < m) (hc : ∀ (j : Nat) (b : ByteArray), K[j]? = some b → w.cell? (ad.add j) = some (.string b)) (hl : S.length ≤ 100000) (hm : m ≤ 100000) (hb : base ≤ w.heap.size)
    (h : ∀ g cap w', OwnS w' base (.slice (some ⟨g, 0, none⟩) (S.length + m) cap) (S ++ K) → w.grownBy w' v.ownBlock → (v.ownBlock = some g ∨ g = w.heap.size) → (∀ B w0, B ≤ base → Below B w0 w → B ≤ w.heap.size → Below B w0 w') → wpList Tryz.prog ops Q rest (a.put o.dst (.slice (some ⟨g, 0, none⟩) (S.length + m) cap)) w') : wpList Tryz.prog ops Q (o :: rest) a w := by
  obtain ⟨i0, hi, hz0, hz1, hz2⟩ := info_parts Tryz.infoStr
  refine wpList_append_lies w hgd s x 30 ho base 9 i0 (.string ⟨#[]⟩) 1 16 Tryz.underlying30 hi hz0 hz1 hz2 rfl (by decide) v S.length _ hs hown ad m c (K.map .string) hx (by rw [List.length_map, hk, Nat.mul_one]) ?_ ?_ hm0 (by unfold maxLen; omega) (by omega) hb _ rfl ?_
  · intro j u hj
    rw [List.getElem?_map] at hj
    cases hkj : K[j]? with
    | none => rw [hkj] at hj; simp at hj
    | some b => rw [hkj] at hj; simp at hj; subst hj; exact hc j b hkj
  · intro u hu
    obtain ⟨b, _, rfl⟩ := List.mem_map.1 hu
    rfl
  · intro g cap w' hown' hgrow hat hlt
    refine h g cap w' (by unfold OwnS; rw [List.length_append, hk, List.map_append]; exact hown') hgrow hat fun B w0 hB hbel hB2 => hbel.grown hgrow hB2 fun j hj => ?_
    exact Nat.le_trans hB (World.ownsRow.lt hown j hj).1

/-- What was appended to still lies apart. -/
theorem ApartS.push {w : World} {base : Nat} {v u : Value} {S : List ByteArray} {g n cap : Nat} (ha : ApartS u v) (hu : OwnS w base u S) (hat : v.ownBlock = some g ∨ g = w.heap.size) : ApartS u (.slice (some ⟨g, 0, none⟩) n cap) := by
  rcases ha with ha | ha
  · exact .inl ha
  · refine .inr fun e => ?_
    have e2 : u.ownBlock = some g := e
    rcases hat with h | h
    · exact ha (by rw [e2, h])
    · have := (World.ownsRow.lt hu g e2).2
      omega

end Go.Proofs.YtepacminjfeliaaGreatDoor
