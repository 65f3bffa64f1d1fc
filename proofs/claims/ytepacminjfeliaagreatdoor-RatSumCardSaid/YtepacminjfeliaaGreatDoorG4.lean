/-
  A part of the proof: Bytes, RefText, DivNew, Nines, Trim, Backward.
-/
import Derived.Test.YtepacminjfeliaaGreatDoorG3
import Derived.Laws.IdiomStrings
import Derived.OwnWalkIn
import Derived.Deep.LoopGhost
import Derived.Test.YtepacminjfeliaaGreatDoorG2
import Derived.RangeFuncNested
import Derived.RangeFuncBound
import Derived.RangeFuncCalls
import Derived.RangeFuncLeaves
import Derived.RangeFuncBox
import Derived.Shelf.Abstract
import Derived.TacticsInMore
import Derived.LoopNIn
import Derived.LoopIn
/-
  Slices of bytes: what one reads as in a world; a row of bytes of the call's own; as a string. No condition.
-/
namespace Go.Proofs.YtepacminjfeliaaGreatDoor
open Go.RowKit

theorem Tryz.infoByte : (Tryz.prog.info? 5).map (fun i => (i.zero, i.size, i.bytes)) = some (some (.int .u8 0), 1, 1) := by kernel_rfl

theorem add_at (b o j : Nat) : (⟨b, o, none⟩ : Addr).add j = ⟨b, o + j, none⟩ := by
  by_cases h : j = 0 <;> simp [Addr.add, h]

/-- Bytes as a slice's cells. -/
def byteVals (l : List UInt8) : List Value := l.map fun b => Value.int .u8 (b.toNat : Int)

theorem byteVals_at {l : List UInt8} {j : Nat} {b : UInt8} (h : l[j]? = some b) : (byteVals l)[j]? = some (.int .u8 (b.toNat : Int)) := by
  unfold byteVals; rw [List.getElem?_map, h]; rfl

theorem byteVals_len (l : List UInt8) : (byteVals l).length = l.length := by simp [byteVals]

theorem byteVals_append (l m : List UInt8) : byteVals (l ++ m) = byteVals l ++ byteVals m := by simp [byteVals]

/-- The slice v reads, in world w, as the bytes l. -/
def RdB (w : World) (v : Value) (l : List UInt8) : Prop :=
  (v = .slice none 0 0 ∧ l = []) ∨ ∃ b o n cap, v = .slice (some ⟨b, o, none⟩) n cap ∧ n = l.length ∧ b < w.heap.size ∧ ∀ (i : Nat) (x : UInt8), l[i]? = some x → w.cell? ⟨b, o + i, none⟩ = some (.int .u8 (x.toNat : Int))

theorem RdB.below {w w' : World} {v : Value} {l : List UInt8} (h : RdB w v l) (hb : Below w.heap.size w w') : RdB w' v l := by
  rcases h with h | ⟨b, o, n, cap, rfl, hn, hlt, hc⟩
  · exact .inl h
  · exact .inr ⟨b, o, n, cap, rfl, hn, Nat.lt_of_lt_of_le hlt hb.size, fun i x hi => (hb.cell (p := ⟨b, o + i, none⟩) hlt).trans (hc i x hi)⟩

/-- A row of bytes of the call's own. -/
def OwnsB (w : World) (base : Nat) (v : Value) (l : List UInt8) : Prop := w.ownsRow base 5 1 v l.length (byteVals l)

theorem OwnsB.nil (w : World) (base : Nat) : OwnsB w base (.slice none 0 0) [] := World.ownsRow_nil _ _ _ _

theorem OwnsB.mono {w : World} {base base' : Nat} {v : Value} {l : List UInt8} (h : OwnsB w base v l) (hb : base' ≤ base) : OwnsB w base' v l :=
  ⟨h.1, h.2.imp id fun ⟨g, cap, cur, hv, hg, r⟩ => ⟨g, cap, cur, hv, Nat.le_trans hb hg, r⟩⟩

theorem OwnsB.alloc {w : World} {base : Nat} {v : Value} {l : List UInt8} (h : OwnsB w base v l) (o : Obj) : OwnsB (w.alloc o) base v l := World.ownsRow.alloc h o

theorem OwnsB.below {w w' : World} {base : Nat} {v : Value} {l : List UInt8} (h : OwnsB w base v l) (hb : Below w.heap.size w w') : OwnsB w' base v l := by
  obtain ⟨h1, h2⟩ := h
  refine ⟨h1, h2.imp id fun ⟨g, cap, cur, hv, hg, hh, r⟩ => ⟨g, cap, cur, hv, hg, ?_, r⟩⟩
  exact below_heap hb hh

theorem OwnsB.rd {w : World} {base : Nat} {v : Value} {l : List UInt8} (h : OwnsB w base v l) : RdB w v l := by
  obtain ⟨h1, h2⟩ := h
  rcases h2 with ⟨rfl, hl⟩ | ⟨g, cap, cur, rfl, _, hg, hcap, _, hs, ht⟩
  · refine .inl ⟨rfl, ?_⟩
    have := byteVals_len l
    rw [h1] at this
    first | exact List.eq_nil_of_length_eq_zero hl | (unfold byteVals at hl; simpa using hl)
  · refine .inr ⟨g, 0, l.length, cap, rfl, rfl, (Array.getElem?_eq_some_iff.1 hg).1, fun i x hi => ?_⟩
    have h3 : (cur.toList.take (l.length * 1))[i]? = some (.int .u8 (x.toNat : Int)) := by rw [ht]; exact byteVals_at hi
    have hi' : i < l.length := (List.getElem?_eq_some_iff.1 hi).1
    rw [List.getElem?_take_of_lt (by omega)] at h3
    rw [Nat.zero_add]
    simp only [World.cell?, hg]
    simpa using h3

/-- Bytes appended onto a row of the call's own. -/
theorem wpList_pushB {ops : Array Oper} {rest : List Oper} {o : Oper} {a : Act} {Q : Exit → Act → World → Prop} (w : World) (hgd : o.guard = none) (s x : Operand)
    (ho : o.op = .call { callee := .builtin .append, args := #[s, x], argTypes := #[94, 94] }) (base : Nat) (v : Value) (l : List UInt8) (hs : a.eval s = v) (hown : OwnsB w base v l) (ad : Addr) (m c : Nat) (k : List UInt8)
    (hx : a.eval x = .slice (some ad) m c) (hk : k.length = m) (hc : ∀ (j : Nat) (b : UInt8), k[j]? = some b → w.cell? (ad.add j) = some (.int .u8 (b.toNat : Int))) (hl : l.length ≤ 100000) (hm : m ≤ 100000) (hb : base ≤ w.heap.size)
    (h : ∀ v' w', OwnsB w' base v' (l ++ k) → w.grownBy w' v.ownBlock → (v' = .slice none 0 0 ↔ v = .slice none 0 0 ∧ m = 0) → (∀ B w0, B ≤ base → Below B w0 w → B ≤ w.heap.size → Below B w0 w') → wpList Tryz.prog ops Q rest (a.put o.dst v') w') : wpList Tryz.prog ops Q (o :: rest) a w := by
  obtain ⟨i0, hi, hz0, hz1, hz2⟩ := info_parts Tryz.infoByte
  refine wpList_append_own w hgd s x 94 ho base 5 i0 (.int .u8 0) 1 1 Tryz.underlying94 hi hz0 hz1 hz2 rfl (by decide) v l.length _ hs hown ad m c (byteVals k) hx (by rw [byteVals_len, hk, Nat.mul_one]) ?_ ?_ (by unfold maxLen; omega) (by omega) hb ?_
  · intro j u hj
    unfold byteVals at hj
    rw [List.getElem?_map] at hj
    cases hkj : k[j]? with
    | none => rw [hkj] at hj; simp at hj
    | some b => rw [hkj] at hj; simp at hj; subst hj; exact hc j b hkj
  · intro u hu
    obtain ⟨b, _, rfl⟩ := List.mem_map.1 hu
    rfl
  · intro v' w' hown' hgrow hnil
    refine h v' w' (by unfold OwnsB; rw [List.length_append, hk, byteVals_append]; exact hown') hgrow hnil fun B w0 hB hbel hB2 => hbel.grown hgrow hB2 fun j hj => ?_
    exact Nat.le_trans hB (World.ownsRow.lt hown j hj).1

/-- A slice of bytes as a string. -/
theorem string_of {w : World} {v : Value} {l : List UInt8} (h : RdB w v l) : (convert 94 9 v).run Tryz.prog w = .ok (.string ⟨l.toArray⟩) w := by
  rcases h with ⟨rfl, rfl⟩ | ⟨b, o, n, cap, rfl, rfl, hlt, hc⟩
  · rw [run_convert_bytes_string w _ _ _ _ _ _ Tryz.underlying94 Tryz.underlying5 Tryz.underlying9]
    rfl
  · refine run_convert_bytes_back w _ _ _ ⟨b, o, none⟩ cap l Tryz.underlying94 Tryz.underlying5 Tryz.underlying9 fun j hj => ?_
    rw [add_at]; exact hc j _ (List.getElem?_eq_getElem hj)

theorem by0_mk (l : List UInt8) : by0 ⟨l.toArray⟩ = l := by simp [by0]

end Go.Proofs.YtepacminjfeliaaGreatDoor

/-
  The document's answer: a number's decimals. The number has 1000 limbs at most.
-/
namespace Go.Proofs.YtepacminjfeliaaGreatDoor
open Go.RowKit

/-- What Text answers: the right decimals of N. -/
def Texted (w : World) (N : Nat) (e : Ending) (w' : World) : Prop :=
  ∃ s : ByteArray, e = .returned (.string s) ∧ Dec (by0 s) ∧ num (by0 s) = N ∧ Below w.heap.size w w'

/-- The byte of a digit. -/
def digit (n : Nat) : UInt8 := UInt8.ofNat (48 + n % 10)

theorem digit_nat (n : Nat) : (digit n).toNat = 48 + n % 10 := by
  unfold digit
  rw [UInt8.toNat_ofNat']
  omega

theorem digit_dg (n : Nat) : dg (digit n) = n % 10 := by unfold dg; rw [digit_nat]; omega

/-- In the first loop: digits behind the back, the last one first. -/
def BackAt (N X : Nat) (B : List UInt8) : Prop := Digs B ∧ N = X * 10 ^ B.length + num B.reverse ∧ (X = 0 → B ≠ [] ∧ B.reverse.head? ≠ some 48)

theorem BackAt.step {N X : Nat} {B : List UInt8} (h : BackAt N X B) (hX : 0 < X) : BackAt N (X / 10) (B ++ [digit X]) := by
  obtain ⟨h1, h2, h3⟩ := h
  refine ⟨h1.append (Digs.one (by rw [digit_nat]; omega) (by rw [digit_nat]; omega)), ?_, fun h0 => ⟨by simp, ?_⟩⟩
  · rw [List.reverse_append, List.reverse_singleton, List.singleton_append, num_cons, digit_dg, List.length_append, List.length_reverse, List.length_singleton, h2, Nat.pow_succ, ← Nat.add_assoc]
    congr 1
    rw [Nat.mul_comm (10 ^ B.length) 10, ← Nat.mul_assoc, ← Nat.add_mul]
    congr 1
    omega
  · rw [List.reverse_append, List.reverse_singleton, List.singleton_append, List.head?_cons]
    intro h
    have : (digit X).toNat = 48 := by rw [Option.some.inj h]; rfl
    rw [digit_nat] at this
    omega

theorem BackAt.dec {N : Nat} {B : List UInt8} (h : BackAt N 0 B) : Dec B.reverse ∧ num B.reverse = N := by
  obtain ⟨h1, h2, h3⟩ := h
  obtain ⟨h4, h5⟩ := h3 rfl
  exact ⟨⟨fun b hb => h1 b (List.mem_reverse.1 hb), by simpa using h4, fun _ => h5⟩, by omega⟩

theorem BackAt.len {N X k : Nat} {B : List UInt8} (h : BackAt N X B) (hX : 0 < X) (hN : N < 10 ^ k) : B.length < k := by
  rcases Nat.lt_or_ge B.length k with h1 | h1
  · exact h1
  · have h2 := ten_le h1
    have : 1 * 10 ^ B.length ≤ X * 10 ^ B.length := Nat.mul_le_mul_right _ hX
    have := h.2.1
    omega

theorem rev_step {B : List UInt8} {i : Nat} {b : UInt8} (h : B[i]? = some b) : (B.drop i).reverse = (B.drop (i + 1)).reverse ++ [b] := by
  obtain ⟨hi, e⟩ := List.getElem?_eq_some_iff.1 h
  rw [List.drop_eq_getElem_cons hi, List.reverse_cons, e]

/-- In the second loop. -/
def FrontAt (w : World) (B : List UInt8) (k : Nat) (v : Value) (wr : World) : Prop :=
  OwnsB wr w.heap.size v (B.drop k).reverse ∧ Below w.heap.size w wr

theorem Owns.grown {w w' : World} {base : Nat} {v : Value} {l : List Nat} {r : Option Nat} (h : Owns w base v l) (hg : w.grownBy w' r) (hr : ∀ j, r = some j → j < base) : Owns w' base v l := by
  obtain ⟨h1, h2⟩ := h
  refine ⟨h1, h2.imp id fun ⟨g, cap, cur, hv, hb, hh, k⟩ => ⟨g, cap, cur, hv, hb, ?_, k⟩⟩
  rw [hg.block g (lt_heap hh) (fun e => by have := hr g e.symm; omega)]
  exact hh

def TextAt (w : World) (N : Nat) (m : Nat) (v u : Value) (wr : World) : Prop :=
  ∃ ad n cap X B, v = .slice ad n cap ∧ Rd wr (.slice ad n cap) X ∧ Can X ∧ val X = m ∧ OwnsB wr w.heap.size u B ∧ BackAt N m B ∧ Below w.heap.size w wr

set_option maxRecDepth 100000 in
set_option maxHeartbeats 4000000 in
theorem rtext_any {w : World} {va : Value} {a : List Nat} (ra : Rd w va a) (la : a.length ≤ 1000) : Calls Tryz.prog 61 #[va] w (Texted w (val a)) := by
  obtain ⟨ada, na, ca, rfl, -⟩ := id ra
  obtain ⟨K, hK, hsm⟩ : ∃ K, K ≤ 10000 ∧ val a < 10 ^ K := ⟨10 * a.length, by omega, Nat.lt_of_lt_of_le (val_lt a ra.lim) (pw_ten a.length)⟩
  have HSM := Lib.hid hsm
  clear hsm
  have hlen := val_lt a ra.lim
  have HLEN := Lib.hid hlen; clear hlen
  go_enter Tryz.func61, Tryz.ntmps61
  go_wp2_with fail
  refine (rnorm_any ra (by omega)).mono ?_
  rintro e w1 ⟨ad1, n1, cap1, l1, rfl, -, r1, k1, v1, hb1⟩
  have hn1 := r1.open.1
  have HN1 := Lib.hid hn1; clear hn1
  have V1 := Lib.hid v1; clear v1
  by_cases hz : n1 = 0
  · subst hz
    have : val a = 0 := by rw [← V1.out, List.eq_nil_of_length_eq_zero HN1.out.symm]; rfl
    have H0 := Lib.hid this
    clear this
    go_wp2
    go_ret
    exact ⟨⟨#[48]⟩, rfl, Dec.zero, by rw [H0.out]; rfl, hb1⟩
  · have hz1 : ((n1 : Int) == 0) = false := by simp; omega
    have hpos : 0 < val a := by rw [← V1.out]; exact can_pos k1 (k := n1 - 1) (by have := HN1.out; omega)
    have HP := Lib.hid hpos
    clear hpos hz
    have hat : TextAt w (val a) (val a) (.slice ad1 n1 cap1) (.slice none 0 0) w1 := ⟨ad1, n1, cap1, l1, [], rfl, r1, k1, V1.out, OwnsB.nil _ _, ⟨Digs.nil, by simp [num], fun h => by have := HP.out; omega⟩, hb1⟩
    have HAT := Lib.hid hat
    clear hat r1 hb1
    go_wp2_with fail
    go_loopg [3, 4] (val a) (fun m v u wr => TextAt w (val a) m v u wr)
    case atStart => exact HAT.out
    case round =>
      clear HAT
      obtain ⟨ad, n, cap, X, B, rfl, rX, cX, hX, hO, hB, hbel⟩ := hrel
      have hn := rX.open.1
      have HN := Lib.hid hn; clear hn
      by_cases h0 : n = 0
      · subst h0
        have hm0 : gk = 0 := by rw [← hX, List.eq_nil_of_length_eq_zero HN.out.symm]; rfl
        subst hm0
        have hdec := hB.dec
        have HDEC := Lib.hid hdec
        have hBl : B.length ≤ K := by
          have h1 := num_lt HDEC.out.1.1
          rw [HDEC.out.2, List.length_reverse] at h1
          have h2 := HDEC.out.1.len (k := max K 1) (by rw [HDEC.out.2]; exact Nat.lt_of_lt_of_le HSM.out (ten_le (by omega))) (by omega)
          rw [List.length_reverse] at h2
          have h3 := HDEC.out.1.pos
          rw [List.length_reverse] at h3
          by_cases hK0 : K = 0
          · subst hK0
            have := HSM.out
            have := HP.out
            omega
          · omega
        obtain ⟨adb, nb, cb, e⟩ : ∃ ad n cap, u4 = .slice ad n cap := by
          rcases hO.rd with ⟨e, _⟩ | ⟨b, o, n, cap, e, _⟩
          · exact ⟨_, _, _, e⟩
          · exact ⟨_, _, _, e⟩
        subst e
        have hrd := hO.rd
        have hnb : nb = B.length := by
          rcases hrd with ⟨e, rfl⟩ | ⟨b, o, n, cap, e, hn, _⟩
          · simp only [Value.slice.injEq] at e; exact e.2.1
          · simp only [Value.slice.injEq] at e; rw [e.2.1]; exact hn
        have hnb2 : nb ≤ 10000 := by omega
        have HNB := Lib.hid hnb
        have HRD := Lib.hid hrd
        have HBEL := Lib.hid hbel
        obtain ⟨W, hW⟩ : ∃ W, W = wr := ⟨_, rfl⟩
        subst hW
        have hat : FrontAt W B nb (.slice none 0 0) W := ⟨by rw [List.drop_of_length_le (by rw [HNB.out]; exact Nat.le_refl _)]; exact OwnsB.nil _ _, Below.refl _ _⟩
        have HAT := Lib.hid hat
        clear hat hnb hrd hO hbel
        go_wp2_with fail
        go_loopw [7, 8] (fun v i wx => ∃ k : Nat, i = .int .i64 ((k : Int) - 1) ∧ k ≤ nb ∧ FrontAt W B k v wx) (fun _ i _ => (intOf i + 1).toNat)
        case atStart => exact ⟨nb, by go_num, Nat.le_refl _, HAT.out⟩
        case round =>
          obtain ⟨k0, rfl, hk, hO2, hbel2⟩ := hrel
          clear HAT
          by_cases h0 : k0 = 0
          · subst h0
            rw [List.drop_zero] at hO2
            have hconv := string_of hO2.rd
            go_wp2
            go_ret
            exact ⟨_, rfl, by rw [by0_mk]; exact HDEC.out.1, by rw [by0_mk]; exact HDEC.out.2, onto HBEL.out hbel2⟩
          · obtain ⟨k, rfl⟩ : ∃ k, k0 = k + 1 := ⟨k0 - 1, by omega⟩
            clear h0
            have e0 : ((k + 1 : Nat) : Int) - 1 = (k : Int) := by omega
            rw [e0]
            obtain ⟨x, hx⟩ : ∃ x, B[k]? = some x := ⟨_, List.getElem?_eq_getElem (by have := HNB.out; omega)⟩
            rcases HRD.out.below hbel2 with ⟨_, e⟩ | ⟨b, o, n, cap, e, hn, hlt, hc⟩
            · rw [e] at hx; simp at hx
            · simp only [Value.slice.injEq] at e
              obtain ⟨rfl, rfl, rfl⟩ := e
              have hcx := hc k x hx
              have hrev := rev_step hx
              have HREV := Lib.hid hrev
              have hsz := hbel2.size
              have HO4 := Lib.hid (hO2.alloc (.cells #[.int .u8 (x.toNat : Int)] 5))
              clear hc hrev hO2 hx hn
              go_wp2_with (at_builtin; refine wpList_pushB _ rfl _ _ rfl W.heap.size _ _ rfl HO4.out ⟨wr.heap.size, 0, none⟩ 1 1 [x] rfl rfl ?_ (by simp; omega) (by omega) (by simp; omega) ?_)
              · intro j b hj
                match j, hj with
                | 0, hj =>
                  obtain rfl : x = b := by simpa using hj
                  exact one_cell _ _ _
              intro v' w4 hO5 _ _ hb4
              have hbel4 := hb4 W.heap.size W (Nat.le_refl _) (hbel2.alloc hsz _) (by first | omega | (simp; omega))
              go_wp2
              go_roundw
              case rel => exact ⟨k, rfl, by omega, by rw [HREV.out]; exact hO5, hbel4⟩
              case measure => simp [intOf]
      · have hz2 : ((n : Int) == 0) = false := by simp; omega
        have hp2 : (0 : Int) < n := by omega
        have hmpos : 0 < gk := by rw [← hX]; exact can_pos cX (k := n - 1) (by have := HN.out; omega)
        have hB2 := hB.step hmpos
        have hBl := hB.len hmpos HSM.out
        have hXl : X.length ≤ 1000 := by
          have h1 : gk ≤ val a := by
            rw [hB.2.1]
            have := Nat.mul_le_mul_left gk (ten_pos B.length)
            omega
          exact cX.len (k := 1000) (Nat.lt_of_le_of_lt (by rw [hX]; exact h1) (Nat.lt_of_lt_of_le HLEN.out (pw_le la)))
        have HB2 := Lib.hid hB2
        have HX := Lib.hid hX
        clear hB hB2 hX
        go_wp2_with fail
        refine (tenth_any rX (by omega)).mono ?_
        rintro e w3 ⟨ad3, n3, cap3, l3, rfl, o3, r3, k3, v3, hb3⟩
        have hu := fun j hj => (World.ownsRow.lt hO j hj).2
        have HU := Lib.hid hu
        rw [HX.out] at v3 ⊢
        have V3 := Lib.hid v3
        have hO3 := hO.below hb3
        have hbel3 := onto hbel hb3
        have hsz := hbel3.size
        have HO4 := Lib.hid (hO3.alloc (.cells #[.int .u8 (48 + (gk : Int) % 10)] 5))
        clear v3 hb3 hO hbel hO3 hu
        go_wp2_with (at_builtin; refine wpList_pushB _ rfl _ _ rfl w.heap.size _ B rfl HO4.out ⟨w3.heap.size, 0, none⟩ 1 1 [digit gk] rfl rfl ?_ (by omega) (by omega) (by simp; omega) ?_)
        · intro j b hj
          match j, hj with
          | 0, hj =>
            obtain rfl : digit gk = b := by simpa using hj
            rw [digit_nat]
            exact one_cell _ _ _
        intro v' w4 hO5 hg5 _ hb4
        have hbel4 := hb4 w.heap.size w (Nat.le_refl _) (hbel3.alloc hsz _) (by first | omega | (simp; omega))
        obtain ⟨_, _, _, e5, r4⟩ := ((o3.alloc (.cells #[.int .u8 (48 + (gk : Int) % 10)] 5)).grown hg5 HU.out).rd k3.1
        simp only [Value.slice.injEq] at e5
        obtain ⟨rfl, rfl, rfl⟩ := e5
        clear hg5 hb4 o3 r3 rX cX hbel3
        go_wp2
        go_roundg (gk / 10)
        case rel => exact (show TextAt w (val a) (gk / 10) _ _ _ from ⟨ad3, n3, cap3, l3, _, rfl, r4, k3, V3.out, hO5, HB2.out, hbel4⟩)
        case measure => omega

end Go.Proofs.YtepacminjfeliaaGreatDoor

/-
  nat.Div once more: how often one number is in another lies in memory of the call's own. The numbers have 1000 limbs at most.
-/
namespace Go.Proofs.YtepacminjfeliaaGreatDoor
open Go.RowKit

/-- What short answers, with the place: the same memory, read in short. -/
theorem short_at {w : World} {ad : Option Addr} {n cap : Nat} {l : List Nat} (h : Rd w (.slice ad n cap) l) (hl : l.length ≤ 1000000) :
    Calls Tryz.prog 88 #[.slice ad n cap] w fun e w' => (∃ k l', e = .returned (.slice ad k cap) ∧ Rd w (.slice ad k cap) l' ∧ Can l' ∧ val l' = val l) ∧ w = w' := by
  obtain ⟨ad', n', cap', e, hn, hcap, hx, hr⟩ := h
  simp only [Value.slice.injEq] at e
  obtain ⟨rfl, rfl, rfl⟩ := e
  by_cases h0 : 0 < n
  · obtain ⟨b, o, rfl, hb, hcell⟩ := hr h0
    refine (short_some b o n cap l w (by omega) hcap fun i hi => hcell i _ ?_).mono ?_
    · unfold at0; rw [List.getD_eq_getElem?_getD, List.getElem?_eq_getElem (by omega)]; rfl
    · rintro e w' ⟨⟨k, rfl, hk, hz, hl0⟩, rfl⟩
      obtain ⟨c1, c2, c3⟩ := cut_can hn hx hk hz hl0
      refine ⟨⟨k, l.take k, rfl, ⟨_, k, cap, rfl, c3.symm, by omega, c1.1, fun _ => ⟨b, o, rfl, hb, fun i x hi => hcell i x ?_⟩⟩, c1, c2⟩, rfl⟩
      have : i < k := by
        have := (List.getElem?_eq_some_iff.1 hi).1
        omega
      rwa [List.getElem?_take_of_lt this] at hi
  · obtain rfl : n = 0 := by omega
    refine (short_none ad cap w).mono ?_
    rintro e w' ⟨rfl, rfl⟩
    obtain rfl : l = [] := List.eq_nil_of_length_eq_zero hn.symm
    exact ⟨⟨0, [], rfl, ⟨ad, 0, cap, rfl, rfl, Nat.zero_le _, hx, fun h => absurd h (by omega)⟩, Can.nil, rfl⟩, rfl⟩

/-- What Div answers, with the place of the first number. -/
def DivedNew (w : World) (A B : Nat) (e : Ending) (w' : World) : Prop :=
  B = 0 ∨ ∃ g n cap l ad2 n2 cap2 l2, w.heap.size ≤ g ∧ e = .returned (.tuple #[.slice (some ⟨g, 0, none⟩) n cap, .slice ad2 n2 cap2, .bool true]) ∧ Rd w' (.slice (some ⟨g, 0, none⟩) n cap) l ∧ Can l ∧ val l = A / B ∧ Rd w' (.slice ad2 n2 cap2) l2 ∧ Can l2 ∧ val l2 = A % B ∧ Below w.heap.size w w'

set_option maxRecDepth 100000 in
set_option maxHeartbeats 4000000 in
theorem div_new {w : World} {va vb : Value} {a b : List Nat} (ha : Rd w va a) (hb : Rd w vb b) (la : a.length ≤ 1000) (lb : b.length ≤ 1000) :
    Calls Tryz.prog 78 #[va, vb] w (DivedNew w (val a) (val b)) := by
  obtain ⟨i0, hi, hz0, hz1, hz2⟩ := info_parts Tryz.info36
  have HRA := Lib.hid ha; clear ha
  have HLA := Lib.hid la; clear la
  go_enter Tryz.func78, Tryz.ntmps78
  go_wp2_with fail
  refine (short_any hb (by omega)).mono ?_
  rintro e w1 ⟨⟨adb, k0, cb, l, rfl, hrl, hcl, hvl⟩, rfl⟩
  have hll : l.length ≤ b.length := hcl.len (by rw [hvl]; exact val_lt b hb.lim)
  obtain ⟨hk0, hcb, hliml, hcell⟩ := hrl.open
  have lk0 : k0 ≤ 1000 := by omega
  clear hll lb
  have HVL := Lib.hid hvl; clear hvl
  have HK0 := Lib.hid hk0; clear hk0
  have HCE := Lib.hid hcell; clear hcell
  by_cases h0 : k0 = 0
  · subst h0
    go_wp2
    go_ret3
    refine .inl ?_
    rw [← HVL.out, List.eq_nil_of_length_eq_zero HK0.out.symm]; rfl
  · obtain ⟨k, rfl⟩ : ∃ k, k0 = k + 1 := ⟨k0 - 1, by omega⟩
    clear h0
    obtain ⟨b1, o1, rfl, hb1, hc1⟩ := HCE.out (by omega)
    have hx1 := hc1 k (by omega)
    clear hc1
    have hz0' : 0 < at0 l k := by
      have := hcl.2 (by have := HK0.out; omega)
      rw [← HK0.out, Nat.add_sub_cancel] at this
      omega
    have hz1' := at0_lt hliml k
    obtain ⟨z, hz⟩ : ∃ z, z = at0 l k := ⟨_, rfl⟩
    rw [← hz] at hx1 hz0' hz1'
    have HZ := Lib.hid hz; clear hz
    go_wp2_with fail
    refine (lead_any z w hz1' hz0').mono ?_
    rintro e w1 ⟨⟨s, rfl, hup⟩, rfl⟩
    have HUP := Lib.hid hup; clear hup
    have hs : s ≤ 31 := HUP.out.1
    go_wp2_with fail
    refine (shift_any hrl (by have := HK0.out; omega) s (by omega)).mono ?_
    rintro e w1 ⟨g1, l1, hg1, rfl, hblk1, hlim1, hlen1, hval1, hbel1⟩
    rw [← HK0.out] at hlen1 ⊢
    have HL1 := Lib.hid hlen1; clear hlen1
    have HV1 := Lib.hid hval1; clear hval1
    go_wp2_with fail
    refine (short_any (hblk1.rd hlim1 HL1.out (Nat.le_refl _)) (by have := HL1.out; omega)).mono ?_
    rintro e w2 ⟨⟨ady, n, cy, y, rfl, hry, hcy, hvy⟩, rfl⟩
    have hdu := div_up hcl HK0.out.symm (by rw [← HZ.out]; exact HUP.out) hcy (hvy.trans HV1.out)
    obtain ⟨hn0, hcyc, hlimy, hcelly⟩ := hry.open
    obtain rfl : n = k + 1 := by omega
    obtain ⟨b2, o2, rfl, hb2, hc2⟩ := hcelly (by omega)
    clear hc2 hn0
    have HDU := Lib.hid hdu; clear hdu
    have HVY := Lib.hid (hvy.trans HV1.out); clear hvy
    have HRA1 := Lib.hid (HRA.out.below hbel1)
    go_wp2_with fail
    refine (shift_any HRA1.out (by have := HLA.out; omega) s (by omega)).mono ?_
    rintro e w2 ⟨g2, L0, hg2, rfl, hblk2, hlim2, hlen2, hval2, hbel2⟩
    obtain ⟨N, hN⟩ : ∃ N, N = a.length + 1 := ⟨_, rfl⟩
    rw [← hN] at hlen2 ⊢
    have hN2 : N ≤ 1001 := by have := HLA.out; omega
    have hN3 : 1 ≤ N := by omega
    have HN := Lib.hid hN; clear hN
    have hst : DivNum (2 ^ s * val a) (2 ^ s * val l) N (k + 1) (N - (k + 1)) L0 (List.replicate (N - (k + 1)) 0) :=
      DivNum.start hs hlim2 hlen2 HN.out hval2 (val_lt a HRA.out.lim) (by omega) (by rw [Nat.add_sub_cancel]; exact HDU.out.2.1)
    rw [← HVY.out] at hst
    obtain ⟨M, hM⟩ : ∃ M, M = N - (k + 1) := ⟨_, rfl⟩
    rw [← hM] at hst
    have HST := Lib.hid hst; clear hst
    have HM := Lib.hid hM
    have hM2 : M ≤ 1001 := by omega
    have hM3 : M + (k + 1) ≤ N ∨ (M = 0 ∧ N ≤ k + 1) := by omega
    have HM3 := Lib.hid hM3; clear hM3
    clear hlen2 hval2
    have hm1 : (M : Int) ≤ max 0 ((N : Int) - ((k : Int) + 1)) := by omega
    have hm2 : max 0 ((N : Int) - ((k : Int) + 1)) ≤ (M : Int) := by omega
    clear hM hcelly
    go_wp2_with (at_make; refine wpList_make_full _ rfl _ _ 38 rfl w2.heap.size 75 i0 (.int .u32 0) 1 Tryz.underlying38 hi hz0 hz1 _ _ _ _ M rfl rfl (by omega) (by omega) (by rw [hz2]; omega) (by unfold maxLen; omega) (Nat.le_refl _) ?_)
    intro w3 hown hgrow
    have hat0 : DivAt w1 g2 w2.heap.size (2 ^ s * val a) (val y) N (k + 1) M w3 := by
      refine ⟨L0, List.replicate M 0, (hgrow.block g2 hblk2.lt (by simp)).trans hblk2, made_row hown, HST.out, ?_⟩
      exact hbel2.grown hgrow hbel2.size (by simp)
    have HAT0 := Lib.hid hat0; clear hat0
    have hg23 : g2 < w2.heap.size := hblk2.lt
    have hw12 : w1.heap.size ≤ w2.heap.size := hbel2.size
    obtain ⟨g3, hg3⟩ : ∃ g3, g3 = w2.heap.size := ⟨_, rfl⟩
    rw [← hg3] at HAT0 hg23 hw12 ⊢
    clear hown hgrow hm1 hm2 hx1 hblk2 hlim2 hbel2
    have HG3 := Lib.hid hg3; clear hg3
    go_wp2_with fail
    go_loopw [11] (fun t wr => ∃ i : Int, t = .int .i64 i ∧ -1 ≤ i ∧ i < M ∧ DivAt w1 g2 g3 (2 ^ s * val a) (val y) N (k + 1) (i + 1).toNat wr) (fun t _ => (intOf t + 1).toNat)
    case atStart => exact ⟨(M : Int) - 1, rfl, by omega, by omega, by rw [show ((M : Int) - 1 + 1).toNat = M from by omega]; exact HAT0.out⟩
    case round =>
      obtain ⟨i, rfl, hi1, hi2, hat⟩ := hrel
      by_cases h0 : 0 ≤ i
      · obtain ⟨j, rfl⟩ := Int.eq_ofNat_of_zero_le h0
        rw [show ((j : Int) + 1).toNat = j + 1 from by omega] at hat
        have hj : j < M := by omega
        have hj2 : j + (k + 1) + 1 ≤ N := by have := HM3.out; omega
        have HAT := Lib.hid hat; clear hat
        go_wp2_with fail
        refine (div_take (Nat.ne_of_lt hg23) hg2 hw12 hb2 HAT.out hj2 (by omega) (by omega) (by omega) (by omega) hry hcy).mono ?_
        rintro e w4 ⟨q, rfl, ⟨v, hv⟩, hf, hat'⟩
        have HAT' := Lib.hid hat'; clear hat'
        go_wp2
        go_roundw
        case rel => exact ⟨(j : Int) - 1, rfl, by omega, by omega, by rw [show ((j : Int) - 1 + 1).toNat = j from by omega]; exact HAT'.out⟩
        case measure => simp [intOf]
      · obtain rfl : i = -1 := by omega
        have HAT := Lib.hid hat; clear hat
        obtain ⟨s', hs'⟩ : ∃ s' : Nat, s' + s = 32 := ⟨32 - s, by omega⟩
        have e1 : (32 : Int) - (s : Int) = (s' : Int) := by omega
        have HS := Lib.hid hs'; clear hs'
        obtain ⟨L, Q, hL, hQ, hd, hbel⟩ := HAT.out
        clear HAT HAT0 HST
        have hd0 : DivNum (2 ^ s * val a) (val y) N (k + 1) 0 L Q := hd
        clear hd
        have hlenL := hd0.lenL
        have hlenQ := hd0.lenQ
        rw [← HM.out] at hlenQ
        have hrL := hL.rd hd0.limL hlenL (Nat.le_refl N)
        have hrQ := hQ.rd hd0.limQ hlenQ (Nat.le_refl M)
        have hvals := HVY.out ▸ hd0
        have hdone := DivNum.done hvals (can_pos hcl HK0.out)
        rw [HVL.out] at hdone
        have HD := Lib.hid hdone; clear hdone hvals
        have HLL := Lib.hid hlenL; clear hlenL
        have HLQ := Lib.hid hlenQ; clear hlenQ
        have HD0 := Lib.hid hd0; clear hd0
        go_wp2_with fail
        refine (shift_any hrL (by have := HLL.out; omega) s' (by have := HS.out; omega)).mono ?_
        rintro e w5 ⟨g5, l5, hg5, rfl, hb5, hlim5, hlen5, hval5, hbel5⟩
        rw [HLL.out] at hlen5 ⊢
        have htl := tail_val hlim5 (by omega) (R := val a % val b) (by rw [hval5, HD.out.2, ← Nat.mul_assoc, ← Nat.pow_add, HS.out])
        have hr5 := hb5.tail_rd hlim5 hlen5 (Nat.le_refl N)
        have hrQ5 := hrQ.below hbel5
        have HL5 := Lib.hid hlen5; clear hlen5
        have HV5 := Lib.hid hval5; clear hval5
        have HTL := Lib.hid htl; clear htl
        go_wp2_with fail
        refine (short_at hrQ5 (by have := HLQ.out; omega)).mono ?_
        rintro e w6 ⟨⟨nq, q', rfl, hrq, hcq, hvq⟩, rfl⟩
        have HVQ := Lib.hid hvq; clear hvq
        go_wp2_with fail
        refine (short_any hr5 (by have := HTL.out.2.2; have := HL5.out; omega)).mono ?_
        rintro e w6 ⟨⟨adr, nr, cr, r', rfl, hrr, hcr, hvr⟩, rfl⟩
        have HVR := Lib.hid hvr; clear hvr
        go_wp2
        go_ret3
        have hbl : Below w.heap.size w w5 := hbel1.trans ((hbel.mono hbel1.size).trans (hbel5.mono (Nat.le_trans hbel1.size hbel.size)))
        exact .inr ⟨g3, nq, _, q', adr, nr, cr, r', Nat.le_trans hbel1.size hw12, rfl, hrq, hcq, HVQ.out.trans HD.out.1, hrr, hcr, HVR.out.trans HTL.out.1, hbl⟩

end Go.Proofs.YtepacminjfeliaaGreatDoor

/-
  The program's nines: a number's digits, nine in each, the lowest first. The number has 200 limbs at most.
-/
namespace Go.Proofs.YtepacminjfeliaaGreatDoor
open Go.RowKit

set_option maxRecDepth 100000 in
set_option maxHeartbeats 400000 in
theorem dlimb_any {w : World} {v : Value} {l : List Nat} (h : Rd w v l) : Calls Tryz.prog 112 #[v] w fun e w' => e = .returned (.int .u32 (at0 l 0 : Int)) ∧ w = w' := by
  obtain ⟨ad, n, cap, rfl, -⟩ := id h
  obtain ⟨hn, hcap, hx, hr⟩ := h.open
  by_cases h0 : n = 0
  · subst h0
    have e : at0 l 0 = 0 := by rw [List.eq_nil_of_length_eq_zero hn.symm]; rfl
    rw [e]
    clear hr hx hn
    go_enter Tryz.func112, Tryz.ntmps112
    go_wp2
    go_ret
    exact ⟨rfl, rfl⟩
  · obtain ⟨b, o, rfl, hb, hcell⟩ := hr (by omega)
    have hc := hcell 0 (by omega)
    rw [Nat.add_zero] at hc
    have hz : ((n : Int) == 0) = false := by simp; omega
    have h1 : 0 < n := by omega
    clear hcell hr
    go_enter Tryz.func112, Tryz.ntmps112
    go_wp2
    go_ret
    exact ⟨rfl, rfl⟩

theorem Owns.below {w w' : World} {base : Nat} {v : Value} {l : List Nat} (h : Owns w base v l) (hb : Below w.heap.size w w') : Owns w' base v l := by
  obtain ⟨h1, h2⟩ := h
  refine ⟨h1, h2.imp id fun ⟨g, cap, cur, hv, hg, hh, r⟩ => ⟨g, cap, cur, hv, hg, ?_, r⟩⟩
  exact below_heap hb hh

theorem Rd.grownOver {w w' : World} {b o n cap : Nat} {l : List Nat} {r : Option Nat} (h : Rd w (.slice (some ⟨b, o, none⟩) n cap) l) (hg : w.grownBy w' r) (hr : ∀ j, r = some j → j < b) : Rd w' (.slice (some ⟨b, o, none⟩) n cap) l := by
  obtain ⟨ad, n', cap', e, hn, hcap, hlim, hc⟩ := h
  simp only [Value.slice.injEq] at e
  obtain ⟨rfl, rfl, rfl⟩ := e
  refine ⟨_, n, cap, rfl, hn, hcap, hlim, fun h0 => ?_⟩
  obtain ⟨b', o', e, hb, hcell⟩ := hc h0
  obtain ⟨rfl, rfl⟩ : b = b' ∧ o = o' := by simpa using e
  refine ⟨b, o, rfl, Nat.lt_of_lt_of_le hb hg.size, fun i x hi => ?_⟩
  rw [World.cell?_of_block (a := ⟨b, o + i, none⟩) (hg.block b hb fun e => by have := hr b e.symm; omega)]
  exact hcell i x hi

/-- append of one limb onto a row of the call's own, with what else is kept. -/
theorem wpList_pushG {ops : Array Oper} {rest : List Oper} {o : Oper} {a : Act} {Q : Exit → Act → World → Prop} (w : World) (hgd : o.guard = none) (s x : Operand)
    (ho : o.op = .call { callee := .builtin .append, args := #[s, x], argTypes := #[38, 38] }) (base : Nat) (v : Value) (l : List Nat) (hs : a.eval s = v) (hown : Owns w base v l) (g : Nat) (k : Nat)
    (hx : a.eval x = .slice (some ⟨g, 0, none⟩) 1 1) (hc : w.cell? ⟨g, 0, none⟩ = some (.int .u32 (k : Int))) (hl : l.length ≤ 1000000) (hb : base ≤ w.heap.size)
    (h : ∀ v' w', Owns w' base v' (l ++ [k]) → w.grownBy w' v.ownBlock → (∀ B w0, B ≤ base → Below B w0 w → B ≤ w.heap.size → Below B w0 w') → wpList Tryz.prog ops Q rest (a.put o.dst v') w') : wpList Tryz.prog ops Q (o :: rest) a w := by
  obtain ⟨i0, hi, hz0, hz1, hz2⟩ := info_parts Tryz.info36
  refine wpList_append_own w hgd s x 38 ho base 75 i0 (.int .u32 0) 1 4 Tryz.underlying38 hi hz0 hz1 hz2 rfl (by decide) v l.length _ hs hown ⟨g, 0, none⟩ 1 1 [.int .u32 (k : Int)] hx rfl ?_ ?_ (by unfold maxLen; omega) (by omega) hb ?_
  · intro j u hj
    match j, hj with
    | 0, hj => simp at hj; subst hj; simpa [Addr.add] using hc
  · intro u hu; simp at hu; subst hu; rfl
  · intro v' w' hown' hgrow _
    refine h v' w' (Owns.push rfl rfl hown') hgrow fun B w0 hB hbel hB2 => hbel.grown hgrow hB2 fun j hj => ?_
    exact Nat.le_trans hB (World.ownsRow.lt hown j hj).1

/-- In the loop of nines: m tells how much is left. -/
def NineAt (w : World) (N K : Nat) (m : Nat) (u v : Value) (wr : World) : Prop :=
  ∃ ad n cap X ns, v = .slice ad n cap ∧ Rd wr (.slice ad n cap) X ∧ X.length ≤ 200 ∧ (ns ≠ [] → Can X) ∧ m = 2 * val X + min 1 X.length ∧ Owns wr w.heap.size u ns ∧ (∀ x ∈ ns, x < 1000000000) ∧ N = bil ns + 1000000000 ^ ns.length * val X ∧ 9 * ns.length < K + 9 ∧ Below w.heap.size w wr

/-- What nines answers. -/
def Nined (w : World) (N K : Nat) (e : Ending) (w' : World) : Prop :=
  ∃ ad n cap ns, e = .returned (.slice ad n cap) ∧ Rd w' (.slice ad n cap) ns ∧ (∀ x ∈ ns, x < 1000000000) ∧ bil ns = N ∧ 9 * ns.length < K + 9 ∧ Below w.heap.size w w'

theorem at0_val {l : List Nat} (h : l.length ≤ 1) : at0 l 0 = val l := by
  match l, h with
  | [], _ => rfl
  | [x], _ => simp [at0, val]

set_option maxRecDepth 100000 in
set_option maxHeartbeats 4000000 in
theorem nines_any {w : World} {va : Value} {a : List Nat} (ra : Rd w va a) (la : a.length ≤ 200) {K : Nat} (hK : val a < 10 ^ K) (hK0 : 1 ≤ K) (hK1 : K ≤ 100000) : Calls Tryz.prog 80 #[va] w (Nined w (val a) K) := by
  obtain ⟨ada, na, ca, rfl, -⟩ := id ra
  have HK := Lib.hid hK
  clear hK
  go_enter Tryz.func80, Tryz.ntmps80
  go_wp2_with fail
  refine (of_any 1000000000 w (by decide) (by decide)).mono ?_
  rintro e w1 ⟨ad1, n1, cap1, l1, rfl, r1, k1, v1, hb1⟩
  have V1 := Lib.hid v1
  have q1 : l1.length ≤ 1 := k1.len (by rw [v1]; decide)
  have hat : NineAt w1 (val a) K (2 * val a + min 1 a.length) (.slice none 0 0) (.slice ada na ca) w1 :=
    ⟨ada, na, ca, a, [], rfl, ra.below hb1, la, fun h => absurd rfl h, rfl, Owns.nil _ _, fun x hx => by simp at hx, by simp [bil], by simp, Below.refl _ _⟩
  have HAT := Lib.hid hat
  clear hat ra v1
  go_wp2_with fail
  go_loopg [3, 5] (2 * val a + min 1 a.length) (fun m u v wr => NineAt w1 (val a) K m u v wr)
  case atStart => exact HAT.out
  case round =>
    clear HAT
    obtain ⟨ad, n, cap, X, ns, rfl, rX, hXl, hcan, hm, hO, hsm, hN, h9, hbel⟩ := hrel
    have hn := rX.open.1
    have HNN := Lib.hid hn
    by_cases h0 : n = 0
    · subst h0
      obtain ⟨adu, nu, cu, e, hr⟩ := hO.rd (fun x hx => by have := hsm x hx; omega)
      subst e
      have hX : val X = 0 := by rw [List.eq_nil_of_length_eq_zero hn.symm]; rfl
      rw [hX, Nat.mul_zero, Nat.add_zero] at hN
      have HN := Lib.hid hN
      clear hN hcan hm hO rX hn hX
      go_wp2
      go_ret
      exact ⟨adu, nu, cu, ns, rfl, hr, hsm, HN.out.symm, h9, onto hb1 hbel⟩
    · have hz2 : ((n : Int) == 0) = false := by simp; omega
      have hp2 : (0 : Int) < n := by omega
      have hstep := bil_step hN
      have hcount : 9 * (ns ++ [val X % 1000000000]).length < K + 9 := by
        rw [List.length_append, List.length_singleton]
        by_cases hns : ns = []
        · subst hns; simp; omega
        · have := bil_count hN (can_pos (hcan hns) (k := n - 1) (by omega)) HK.out
          omega
      have HST := Lib.hid hstep
      have HCT := Lib.hid hcount
      have HM := Lib.hid hm
      have h9' : ns.length ≤ 100000 := by omega
      clear hcan hN hstep hcount hm h9 hn
      have rb := r1.below hbel
      go_wp2_with fail
      refine (div_new rX rb (by omega) (by omega)).mono ?_
      rintro e w3 (h | ⟨g3, n3, cap3, l3, ad4, n4, cap4, l4, hg3, rfl, r3, k3, v3, r4, k4, v4, hb3⟩)
      · rw [V1.out] at h
        exact absurd h (by decide)
      rw [V1.out] at v3 v4
      have hv4 : val l4 = val X % 1000000000 := v4
      have hv3 : val l3 = val X / 1000000000 := v3
      have q4 : l4.length ≤ 1 := k4.len (by rw [hv4]; exact Nat.lt_of_lt_of_le (Nat.mod_lt _ (by decide)) (by decide))
      have q3 : l3.length ≤ 200 := by
        refine k3.len (Nat.lt_of_le_of_lt ?_ (val_small rX.lim hXl))
        rw [hv3]; exact Nat.div_le_self _ _
      have hlim4 := dlimb_any r4
      rw [at0_val q4, hv4] at hlim4
      have HL4 := Lib.hid hlim4
      have hu := fun j hj => (World.ownsRow.lt hO j hj).2
      have HU := Lib.hid hu
      have V3 := Lib.hid hv3
      have hO3 := hO.below hb3
      have hbel3 := onto hbel hb3
      have hsz := hbel3.size
      obtain ⟨d, hd⟩ : ∃ d, d = val X % 1000000000 := ⟨_, rfl⟩
      rw [← hd] at HL4 HST HCT
      have hd9 : d < 1000000000 := by rw [hd]; exact Nat.mod_lt _ (by decide)
      have HO4 := Lib.hid (hO3.alloc (.cells #[.int .u32 (d : Int)] 75))
      clear v3 v4 hv3 hv4 hb3 hO hbel hO3 hu hlim4 rX rb hd r4
      go_wp2_with fail
      refine HL4.out.mono ?_
      rintro e w' ⟨rfl, rfl⟩
      go_wp2_with (at_builtin; refine wpList_pushG _ rfl _ _ rfl w1.heap.size _ ns rfl HO4.out w3.heap.size d rfl (one_cell _ _ _) (by omega) (by simp; omega) ?_)
      intro v' w4 hO5 hg5 hb4
      have hbel4 := hb4 w1.heap.size w1 (Nat.le_refl _) (hbel3.alloc hsz _) (by first | omega | (simp; omega))
      have r5 := (r3.below (alb _ (.cells #[.int .u32 (d : Int)] 75))).grownOver hg5 (fun j hj => Nat.lt_of_lt_of_le (HU.out j hj) hg3)
      clear hb4 hg5 r3
      go_wp2
      go_roundg (2 * val l3 + min 1 l3.length)
      case rel => exact (show NineAt w1 (val a) K (2 * val l3 + min 1 l3.length) _ _ _ from ⟨some ⟨g3, 0, none⟩, n3, cap3, l3, _, rfl, r5, q3, fun _ => k3, rfl, hO5, fun x hx => by
        rcases List.mem_append.1 hx with h | h
        · exact hsm x h
        · simp at h; omega, by rw [V3.out]; exact HST.out, HCT.out, hbel4⟩)
      case measure =>
        have h1 := HM.out
        have h2 := V3.out
        have h3 := HNN.out
        have h4 : l3.length = 0 ∨ 0 < val l3 := by
          by_cases h : l3.length = 0
          · exact .inl h
          · exact .inr (can_pos k3 (k := l3.length - 1) (by omega))
        by_cases hv : val X = 0
        · have : l3.length = 0 := by rcases h4 with h4 | h4 <;> omega
          omega
        · omega

end Go.Proofs.YtepacminjfeliaaGreatDoor

/-
  strings.TrimLeft with the nought alone: the noughts ahead fall.
-/
namespace Go.Proofs.YtepacminjfeliaaGreatDoor
open Go.RowKit

/-- How long a string's value is. -/
def strLen : Value → Nat
  | .string t => t.size
  | _ => 0

theorem extract_one (t : ByteArray) : by0 (t.extract 1 t.size) = (by0 t).drop 1 := by
  unfold by0
  rw [Lib.extract_data, List.take_of_length_le]
  rw [List.length_drop, ← Lib.size_eq]
  exact Nat.le_refl _

theorem mk_by0 (t : ByteArray) : (⟨(by0 t).toArray⟩ : ByteArray) = t := Lib.mk_data t

set_option maxRecDepth 100000 in
set_option maxHeartbeats 2000000 in
theorem trimByte_any (s : ByteArray) (w : World) :
    Calls Tryz.prog 114 #[.string s, .int .u8 48] w fun e w' => e = .returned (.string ⟨((by0 s).dropWhile (· == 48)).toArray⟩) ∧ w = w' := by
  go_enter Tryz.func114, Tryz.ntmps114
  go_wp2
  go_loopw [0] (fun v wr => ∃ t : ByteArray, v = .string t ∧ wr = w ∧ t.size ≤ s.size ∧ (by0 t).dropWhile (· == 48) = (by0 s).dropWhile (· == 48)) (fun v _ => strLen v)
  case atStart => exact ⟨s, rfl, rfl, Nat.le_refl _, rfl⟩
  case round =>
    obtain ⟨t, rfl, rfl, hle, hd⟩ := hrel
    have HD := Lib.hid hd
    clear hd
    by_cases hz : 0 < t.size
    · have hb := by0_at t 0 hz
      obtain ⟨x, hx⟩ : ∃ x, x = t[0]'hz := ⟨_, rfl⟩
      by_cases h0 : x = 48
      · have e1 : ((t[0]'hz).toNat : Int) = 48 := by rw [← hx, h0]; rfl
        have hext := extract_one t
        have hdrop : ((by0 t).drop 1).dropWhile (· == 48) = (by0 t).dropWhile (· == 48) := by
          cases h : by0 t with
          | nil => rfl
          | cons c l =>
            rw [h] at hb
            simp at hb
            rw [← hx, h0] at hb
            subst hb
            rw [List.dropWhile_cons_of_pos (by decide)]; rfl
        have hsz : (t.extract 1 t.size).size = t.size - 1 := by simp
        have HX := Lib.hid hext
        have HDR := Lib.hid hdrop
        have HSZ := Lib.hid hsz
        clear hext hdrop hb hx hsz
        go_wp2
        go_roundw
        case rel => exact ⟨_, rfl, by first | trivial | rfl, by have := HSZ.out; omega, by rw [HX.out, HDR.out]; exact HD.out⟩
        case measure => show (t.extract 1 t.size).size < t.size; have := HSZ.out; omega
      · have e1 : ¬ (((t[0]'hz).toNat : Int) = 48) := by
          rw [← hx]; intro h; exact h0 (UInt8.toNat_inj.1 (by show x.toNat = 48; omega))
        have hdw : (⟨((by0 s).dropWhile (· == 48)).toArray⟩ : ByteArray) = t := by
          rw [← HD.out, ← mk_by0 t]
          congr 2
          rw [by0_mk]
          cases h : by0 t with
          | nil => rfl
          | cons c l =>
            rw [h] at hb
            simp at hb
            rw [List.dropWhile_cons_of_neg (by rw [hb, ← hx]; simpa using h0)]
        have HDW := Lib.hid hdw
        clear hdw hb hx
        go_wp2
        go_ret
        exact ⟨by rw [HDW.out]; rfl, by first | trivial | rfl⟩
    · have hdw : (⟨((by0 s).dropWhile (· == 48)).toArray⟩ : ByteArray) = t := by
        have hn : by0 t = [] := List.eq_nil_of_length_eq_zero (by rw [by0_len]; omega)
        rw [← HD.out, hn, ← mk_by0 t, hn]; rfl
      have HDW := Lib.hid hdw
      clear hdw
      go_wp2
      go_ret
      exact ⟨by rw [HDW.out]; rfl, by first | trivial | rfl⟩

set_option maxRecDepth 100000 in
set_option maxHeartbeats 2000000 in
theorem trim_any (s : ByteArray) (w : World) :
    Calls Tryz.prog 82 #[.string s, .string ⟨#[48]⟩] w fun e w' => e = .returned (.string ⟨((by0 s).dropWhile (· == 48)).toArray⟩) ∧ w = w' := by
  have hl : s.toList = by0 s := Lib.toList_data s
  by_cases hz : s.size = 0
  · have hn : by0 s = [] := List.eq_nil_of_length_eq_zero (by rw [by0_len]; omega)
    have hN : s.toList = [] := by rw [hl, hn]
    have hE : (⟨((by0 s).dropWhile (· == 48)).toArray⟩ : ByteArray) = s := by rw [hn, ← mk_by0 s, hn]; rfl
    rw [hE]
    clear hl hn hE
    go_enter Tryz.func82, Tryz.ntmps82
    go_wp2
    go_ret
    exact ⟨rfl, rfl⟩
  · have hN : s.toList.isEmpty = false := by
      rw [hl]
      have := by0_len s
      cases h : by0 s with
      | nil => rw [h] at this; simp at this; omega
      | cons b l => rfl
    clear hl
    go_enter Tryz.func82, Tryz.ntmps82
    go_wp2_with fail
    refine (trimByte_any s w).mono ?_
    rintro e w' ⟨rfl, rfl⟩
    go_wp2
    go_ret
    exact ⟨rfl, rfl⟩

end Go.Proofs.YtepacminjfeliaaGreatDoor

/-
  slices.Backward over numbers of 32 bits and over bytes, as a range over it meets it: each index from the last on, with what the slice holds there then. The slice has a million elements at most.
-/
namespace Go.Proofs.YtepacminjfeliaaGreatDoor
open Go.RowKit Go.Shelf

attribute [local go_sem] Oper.semAt_some

/-- What comes out: an index below n, a number below M. -/
abbrev Down (n M : Nat) := { p : Nat × Nat // p.1 < n ∧ p.2 < M }

/-- These have come out: from the last index on, each with a number that P lets be there. -/
def Came (n M : Nat) (P : Nat → Nat → Prop) (ys : List (Down n M)) : Prop := ys.length ≤ n ∧ ∀ (k : Nat) (p : Down n M), ys[k]? = some p → p.1.1 + k + 1 = n ∧ P p.1.1 p.1.2

theorem Came.nil (n M : Nat) (P : Nat → Nat → Prop) : Came n M P [] := ⟨Nat.zero_le _, fun k p h => by simp at h⟩

theorem Came.more {n M : Nat} {P : Nat → Nat → Prop} {ys : List (Down n M)} (h : Came n M P ys) {i x : Nat} (hi : i + ys.length + 1 = n) (hx : x < M) (hP : P i x) : Came n M P (ys ++ [⟨(i, x), by omega, hx⟩]) := by
  refine ⟨by rw [List.length_append, List.length_singleton]; omega, fun k p hk => ?_⟩
  rcases Nat.lt_trichotomy k ys.length with h1 | h1 | h1
  · rw [List.getElem?_append_left h1] at hk
    exact h.2 k p hk
  · subst h1
    rw [List.getElem?_append_right (Nat.le_refl _), Nat.sub_self] at hk
    have e := (Option.some.inj hk).symm
    subst e
    exact ⟨hi, hP⟩
  · rw [List.getElem?_eq_none (by rw [List.length_append, List.length_singleton]; omega)] at hk
    cases hk

/-- In world W the box Bs holds a slice of n numbers, each below M and such as P lets be there. -/
def Lies (k : IntKind) (n M Bs : Nat) (ad : Option Addr) (cap : Nat) (P : Nat → Nat → Prop) (W : World) : Prop :=
  W.cell? ⟨Bs, 0, none⟩ = some (.slice ad n cap) ∧ ∀ j, j < n → ∃ b off x, ad = some ⟨b, off, none⟩ ∧ x < M ∧ P j x ∧ W.cell? ⟨b, off + j, none⟩ = some (.int k (x : Int))

set_option maxRecDepth 100000 in
set_option maxHeartbeats 2000000 in
theorem back32_in (M : Nat) (F : Fence) (n : Nat) (hf : F.fn 111) (hro : F.round = none) (hn : 1 ≤ n) (l Bs len cap : Nat) (ad : Option Addr) (P : Nat → Nat → Prop) (hlen : len ≤ 1000000) (G : World → Prop) (hG : ∀ W, G W → Lies .u32 len M Bs ad cap P W)
    (J Jx : List (Down len M) → World → Prop)
    (hY : ∀ pre x W, J pre W → pre.length < len → YieldAt F (n - 1) Tryz.prog l #[.int .i64 (x.1.1 : Int), .int .u32 (x.1.2 : Int)] W fun e W' =>
      (e = .returned (.bool true) ∧ J (pre ++ [x]) W' ∧ (G W → G W')) ∨ (e = .returned (.bool false) ∧ Jx (pre ++ [x]) W'))
    (W : World) (hGW : G W) (h0 : J [] W) :
    CallsIn F n Tryz.prog 111 #[.func (.yield l) #[] #[], .pointer (some ⟨Bs, 0, none⟩)] W fun e W' => (∃ v, e = .returned v) ∧
      ((∃ ys, (Came len M P ys ∧ ys.length = len) ∧ J ys W') ∨ (∃ pre, Came len M P pre ∧ Jx pre W')) := by
  have hb0 := (hG W hGW).1
  refine callsIn_of_wp Tryz.func111 rfl hf ?_ hro
  simp only [Tryz.ntmps111, List.size_toArray, List.length_cons, List.length_nil, Nat.reduceAdd, Nat.reduceSub, Array.replicate_succ, Array.replicate_zero, List.push_toArray, List.append_toArray, List.nil_append, List.cons_append]
  gi_wp2
  gi_loopw [3] (fun i wr => ∃ (m : Nat) (ys : List (Down len M)), m + ys.length = len ∧ i = .int .i64 ((m : Int) - 1) ∧ Came len M P ys ∧ J ys wr ∧ G wr) (fun i _ => (intOf i + 1).toNat)
  case atStart => exact ⟨len, [], by simp, rfl, Came.nil _ _ _, h0, hGW⟩
  case round =>
    obtain ⟨m0, ys, hm, rfl, hcame, hJs, hGr⟩ := hrel
    clear hb0
    by_cases h0 : m0 = 0
    · subst h0
      gi_wp2
      go_end0
      exact ⟨⟨_, rfl⟩, .inl ⟨ys, ⟨hcame, by omega⟩, hJs⟩⟩
    · obtain ⟨m, rfl⟩ : ∃ m, m0 = m + 1 := ⟨m0 - 1, by omega⟩
      clear h0
      have e0 : ((m + 1 : Nat) : Int) - 1 = (m : Int) := by omega
      rw [e0]
      obtain ⟨hbx, hcs⟩ := hG _ hGr
      obtain ⟨b, off, x, rfl, hx, hP, hcx⟩ := hcs m (by omega)
      obtain ⟨fn, tmps, assign, body, hy, hR⟩ := hY ys ⟨(m, x), by omega, hx⟩ wr hJs (by omega)
      dsimp only at hy
      have hmore := hcame.more (i := m) (by omega) hx hP
      have HM := Lib.hid hmore
      clear hmore hcs hcame
      gi_wp2
      refine hR.mono ?_
      rintro e W3 (⟨rfl, hJ3, hk3⟩ | ⟨rfl, hJx3⟩)
      · gi_wp2
        go_roundw
        case rel => exact ⟨m, _, by rw [List.length_append, List.length_singleton]; omega, rfl, HM.out, hJ3, hk3 hGr⟩
        case measure => simp [intOf]
      · gi_wp2
        refine bodyPost_ret (results_none rfl _ _ _) rfl ?_
        exact ⟨⟨_, rfl⟩, .inr ⟨_, HM.out, hJx3⟩⟩

set_option maxRecDepth 100000 in
set_option maxHeartbeats 1000000 in
theorem back32_made (F : Fence) (n : Nat) (hf : F.fn 79) (hro : F.round = none) (a : Option Addr) (len cap : Nat) (w : World) :
    CallsIn F n Tryz.prog 79 #[.slice a len cap] w fun e w' => e = .returned (.func (.func 111) #[] #[.pointer (some ⟨w.heap.size, 0, none⟩)]) ∧ w' = w.alloc (.cells #[.slice a len cap] 38) := by
  refine callsIn_of_wp Tryz.func79 rfl hf ?_ hro
  simp only [Tryz.ntmps79, List.size_toArray, List.length_cons, List.length_nil, Nat.reduceAdd, Nat.reduceSub, Array.replicate_succ, Array.replicate_zero, List.push_toArray, List.append_toArray, List.nil_append, List.cons_append]
  gi_wp2
  go_ret
  exact ⟨rfl, rfl⟩

theorem back32_stops (M : Nat) (F : Fence) (n : Nat) (hf : F.fn 111) (hro : F.round = none) (hn : 1 ≤ n) (Bs len cap : Nat) (ad : Option Addr) (P : Nat → Nat → Prop) (hlen : len ≤ 1000000) (G : World → Prop) (hG : ∀ W, G W → Lies .u32 len M Bs ad cap P W) (w : World)
    (hGw : ∀ W, Below w.heap.size w W → G W) :
    SeqStopsK F n Tryz.prog 111 #[.pointer (some ⟨Bs, 0, none⟩)] (fun x : Down len M => #[Value.int .i64 (x.1.1 : Int), Value.int .u32 (x.1.2 : Int)]) (fun A B => G A → G B) (fun ys => Came len M P ys ∧ ys.length = len) (Came len M P) len w :=
  fun l J Jx W hW _ _ hY h0 => back32_in M F n hf hro hn l Bs len cap ad P hlen G hG J Jx hY W (hGw W hW) h0

set_option maxRecDepth 100000 in
set_option maxHeartbeats 2000000 in
theorem back8_in (M : Nat) (F : Fence) (n : Nat) (hf : F.fn 135) (hro : F.round = none) (hn : 1 ≤ n) (l Bs len cap : Nat) (ad : Option Addr) (P : Nat → Nat → Prop) (hlen : len ≤ 1000000) (G : World → Prop) (hG : ∀ W, G W → Lies .u8 len M Bs ad cap P W)
    (J Jx : List (Down len M) → World → Prop)
    (hY : ∀ pre x W, J pre W → pre.length < len → YieldAt F (n - 1) Tryz.prog l #[.int .i64 (x.1.1 : Int), .int .u8 (x.1.2 : Int)] W fun e W' =>
      (e = .returned (.bool true) ∧ J (pre ++ [x]) W' ∧ (G W → G W')) ∨ (e = .returned (.bool false) ∧ Jx (pre ++ [x]) W'))
    (W : World) (hGW : G W) (h0 : J [] W) :
    CallsIn F n Tryz.prog 135 #[.func (.yield l) #[] #[], .pointer (some ⟨Bs, 0, none⟩)] W fun e W' => (∃ v, e = .returned v) ∧
      ((∃ ys, (Came len M P ys ∧ ys.length = len) ∧ J ys W') ∨ (∃ pre, Came len M P pre ∧ Jx pre W')) := by
  have hb0 := (hG W hGW).1
  refine callsIn_of_wp Tryz.func135 rfl hf ?_ hro
  simp only [Tryz.ntmps135, List.size_toArray, List.length_cons, List.length_nil, Nat.reduceAdd, Nat.reduceSub, Array.replicate_succ, Array.replicate_zero, List.push_toArray, List.append_toArray, List.nil_append, List.cons_append]
  gi_wp2
  gi_loopw [3] (fun i wr => ∃ (m : Nat) (ys : List (Down len M)), m + ys.length = len ∧ i = .int .i64 ((m : Int) - 1) ∧ Came len M P ys ∧ J ys wr ∧ G wr) (fun i _ => (intOf i + 1).toNat)
  case atStart => exact ⟨len, [], by simp, rfl, Came.nil _ _ _, h0, hGW⟩
  case round =>
    obtain ⟨m0, ys, hm, rfl, hcame, hJs, hGr⟩ := hrel
    clear hb0
    by_cases h0 : m0 = 0
    · subst h0
      gi_wp2
      go_end0
      exact ⟨⟨_, rfl⟩, .inl ⟨ys, ⟨hcame, by omega⟩, hJs⟩⟩
    · obtain ⟨m, rfl⟩ : ∃ m, m0 = m + 1 := ⟨m0 - 1, by omega⟩
      clear h0
      have e0 : ((m + 1 : Nat) : Int) - 1 = (m : Int) := by omega
      rw [e0]
      obtain ⟨hbx, hcs⟩ := hG _ hGr
      obtain ⟨b, off, x, rfl, hx, hP, hcx⟩ := hcs m (by omega)
      obtain ⟨fn, tmps, assign, body, hy, hR⟩ := hY ys ⟨(m, x), by omega, hx⟩ wr hJs (by omega)
      dsimp only at hy
      have hmore := hcame.more (i := m) (by omega) hx hP
      have HM := Lib.hid hmore
      clear hmore hcs hcame
      gi_wp2
      refine hR.mono ?_
      rintro e W3 (⟨rfl, hJ3, hk3⟩ | ⟨rfl, hJx3⟩)
      · gi_wp2
        go_roundw
        case rel => exact ⟨m, _, by rw [List.length_append, List.length_singleton]; omega, rfl, HM.out, hJ3, hk3 hGr⟩
        case measure => simp [intOf]
      · gi_wp2
        refine bodyPost_ret (results_none rfl _ _ _) rfl ?_
        exact ⟨⟨_, rfl⟩, .inr ⟨_, HM.out, hJx3⟩⟩

set_option maxRecDepth 100000 in
set_option maxHeartbeats 1000000 in
theorem back8_made (F : Fence) (n : Nat) (hf : F.fn 113) (hro : F.round = none) (a : Option Addr) (len cap : Nat) (w : World) :
    CallsIn F n Tryz.prog 113 #[.slice a len cap] w fun e w' => e = .returned (.func (.func 135) #[] #[.pointer (some ⟨w.heap.size, 0, none⟩)]) ∧ w' = w.alloc (.cells #[.slice a len cap] 94) := by
  refine callsIn_of_wp Tryz.func113 rfl hf ?_ hro
  simp only [Tryz.ntmps113, List.size_toArray, List.length_cons, List.length_nil, Nat.reduceAdd, Nat.reduceSub, Array.replicate_succ, Array.replicate_zero, List.push_toArray, List.append_toArray, List.nil_append, List.cons_append]
  gi_wp2
  go_ret
  exact ⟨rfl, rfl⟩

theorem back8_stops (M : Nat) (F : Fence) (n : Nat) (hf : F.fn 135) (hro : F.round = none) (hn : 1 ≤ n) (Bs len cap : Nat) (ad : Option Addr) (P : Nat → Nat → Prop) (hlen : len ≤ 1000000) (G : World → Prop) (hG : ∀ W, G W → Lies .u8 len M Bs ad cap P W) (w : World)
    (hGw : ∀ W, Below w.heap.size w W → G W) :
    SeqStopsK F n Tryz.prog 135 #[.pointer (some ⟨Bs, 0, none⟩)] (fun x : Down len M => #[Value.int .i64 (x.1.1 : Int), Value.int .u8 (x.1.2 : Int)]) (fun A B => G A → G B) (fun ys => Came len M P ys ∧ ys.length = len) (Came len M P) len w :=
  fun l J Jx W hW _ _ hY h0 => back8_in M F n hf hro hn l Bs len cap ad P hlen G hG J Jx hY W (hGw W hW) h0

end Go.Proofs.YtepacminjfeliaaGreatDoor
