/-
  The program's Text: a number's decimals. The number has 200 limbs at most.
-/
import Derived.Test.YtkfododihdopiaaDoorWritten
import Derived.Shelf.RegionOpen
namespace Go.Proofs.YtkfododihdopiaaDoor
open Go.RowKit Go.Shelf

attribute [local go_sem] Oper.semAt_some

/-- What the texts of these are worth together, read on. -/
def joined (pre : List Nat) : Nat := pre.foldl (fun s x => s * 1000000000 + x) 0

/-- In the range of Text, begun in world B: the text's box is the block w.heap.size. -/
def JoinAt {len : Nat} (w B : World) (pre : List (Down len 1000000000)) (W : World) : Prop :=
  (∃ v l, Boxed W w.heap.size 33 v ∧ OwnsB W B.heap.size v l ∧ Digs l ∧ l.length = 9 * pre.length ∧ num l = joined (pre.map fun p => p.1.2)) ∧ Below w.heap.size w W ∧ (∀ k, k < B.heap.size → k ≠ w.heap.size → W.heap[k]? = B.heap[k]?) ∧ B.heap.size ≤ W.heap.size

theorem OwnsB.kept {W W' : World} {base : Nat} {v : Value} {l : List UInt8} {row : Option Nat} (h : OwnsB W base v l) (hg : W.grownBy W' row) (hne : ∀ k, row = some k → ∃ o : Obj, W.heap[k]? = some o ∧ o.isCells = false) : OwnsB W' base v l := by
  obtain ⟨h1, h2⟩ := h
  refine ⟨h1, h2.imp id fun ⟨g, cap, cur, hv, hb, hh, r⟩ => ⟨g, cap, cur, hv, hb, ?_, r⟩⟩
  rw [hg.block g (lt_heap hh) (fun e => by
    obtain ⟨o, ho, hc⟩ := hne g e.symm
    rw [hh] at ho
    obtain rfl := Option.some.inj ho
    cases hc)]
  exact hh

theorem JoinAt.own {len : Nat} (w B : World) (h0 : w.heap.size < B.heap.size) : OwnFrom B.heap.size (JoinAt (len := len) w B) := by
  intro s A A' row hs hg hr
  obtain ⟨⟨v, l, h1, h2, h3⟩, h4, h5, h6⟩ := hs
  have ne : ∀ k, k < B.heap.size → some k ≠ row := fun k hk e => by have := (hr k e.symm).1; omega
  refine ⟨⟨v, l, h1.kept hg (ne _ h0), h2.kept hg fun k e => (hr k e).2, h3⟩, h4.grown hg h4.size (fun j hj => by have := (hr j hj).1; omega), fun k hk hk2 => ?_, Nat.le_trans h6 hg.size⟩
  rw [hg.block k (by omega) (ne k hk)]
  exact h5 k hk hk2

theorem joined_snoc (pre : List Nat) (x : Nat) : joined (pre ++ [x]) = joined pre * 1000000000 + x := by simp [joined, List.foldl_append]

theorem OwnsB.slice {W : World} {base : Nat} {v : Value} {l : List UInt8} (h : OwnsB W base v l) (h0 : 0 < l.length) : ∃ g n cap, v = .slice (some ⟨g, 0, none⟩) n cap := by
  rcases h.2 with ⟨_, h2⟩ | ⟨g, cap, cur, hv, _⟩
  · exact absurd h2 (by omega)
  · exact ⟨g, _, cap, hv⟩

/-- Bytes appended onto a row of the call's own, in a region that draws its order, in a fence. -/
theorem stepIn_pushB {F : Fence} {n : Nat} {ops : Array Oper} {o : Oper} {a : Act} {K : Act → World → Prop} {Q : Exit → Act → World → Prop} {E : Prop} (w : World) (hgd : o.guard = none) (s x : Operand)
    (ho : o.op = .call { callee := .builtin .append, args := #[s, x], argTypes := #[33, 33] }) (base : Nat) (v : Value) (l : List UInt8) (hs : a.eval s = v) (hown : OwnsB w base v l) (ad : Addr) (m c : Nat) (k : List UInt8)
    (hx : a.eval x = .slice (some ad) m c) (hk : k.length = m) (hc : ∀ (j : Nat) (b : UInt8), k[j]? = some b → w.cell? (ad.add j) = some (.int .u8 (b.toNat : Int))) (hl : l.length ≤ 100000) (hm : m ≤ 100000) (hb : base ≤ w.heap.size)
    (h : ∀ v' w', OwnsB w' base v' (l ++ k) → w.grownBy w' v.ownBlock → K (a.put o.dst v') w') : if Region.wanted o (yielded ops a.tmps) = true then Oper.wpIn F n Tryd.prog o a w K Q else E := by
  have hw : Region.wanted o (yielded ops a.tmps) = true := by simp [Region.wanted, hgd]
  rw [if_pos hw]
  obtain ⟨i0, hi, hz0, hz1, hz2⟩ := info_parts Tryd.infoByte
  obtain ⟨v', w', hrun, r1, r2, r3⟩ := run_append_own (P := Tryd.prog) w base 33 o.type 5 i0 (.int .u8 0) 1 1 Tryd.underlying33 hi hz0 hz1 hz2 rfl (by decide) v l.length _ hown ad m c (byteVals k) (by rw [byteVals_len, hk, Nat.mul_one]) (by
    intro j u hj
    unfold byteVals at hj
    rw [List.getElem?_map] at hj
    cases hkj : k[j]? with
    | none => rw [hkj] at hj; simp at hj
    | some b => rw [hkj] at hj; simp at hj; subst hj; exact hc j b hkj) (by
    intro u hu
    obtain ⟨b, _, rfl⟩ := List.mem_map.1 hu
    rfl) (by unfold maxLen; omega) (by omega) hb
  unfold Oper.wpIn
  refine ⟨?_, ?_⟩
  · simp [Oper.about, ho, resolve, Target.leads, Sem.run_pure]
  · rw [Oper.semAt_plain F _ _ (by rw [ho]; intro c hc'; cases hc')]
    simp [execOp, ho, resolve, invoke, builtin, hs, hx, hrun, Result.andThen]
    exact h _ _ (by unfold OwnsB; rw [List.length_append, hk, byteVals_append]; exact r1) r2

theorem JoinAt.step {len : Nat} {w B W w3 w5 : World} {pre : List (Down len 1000000000)} {x : Down len 1000000000} {v v' : Value} {L l3 : List UInt8} (h0 : w.heap.size < B.heap.size)
    (p1 : Boxed W w.heap.size 33 v) (p2 : OwnsB W B.heap.size v L) (p3 : Digs L) (p4 : L.length = 9 * pre.length) (p5 : num L = joined (pre.map fun p => p.1.2))
    (q1 : Below w.heap.size w W) (q2 : ∀ k, k < B.heap.size → k ≠ w.heap.size → W.heap[k]? = B.heap[k]?) (q3 : B.heap.size ≤ W.heap.size)
    (hb : Below W.heap.size W w3) (hg : w3.grownBy w5 v.ownBlock) (ho : OwnsB w5 B.heap.size v' (L ++ l3)) (hd : Digs l3) (hl : l3.length = 9) (hn : num l3 = x.1.2) :
    Boxed w5 w.heap.size 33 v ∧ KeepsOthers W (w5.setCell ⟨w.heap.size, 0, none⟩ v') ∧ JoinAt w B (pre ++ [x]) (w5.setCell ⟨w.heap.size, 0, none⟩ v') := by
  have hlt := World.ownsRow.lt p2
  have r1 : Boxed w3 w.heap.size 33 v := below_heap hb p1
  have ne : ∀ k, k < B.heap.size → some k ≠ v.ownBlock := fun k hk e => by have := (hlt k e.symm).1; omega
  have r2 : Boxed w5 w.heap.size 33 v := r1.kept hg (ne _ h0)
  have p2' : OwnsB w3 B.heap.size v L := p2.below hb
  refine ⟨r2, ?_, ⟨⟨v', L ++ l3, r2.set v', ownsRow_setCell_below ho h0 v', p3.append hd, ?_, ?_⟩, ?_, ?_, ?_⟩⟩
  · refine (KeepsOthers.trans ⟨hb.size, fun k o hk _ => below_heap hb hk⟩ (KeepsOthers.of_grownBy hg fun j o ej hj => ?_)).trans (KeepsOthers.setCell _ _ _)
    rcases p2'.2 with ⟨rfl, _⟩ | ⟨g, cap, cur, rfl, _, hgb, _⟩
    · simp [Value.ownBlock] at ej
    · obtain rfl : g = j := by simpa [Value.ownBlock] using ej
      rw [hgb] at hj
      obtain rfl := Option.some.inj hj
      rfl
  · rw [List.length_append, List.length_append, List.length_singleton, p4, hl]; omega
  · rw [num_append, hl, hn, p5, List.map_append, List.map_singleton, joined_snoc]
  · refine ((q1.trans (hb.mono q1.size)).grown hg (Nat.le_trans q1.size hb.size) fun j hj => ?_).setCell (p := ⟨w.heap.size, 0, none⟩) (Nat.le_refl _) _
    have := (hlt j hj).1
    omega
  · intro k hk hk2
    rw [(grown_set w5 w.heap.size 0 v').block k (by have := hg.size; have := hb.size; omega) (by simpa using hk2), hg.block k (by have := hb.size; omega) (ne k hk), hb.block k (by omega)]
    exact q2 k hk hk2
  · have h1 := hg.size
    have h2 := hb.size
    have h3 := (grown_set w5 w.heap.size 0 v').size
    omega

theorem came_from {ns : List Nat} : ∀ (m : Nat) (ys : List (Down ns.length 1000000000)), m + ys.length = ns.length → (∀ (k : Nat) (p : Down ns.length 1000000000), ys[k]? = some p → p.1.1 + k + 1 = ns.length ∧ p.1.2 = at0 ns p.1.1) → ys.map (fun p => p.1.2) = (ns.drop m).reverse := by
  intro m ys hm h
  apply List.ext_getElem?
  intro k
  rw [List.getElem?_map]
  by_cases hk : k < ys.length
  · rw [List.getElem?_eq_getElem hk]
    obtain ⟨h1, h2⟩ := h k _ (List.getElem?_eq_getElem hk)
    rw [List.getElem?_reverse (by rw [List.length_drop]; omega), List.length_drop, List.getElem?_drop, Option.map_some, h2]
    unfold at0
    rw [List.getD_eq_getElem?_getD, show m + (ns.length - m - 1 - k) = (ys[k]'hk).1.1 by omega, List.getElem?_eq_getElem (by omega)]
    rfl
  · rw [List.getElem?_eq_none (by omega), List.getElem?_eq_none (by rw [List.length_reverse, List.length_drop]; omega)]
    rfl

theorem came_joined {ns : List Nat} {ys : List (Down ns.length 1000000000)} (h : Came ns.length 1000000000 (fun j x => x = at0 ns j) ys) (hl : ys.length = ns.length) : joined (ys.map fun p => p.1.2) = bil ns := by
  rw [came_from 0 ys (by omega) h.2, List.drop_zero]
  exact hib_reverse ns

set_option maxRecDepth 100000 in
set_option maxHeartbeats 4000000 in
theorem text_in (n : Nat) (hn : 6 ≤ n) {w : World} {va : Value} {a : List Nat} (ra : Rd w va a) (la : a.length ≤ 200) :
    CallsIn Fence.wide n Tryd.prog 13 #[va] w (Texted w (val a)) := by
  have h1 : 1 ≤ n := by omega
  obtain ⟨ada, na, ca, rfl, -⟩ := id ra
  obtain ⟨K, hK, hK1, hK2⟩ : ∃ K, val a < 10 ^ K ∧ 1 ≤ K ∧ K ≤ 2010 := ⟨10 * a.length + 1, Nat.lt_of_lt_of_le (val_lt a ra.lim) (Nat.le_trans (pw_ten _) (ten_le (by omega))), by omega, by omega⟩
  have HK := Lib.hid hK
  clear hK
  have ra1 := ra.below (alb w (.cells #[.slice none 0 0] 33))
  have bA := Boxed.new w 33 (.slice none 0 0)
  have HB0 := alb w (.cells #[.slice none 0 0] 33)
  refine callsIn_of_wp_marks Tryd.func13 rfl trivial ?_ rfl
  simp only [Tryd.ntmps13, List.size_toArray, List.length_cons, List.length_nil, Nat.reduceAdd, Nat.reduceSub, Array.replicate_succ, Array.replicate_zero, List.push_toArray, List.append_toArray, List.nil_append, List.cons_append]
  gi_wp2_with fail
  refine ⟨trivial, ?_⟩
  refine (callsIn_wide.2 (nines_any ra1 la HK.out hK1 (by omega))).mono ?_
  rintro e w1 ⟨ad1, n1, cap1, ns, rfl, r1, s1, v1, c1, hb1⟩
  have hle1 : ns.length ≤ 300 := by omega
  obtain ⟨hn1, -, hlim1, hcell1⟩ := r1.open
  subst hn1
  have bA1 : Boxed w1 w.heap.size 33 (.slice none 0 0) := (hb1.block _ (by simp)).trans bA
  have HB1 : Below w.heap.size w w1 := past hb1
  have hsz1 : w.heap.size < w1.heap.size := lt_heap bA1
  have V1 := Lib.hid v1
  clear bA HB0 ra ra1 v1 hb1
  gi_wp2_with fail
  refine ⟨trivial, ?_⟩
  refine (back32_made Fence.wide (n - 1) trivial rfl _ _ _ _).mono ?_
  rintro e w' ⟨rfl, rfl⟩
  gi_wp2_with fail
  have bS := Boxed.new w1 22 (.slice ad1 ns.length cap1)
  obtain ⟨B, hB⟩ : ∃ B, B = w1.alloc (.cells #[.slice ad1 ns.length cap1] 22) := ⟨_, rfl⟩
  have hsB : B.heap.size = w1.heap.size + 1 := by rw [hB]; simp
  have bA2 : Boxed B w.heap.size 33 (.slice none 0 0) := by rw [hB]; exact bA1.alloc _
  have HB2 : Below w.heap.size w B := by rw [hB]; exact HB1.alloc HB1.size _
  have r2 : Rd B (.slice ad1 ns.length cap1) ns := by rw [hB]; exact r1.below (alb _ _)
  have r0 : ∀ b o, ad1 = some ⟨b, o, none⟩ → 0 < ns.length → b ≠ w.heap.size := by
    rintro b o rfl h0 rfl
    obtain ⟨b', o', e, _, hc⟩ := hcell1 h0
    obtain ⟨rfl, rfl⟩ : w.heap.size = b' ∧ o = o' := by simpa using e
    have h2 := hc 0 h0
    unfold Boxed at bA1
    simp only [World.cell?, bA1] at h2
    rw [Nat.add_zero] at h2
    rcases o with _ | o
    · simp at h2
    · simp at h2
  rw [← hB] at bS ⊢
  clear bA1 HB1 hB
  have hP0 : JoinAt (len := ns.length) w B [] B := ⟨⟨_, [], bA2, OwnsB.nil _ _, Digs.nil, rfl, rfl⟩, HB2, fun _ _ _ => rfl, Nat.le_refl _⟩
  have hown := JoinAt.own (len := ns.length) w B (by omega)
  have hlies : ∀ W, (∃ pre, JoinAt (len := ns.length) w B pre W) → Lies .u32 ns.length 1000000000 w1.heap.size ad1 cap1 (fun j x => x = at0 ns j) W := by
    rintro W ⟨pre, _, _, hk, _⟩
    refine ⟨(World.cell?_of_block (a := ⟨w1.heap.size, 0, none⟩) (hk w1.heap.size (by omega) (by omega))).trans bS.cell, fun j hj => ?_⟩
    obtain ⟨b, o, e, hb, hc⟩ := (r2.open).2.2.2 (by omega)
    have hlt : at0 ns j < 1000000000 := by
      unfold at0
      rw [List.getD_eq_getElem?_getD, List.getElem?_eq_getElem (by omega)]
      exact s1 _ (List.getElem_mem _)
    exact ⟨b, o, at0 ns j, e, hlt, rfl, (World.cell?_of_block (a := ⟨b, o + j, none⟩) (hk b hb (r0 b o e (by omega)))).trans (hc j hj)⟩
  refine wpIn_rangeFunc_ownG (w0 := B) rfl h1 (gf := 37) (lb := #[.pointer (some ⟨w1.heap.size, 0, none⟩)]) rfl trivial (enters_of Tryd.func37 (by kernel_rfl) rfl)
    (back32_stops 1000000000 Fence.wide (n - 1) trivial rfl (by omega) w1.heap.size ns.length cap1 ad1 (fun j x => x = at0 ns j) (by omega) (fun W => ∃ pre, JoinAt (len := ns.length) w B pre W) hlies B (fun W hb => ⟨[], hown [] B W none hP0 ⟨hb.os, hb.tape, hb.output, hb.size, fun k hk _ => hb.block k hk⟩ (by simp)⟩))
    (fun h k g => k (h g)) ?keeps (Below.refl _ _) (fun _ => rfl)
    (JoinAt (len := ns.length) w B)
    (fun _ _ _ => False) hown
    (fun _ _ _ _ _ hs _ _ => hs)
    hP0
    (fun x => { tmps := #[.slice ada na ca, undef, .string ⟨#[]⟩, .pointer (some ⟨w.heap.size, 0, none⟩), undef, .int .u32 (x.1.2 : Int), undef, .slice ada na ca, .slice ad1 ns.length cap1, .func (.func 37) #[] #[.pointer (some ⟨w1.heap.size, 0, none⟩)], .int .i64 (x.1.1 : Int), .int .u32 (x.1.2 : Int), undef, undef, undef, undef, undef, undef, undef, undef, undef, undef], defers := [] }) ?assign ?body ?done ?stop
  case keeps =>
    rintro W l o o' hl ho hc _ ⟨pre, h⟩
    exact ⟨pre, hown.putObj o' h hl ho hc⟩
  case assign =>
    intro l x W K hK
    gi_wp2
    exact hK
  case body =>
    rintro l pre x W hP _
    have hmx : Tryd.prog.follows .mixedOrders = true := by kernel_rfl
    gi_wp2
    obtain ⟨⟨v, L, p1, p2, p3, p4, p5⟩, q1, q2, q3⟩ := hP
    have hd : 1 ≤ n - 1 - 1 := by omega
    have c1 := p1.cell
    have f1 := p1.frozen
    have hB1 := hsB
    refine wpIn_region_any (by assumption) ?_
    change wpAnyIn _ _ _ _ _ _ _ _ _ (World.drew _)
    refine wpAnyIn_ready (rs := [0, 1]) (by kernel_rfl) (by simp) ?_
    refine AllReadyIn.cons rfl (fun K hK => ?_) (AllReadyIn.cons rfl (fun K hK => ?_) AllReadyIn.nil)
    · go_simp
      refine hK _ _ ?_
      clear hK K
      refine wpAnyIn_ready (rs := [1]) (by kernel_rfl) (by simp) ?_
      refine AllReadyIn.cons rfl (fun K hK => ?_) AllReadyIn.nil
      go_simp
      refine hK _ _ ?_
      clear hK K
      refine wpAnyIn_ready (rs := [2]) (by kernel_rfl) (by simp) ?_
      refine AllReadyIn.cons rfl (fun K hK => ?_) AllReadyIn.nil
      go_simp
      gi_wp2_with fail
      refine ⟨trivial, ?_⟩
      refine (CallsIn.inRound l (written_in Fence.wide _ trivial trivial trivial rfl (by omega) x.1.2 _ x.2.2)).mono ?_
      rintro e w3 ⟨g3, l3, rfl, hg3, hlt3, hc3, hl3, hd3, hn3, hb3'⟩
      have hb3 : Below W.heap.size W w3 := ((Below.refl W.heap.size W).drew).trans hb3'
      have c4 := (hb3.cell (p := ⟨w.heap.size, 0, none⟩) (show w.heap.size < W.heap.size by omega)).trans c1
      gi_wp2_with fail
      refine wpAnyIn_ready (rs := [3]) (by kernel_rfl) (by simp) ?_
      refine AllReadyIn.cons rfl (fun K hK => ?_) AllReadyIn.nil
      refine stepIn_pushB _ rfl _ _ rfl B.heap.size v L rfl (OwnsB.below p2 hb3) ⟨g3, 0, none⟩ 9 9 l3 rfl hl3 (fun j b hj => by rw [add_at, Nat.zero_add]; exact hc3 j b hj) (by omega) (by omega) (by have := hb3.size; omega) ?_
      intro v' w5 ho5 hg5
      obtain ⟨g5, m5, k5, rfl⟩ := ho5.slice (by rw [List.length_append]; omega)
      obtain ⟨r1, r2, r3⟩ := JoinAt.step (x := x) (by omega) p1 p2 p3 p4 p5 q1 q2 q3 hb3 hg5 ho5 hd3 hl3 hn3
      have c5 := r1.cell
      have f5 := r1.frozen
      refine hK _ _ ?_
      clear hK K
      refine wpAnyIn_ready (rs := [4]) (by kernel_rfl) (by simp) ?_
      refine AllReadyIn.cons rfl (fun K hK => ?_) AllReadyIn.nil
      go_simp
      refine hK _ _ ?_
      clear hK K
      refine wpAnyIn_done (by kernel_rfl) ?_ _
      gi_wp2
      exact ⟨r2.from _, fun _ => ⟨_, r3⟩, r3⟩
    · go_simp
      refine hK _ _ ?_
      clear hK K
      refine wpAnyIn_ready (rs := [0, 2]) (by kernel_rfl) (by simp) ?_
      refine AllReadyIn.cons rfl (fun K hK => ?_) (AllReadyIn.cons rfl (fun K hK => ?_) AllReadyIn.nil)
      · go_simp
        refine hK _ _ ?_
        clear hK K
        refine wpAnyIn_ready (rs := [2]) (by kernel_rfl) (by simp) ?_
        refine AllReadyIn.cons rfl (fun K hK => ?_) AllReadyIn.nil
        go_simp
        gi_wp2_with fail
        refine ⟨trivial, ?_⟩
        refine (CallsIn.inRound l (written_in Fence.wide _ trivial trivial trivial rfl (by omega) x.1.2 _ x.2.2)).mono ?_
        rintro e w3 ⟨g3, l3, rfl, hg3, hlt3, hc3, hl3, hd3, hn3, hb3'⟩
        have hb3 : Below W.heap.size W w3 := ((Below.refl W.heap.size W).drew).trans hb3'
        have c4 := (hb3.cell (p := ⟨w.heap.size, 0, none⟩) (show w.heap.size < W.heap.size by omega)).trans c1
        gi_wp2_with fail
        refine wpAnyIn_ready (rs := [3]) (by kernel_rfl) (by simp) ?_
        refine AllReadyIn.cons rfl (fun K hK => ?_) AllReadyIn.nil
        refine stepIn_pushB _ rfl _ _ rfl B.heap.size v L rfl (OwnsB.below p2 hb3) ⟨g3, 0, none⟩ 9 9 l3 rfl hl3 (fun j b hj => by rw [add_at, Nat.zero_add]; exact hc3 j b hj) (by omega) (by omega) (by have := hb3.size; omega) ?_
        intro v' w5 ho5 hg5
        obtain ⟨g5, m5, k5, rfl⟩ := ho5.slice (by rw [List.length_append]; omega)
        obtain ⟨r1, r2, r3⟩ := JoinAt.step (x := x) (by omega) p1 p2 p3 p4 p5 q1 q2 q3 hb3 hg5 ho5 hd3 hl3 hn3
        have c5 := r1.cell
        have f5 := r1.frozen
        refine hK _ _ ?_
        clear hK K
        refine wpAnyIn_ready (rs := [4]) (by kernel_rfl) (by simp) ?_
        refine AllReadyIn.cons rfl (fun K hK => ?_) AllReadyIn.nil
        go_simp
        refine hK _ _ ?_
        clear hK K
        refine wpAnyIn_done (by kernel_rfl) ?_ _
        gi_wp2
        exact ⟨r2.from _, fun _ => ⟨_, r3⟩, r3⟩
      · go_simp
        gi_wp2_with fail
        refine ⟨trivial, ?_⟩
        refine (CallsIn.inRound l (written_in Fence.wide _ trivial trivial trivial rfl (by omega) x.1.2 _ x.2.2)).mono ?_
        rintro e w3 ⟨g3, l3, rfl, hg3, hlt3, hc3, hl3, hd3, hn3, hb3'⟩
        have hb3 : Below W.heap.size W w3 := ((Below.refl W.heap.size W).drew).trans hb3'
        have c4 := (hb3.cell (p := ⟨w.heap.size, 0, none⟩) (show w.heap.size < W.heap.size by omega)).trans c1
        gi_wp2_with fail
        refine wpAnyIn_ready (rs := [0]) (by kernel_rfl) (by simp) ?_
        refine AllReadyIn.cons rfl (fun K hK => ?_) AllReadyIn.nil
        go_simp
        refine hK _ _ ?_
        clear hK K
        refine wpAnyIn_ready (rs := [3]) (by kernel_rfl) (by simp) ?_
        refine AllReadyIn.cons rfl (fun K hK => ?_) AllReadyIn.nil
        refine stepIn_pushB _ rfl _ _ rfl B.heap.size v L rfl (OwnsB.below p2 hb3) ⟨g3, 0, none⟩ 9 9 l3 rfl hl3 (fun j b hj => by rw [add_at, Nat.zero_add]; exact hc3 j b hj) (by omega) (by omega) (by have := hb3.size; omega) ?_
        intro v' w5 ho5 hg5
        obtain ⟨g5, m5, k5, rfl⟩ := ho5.slice (by rw [List.length_append]; omega)
        obtain ⟨r1, r2, r3⟩ := JoinAt.step (x := x) (by omega) p1 p2 p3 p4 p5 q1 q2 q3 hb3 hg5 ho5 hd3 hl3 hn3
        have c5 := r1.cell
        have f5 := r1.frozen
        refine hK _ _ ?_
        clear hK K
        refine wpAnyIn_ready (rs := [4]) (by kernel_rfl) (by simp) ?_
        refine AllReadyIn.cons rfl (fun K hK => ?_) AllReadyIn.nil
        go_simp
        refine hK _ _ ?_
        clear hK K
        refine wpAnyIn_done (by kernel_rfl) ?_ _
        gi_wp2
        exact ⟨r2.from _, fun _ => ⟨_, r3⟩, r3⟩
  case done =>
    rintro D ys W hD ⟨hcame, hlen⟩ ⟨⟨v, L, p1, p2, p3, p4, p5⟩, q1, q2, q3⟩ hK
    have c1 := p1.cell
    have hnum : num L = val a := by rw [p5, came_joined hcame hlen, V1.out]
    have hconv := string_of p2.rd
    have hL : (⟨L.toArray⟩ : ByteArray).size = L.length := by simp [ByteArray.size]
    have htrim := fun w' => trim_any ⟨L.toArray⟩ w'
    rw [by0_mk] at htrim
    obtain ⟨T, hT⟩ : ∃ T, T = L.dropWhile (· == 48) := ⟨_, rfl⟩
    have hTn : num T = val a := by rw [hT, num_drop, hnum]
    have hTd : T ≠ [] → Dec T := fun h => by rw [hT] at h ⊢; exact drop_dec p3 h
    rw [← hT] at htrim
    have g := grownBy_putObj' W D (.deferred none)
    have hB2 : Below w.heap.size w (W.putObj D (.deferred none)) := q1.grown g q1.size (fun j hj => by have := Option.some.inj hj; omega)
    have HT := Lib.hid hTn
    have HD := Lib.hid hTd
    have HB2' := Lib.hid hB2
    have htl : (⟨T.toArray⟩ : ByteArray).toList = T := (Lib.toList_data _).trans (by0_mk T)
    have HTR := Lib.hid htrim
    clear hnum hTn hTd g hB2 p1 p2 p3 p4 p5 q1 q2 q3 hT hlies hown hP0 HB2 htrim hL
    gi_wp2_with fail
    refine ⟨trivial, ?_⟩
    refine (callsIn_wide.2 (HTR.out W)).mono ?_
    rintro e w' ⟨rfl, rfl⟩
    by_cases h0 : T = []
    · subst h0
      gi_wp2
      refine ⟨by simp, .inl ⟨_, _, rfl, run_takeDeferred hK, ?_⟩⟩
      exact ⟨_, results_tmp rfl _ _ _, ⟨#[48]⟩, rfl, Dec.zero, by rw [← HT.out]; rfl, HB2'.out⟩
    · have hne : T.isEmpty = false := by cases T with
        | nil => exact absurd rfl h0
        | cons b l => rfl
      gi_wp2
      refine ⟨by simp, .inl ⟨_, _, rfl, run_takeDeferred hK, ?_⟩⟩
      exact ⟨_, results_tmp rfl _ _ _, ⟨T.toArray⟩, rfl, by rw [by0_mk]; exact HD.out h0, by rw [by0_mk]; exact HT.out, HB2'.out⟩
  case stop =>
    rintro D c pre W _ _ h _
    exact h.elim

theorem text_any {w : World} {va : Value} {a : List Nat} (ra : Rd w va a) (la : a.length ≤ 200) : Calls Tryd.prog 13 #[va] w (Texted w (val a)) :=
  (callsIn_wide (n := 6)).1 (text_in 6 (by decide) ra la)

end Go.Proofs.YtkfododihdopiaaDoor
