/-
  A part of the proof: Written, Text, FormsD, RatNum, RatOps.
-/
import Derived.Test.YtepacminjfeliaaGreatDoorG4
import Derived.Shelf.RegionOpen
/-
  The program's written: nine digits of a number below a billion, noughts ahead too. No condition but that bound.
-/
namespace Go.Proofs.YtepacminjfeliaaGreatDoor
open Go.RowKit Go.Shelf

attribute [local go_sem] Oper.semAt_some

theorem wpListIn_make_full {F : Fence} {d : Nat} {P : Program} (w : World) {ops : Array Oper} {rest : List Oper} {o : Oper} {a : Act} {Q : Exit → Act → World → Prop}
    (hg : o.guard = none) (l c : Operand) (t : TypeId) (hop : o.op = Op.makeSlice t l c)
    (base : Nat) (e : TypeId) (i : TypeInfo) (z : Value) (size : Nat) (h1 : P.underlying t = some (.slice e)) (h2 : P.info? e = some i) (h3 : i.zero = some z) (h4 : i.size = size)
    (kl kc : IntKind) (L C : Int) (n : Nat) (hl : a.eval l = .int kl L) (hc : a.eval c = .int kc C) (hL : L = (n : Int)) (hC : C = (n : Int)) (b2 : i.bytes * n ≤ 281474976710656) (b3 : n ≤ maxLen) (b4 : base ≤ w.heap.size)
    (hK : ∀ w', w'.ownsRow base e size (.slice (some ⟨w.heap.size, 0, none⟩) n n) n (madeCells z.cells (n * size)).toList → w.grownBy w' none → wpListIn F d P ops Q rest (a.put o.dst (.slice (some ⟨w.heap.size, 0, none⟩) n n)) w') :
    wpListIn F d P ops Q (o :: rest) a w := by
  refine wpListIn_plain hg fun K hK' => ?_
  obtain ⟨w', hrun, r1, r2⟩ := run_make_full (P := P) w base t e i z size h1 h2 h3 h4 kl kc n b2 b3 b4
  subst hL
  subst hC
  unfold Oper.wpIn
  refine ⟨?_, ?_⟩
  · simp [Oper.about, hop]
  · rw [Oper.semAt_plain F _ _ (by rw [hop]; intro c hc'; cases hc')]
    simp [execOp, hop, hl, hc, hrun, Result.andThen]
    exact hK' _ _ (hK w' r1 r2)

/-- Block g holds just these bytes. -/
def BlkB (w : World) (g : Nat) (L : List UInt8) : Prop := w.heap[g]? = some (.cells (byteVals L).toArray 5 (0, 0))

theorem BlkB.cell {w : World} {g : Nat} {L : List UInt8} (h : BlkB w g L) {i : Nat} {x : UInt8} (hi : L[i]? = some x) : w.cell? ⟨g, i, none⟩ = some (.int .u8 (x.toNat : Int)) := by
  unfold BlkB at h
  simp [World.cell?, h, byteVals_at hi]

theorem BlkB.free {w : World} {g : Nat} {L : List UInt8} (h : BlkB w g L) (i : Nat) : w.frozen? ⟨g, i, none⟩ = false := by
  unfold BlkB at h
  simp [World.frozen?, h]

theorem BlkB.lt {w : World} {g : Nat} {L : List UInt8} (h : BlkB w g L) : g < w.heap.size := lt_heap h

theorem BlkB.set {w : World} {g : Nat} {L : List UInt8} (h : BlkB w g L) (i : Nat) (x : UInt8) : BlkB (w.setCell ⟨g, i, none⟩ (.int .u8 (x.toNat : Int))) g (L.set i x) := by
  unfold BlkB at h ⊢
  simp only [World.setCell, Array.getElem?_modify, if_pos, h, Option.map_some]
  simp [byteVals, List.map_set]

theorem made_bytes {w1 : World} {base n b : Nat} (h : w1.ownsRow base 5 1 (.slice (some ⟨b, 0, none⟩) n n) n (madeCells #[Value.int .u8 0] n).toList) : BlkB w1 b (List.replicate n 0) := by
  obtain ⟨h1, h2⟩ := h
  rcases h2 with ⟨h2, _⟩ | ⟨g, cap, cur, hv, _, hg, _, _, hs, ht⟩
  · cases h2
  · simp only [Value.slice.injEq, Option.some.injEq, Addr.mk.injEq, and_true, true_and] at hv
    obtain ⟨rfl, rfl⟩ := hv
    unfold BlkB
    rw [hg]
    have e : cur = (byteVals (List.replicate n 0)).toArray := by
      apply Array.ext'
      rw [List.take_of_length_le (by simp [hs])] at ht
      rw [ht]
      have := toList_madeCells_one (.int .u8 0) n
      simpa [byteVals] using this
    rw [e]

/-- What the text and the number are when these have come out. -/
def penned (n0 : Nat) (pre : List (Down 9 256)) : List UInt8 × Nat := pre.foldl (fun s p => (s.1.set p.1.1 (digit s.2), s.2 / 10)) (List.replicate 9 0, n0)

theorem penned_snoc (n0 : Nat) (pre : List (Down 9 256)) (x : Down 9 256) : penned n0 (pre ++ [x]) = ((penned n0 pre).1.set x.1.1 (digit (penned n0 pre).2), (penned n0 pre).2 / 10) := by simp [penned, List.foldl_append]

theorem penned_from (pre : List (Down 9 256)) : ∀ s : List UInt8 × Nat, (pre.foldl (fun s p => (s.1.set p.1.1 (digit s.2), s.2 / 10)) s).1.length = s.1.length ∧ (pre.foldl (fun s p => (s.1.set p.1.1 (digit s.2), s.2 / 10)) s).2 ≤ s.2 := by
  induction pre with
  | nil => intro s; exact ⟨rfl, Nat.le_refl _⟩
  | cons x pre ih =>
    intro s
    obtain ⟨h1, h2⟩ := ih (s.1.set x.1.1 (digit s.2), s.2 / 10)
    exact ⟨h1.trans (by rw [List.length_set]), Nat.le_trans h2 (Nat.div_le_self _ _)⟩

theorem penned_len (n0 : Nat) (pre : List (Down 9 256)) : (penned n0 pre).1.length = 9 := (penned_from pre (List.replicate 9 0, n0)).1

theorem penned_le (n0 : Nat) (pre : List (Down 9 256)) : (penned n0 pre).2 ≤ n0 := (penned_from pre (List.replicate 9 0, n0)).2

theorem penned_all {n0 : Nat} (hn : n0 < 1000000000) {P : Nat → Nat → Prop} {ys : List (Down 9 256)} (h : Came 9 256 P ys) (hl : ys.length = 9) : (penned n0 ys).1.length = 9 ∧ Digs (penned n0 ys).1 ∧ num (penned n0 ys).1 = n0 := by
  refine ⟨penned_len n0 ys, ?_⟩
  match ys, hl, h with
  | [y0, y1, y2, y3, y4, y5, y6, y7, y8], _, h =>
    have e0 : y0.1.1 = 8 := by have := (h.2 0 y0 rfl).1; omega
    have e1 : y1.1.1 = 7 := by have := (h.2 1 y1 rfl).1; omega
    have e2 : y2.1.1 = 6 := by have := (h.2 2 y2 rfl).1; omega
    have e3 : y3.1.1 = 5 := by have := (h.2 3 y3 rfl).1; omega
    have e4 : y4.1.1 = 4 := by have := (h.2 4 y4 rfl).1; omega
    have e5 : y5.1.1 = 3 := by have := (h.2 5 y5 rfl).1; omega
    have e6 : y6.1.1 = 2 := by have := (h.2 6 y6 rfl).1; omega
    have e7 : y7.1.1 = 1 := by have := (h.2 7 y7 rfl).1; omega
    have e8 : y8.1.1 = 0 := by have := (h.2 8 y8 rfl).1; omega
    simp only [penned, List.foldl_cons, List.foldl_nil, e0, e1, e2, e3, e4, e5, e6, e7, e8]
    show Digs [digit (n0 / 10 / 10 / 10 / 10 / 10 / 10 / 10 / 10), digit (n0 / 10 / 10 / 10 / 10 / 10 / 10 / 10), digit (n0 / 10 / 10 / 10 / 10 / 10 / 10), digit (n0 / 10 / 10 / 10 / 10 / 10), digit (n0 / 10 / 10 / 10 / 10), digit (n0 / 10 / 10 / 10), digit (n0 / 10 / 10), digit (n0 / 10), digit n0] ∧ num [digit (n0 / 10 / 10 / 10 / 10 / 10 / 10 / 10 / 10), digit (n0 / 10 / 10 / 10 / 10 / 10 / 10 / 10), digit (n0 / 10 / 10 / 10 / 10 / 10 / 10), digit (n0 / 10 / 10 / 10 / 10 / 10), digit (n0 / 10 / 10 / 10 / 10), digit (n0 / 10 / 10 / 10), digit (n0 / 10 / 10), digit (n0 / 10), digit n0] = n0
    refine ⟨fun b hb => ?_, ?_⟩
    · have key : ∀ k, 48 ≤ (digit k).toNat ∧ (digit k).toNat ≤ 57 := fun k => by rw [digit_nat]; omega
      simp only [List.mem_cons, List.not_mem_nil, or_false] at hb
      rcases hb with rfl | rfl | rfl | rfl | rfl | rfl | rfl | rfl | rfl <;> exact key _
    · simp only [num, List.foldl_cons, List.foldl_nil, digit_dg]
      omega

/-- In the range of written: bx the text's box, bs the range's own. -/
def PenAt (w : World) (bx bs n0 : Nat) (pre : List (Down 9 256)) (W : World) : Prop :=
  (Boxed W w.heap.size 75 (.int .u32 ((penned n0 pre).2 : Int)) ∧ BlkB W (w.heap.size + 1) (penned n0 pre).1 ∧ Boxed W bx 94 (.slice (some ⟨w.heap.size + 1, 0, none⟩) 9 9) ∧ Boxed W bs 94 (.slice (some ⟨w.heap.size + 1, 0, none⟩) 9 9)) ∧ Below w.heap.size w W

theorem BlkB.kept {W W' : World} {row : Option Nat} {g : Nat} {L : List UInt8} (h : BlkB W g L) (hg : W.grownBy W' row) (hne : some g ≠ row) : BlkB W' g L := (hg.block g h.lt hne).trans h

theorem BlkB.alloc {W : World} {g : Nat} {L : List UInt8} (h : BlkB W g L) (o : Obj) : BlkB (W.alloc o) g L := h.kept (World.grownBy_alloc W o none) (by simp)

theorem PenAt.own (w : World) (bx bs n0 B : Nat) (h0 : w.heap.size + 1 < B) (hx : bx < B) (hs : bs < B) : OwnFrom B (PenAt w bx bs n0) := by
  intro s A A' row hs' hg hr
  have ne : ∀ k, k < B → some k ≠ row := fun k hk e => by have := (hr k e.symm).1; omega
  obtain ⟨⟨h1, h2, h3, h4⟩, h5⟩ := hs'
  exact ⟨⟨h1.kept hg (ne _ (by omega)), h2.kept hg (ne _ (by omega)), h3.kept hg (ne _ hx), h4.kept hg (ne _ hs)⟩, h5.grown hg h5.size (fun j hj => by have := (hr j hj).1; omega)⟩

theorem PenAt.lies {w : World} {bx bs n0 : Nat} {pre : List (Down 9 256)} {W : World} (h : PenAt w bx bs n0 pre W) : Lies .u8 9 256 bs (some ⟨w.heap.size + 1, 0, none⟩) 9 (fun _ _ => True) W := by
  obtain ⟨⟨h1, h2, h3, h4⟩, h5⟩ := h
  refine ⟨h4.cell, fun j hj => ?_⟩
  have hl := penned_len n0 pre
  refine ⟨_, _, ((penned n0 pre).1[j]'(by omega)).toNat, rfl, UInt8.toNat_lt _, trivial, ?_⟩
  rw [Nat.zero_add]
  exact h2.cell (List.getElem?_eq_getElem (by omega))

theorem PenAt.step {w : World} {bx bs n0 : Nat} {pre : List (Down 9 256)} {W : World} (h : PenAt w bx bs n0 pre W) (hx : w.heap.size + 1 < bx) (hs : w.heap.size + 1 < bs) (x : Down 9 256) :
    PenAt w bx bs n0 (pre ++ [x]) ((W.setCell ⟨w.heap.size + 1, x.1.1, none⟩ (.int .u8 ((digit (penned n0 pre).2).toNat : Int))).setCell ⟨w.heap.size, 0, none⟩ (.int .u32 (((penned n0 pre).2 / 10 : Nat) : Int))) := by
  obtain ⟨⟨h1, h2, h3, h4⟩, h5⟩ := h
  have g1 := grown_set W (w.heap.size + 1) x.1.1 (.int .u8 ((digit (penned n0 pre).2).toNat : Int))
  have g2 := grown_set (W.setCell ⟨w.heap.size + 1, x.1.1, none⟩ (.int .u8 ((digit (penned n0 pre).2).toNat : Int))) w.heap.size 0 (.int .u32 (((penned n0 pre).2 / 10 : Nat) : Int))
  unfold PenAt
  rw [penned_snoc]
  refine ⟨⟨(h1.kept g1 (by simp)).set _, (h2.set _ _).kept g2 (by simp), (h3.kept g1 (by simp; omega)).kept g2 (by simp; omega), (h4.kept g1 (by simp; omega)).kept g2 (by simp; omega)⟩, ?_⟩
  exact (h5.setCell (p := ⟨w.heap.size + 1, x.1.1, none⟩) (by simp) _).setCell (p := ⟨w.heap.size, 0, none⟩) (Nat.le_refl _) _

/-- What written answers: nine digits. -/
def Penned (w : World) (n0 : Nat) (e : Ending) (w' : World) : Prop :=
  ∃ g l, e = .returned (.slice (some ⟨g, 0, none⟩) 9 9) ∧ w.heap.size ≤ g ∧ g < w'.heap.size ∧ (∀ (i : Nat) (x : UInt8), l[i]? = some x → w'.cell? ⟨g, i, none⟩ = some (.int .u8 (x.toNat : Int))) ∧ l.length = 9 ∧ Digs l ∧ num l = n0 ∧ Below w.heap.size w w'

set_option maxRecDepth 100000 in
set_option maxHeartbeats 4000000 in
theorem written_in (F : Fence) (n : Nat) (h27 : F.fn 81) (h40 : F.fn 113) (h50 : F.fn 135) (hro : F.round = none) (hn : 3 ≤ n) (n0 : Nat) (w : World) (hn0 : n0 < 1000000000) :
    CallsIn F n Tryz.prog 81 #[.int .u32 (n0 : Int)] w (Penned w n0) := by
  have h1 : 1 ≤ n := by omega
  obtain ⟨i0, hi, hz0, hz1, hz2⟩ := info_parts Tryz.infoByte
  refine callsIn_of_wp_marks Tryz.func81 rfl h27 ?_ hro
  simp only [Tryz.ntmps81, List.size_toArray, List.length_cons, List.length_nil, Nat.reduceAdd, Nat.reduceSub, Array.replicate_succ, Array.replicate_zero, List.push_toArray, List.append_toArray, List.nil_append, List.cons_append]
  gi_wp2_with (gi_at_make; refine wpListIn_make_full _ rfl _ _ 94 rfl w.heap.size 5 i0 (.int .u8 0) 1 Tryz.underlying94 hi hz0 hz1 _ _ _ _ 9 rfl rfl rfl rfl (by rw [hz2]; decide) (by decide) (by simp) ?_)
  intro w1 hown hgrow
  have hblk : BlkB w1 (w.heap.size + 1) (List.replicate 9 0) := made_bytes hown
  have hbn : Boxed w1 w.heap.size 75 (.int .u32 (n0 : Int)) := (Boxed.new w _ _).kept hgrow (by simp)
  have hB1 : Below w.heap.size w w1 := ((Below.refl _ w).alloc (Nat.le_refl _) _).grown hgrow (by simp) (by simp)
  have hsz : w.heap.size + 1 < w1.heap.size := hblk.lt
  clear hown hgrow
  gi_wp2_with (gi_at_call 113; refine (back8_made F (n - 1) h40 hro _ _ _ _).mono ?_; rintro e w' ⟨rfl, rfl⟩)
  have bX := Boxed.new w1 94 (.slice (some ⟨w.heap.size + 1, 0, none⟩) 9 9)
  have bS := Boxed.new (w1.alloc (.cells #[.slice (some ⟨w.heap.size + 1, 0, none⟩) 9 9] 94)) 94 (.slice (some ⟨w.heap.size + 1, 0, none⟩) 9 9)
  rw [World.size_alloc] at bS
  have hP0 : PenAt w w1.heap.size (w1.heap.size + 1) n0 [] ((w1.alloc (.cells #[.slice (some ⟨w.heap.size + 1, 0, none⟩) 9 9] 94)).alloc (.cells #[.slice (some ⟨w.heap.size + 1, 0, none⟩) 9 9] 94)) :=
    ⟨⟨(hbn.alloc _).alloc _, (hblk.alloc _).alloc _, bX.alloc _, bS⟩, (hB1.alloc (by omega) _).alloc (by simp; omega) _⟩
  have hsz2 : ((w1.alloc (.cells #[.slice (some ⟨w.heap.size + 1, 0, none⟩) 9 9] 94)).alloc (.cells #[.slice (some ⟨w.heap.size + 1, 0, none⟩) 9 9] 94)).heap.size = w1.heap.size + 2 := by simp
  obtain ⟨W2, hW2⟩ : ∃ W2, W2 = (w1.alloc (.cells #[.slice (some ⟨w.heap.size + 1, 0, none⟩) 9 9] 94)).alloc (.cells #[.slice (some ⟨w.heap.size + 1, 0, none⟩) 9 9] 94) := ⟨_, rfl⟩
  rw [← hW2] at hP0 hsz2 ⊢
  clear hW2 bX bS hbn hblk hB1
  have hown := PenAt.own w w1.heap.size (w1.heap.size + 1) n0 W2.heap.size (by omega) (by omega) (by omega)
  refine wpIn_rangeFunc_ownG (w0 := W2) hro h1 (gf := 135) (lb := #[.pointer (some ⟨w1.heap.size + 1, 0, none⟩)]) rfl h50 (enters_of Tryz.func135 (by kernel_rfl) rfl)
    (back8_stops 256 F (n - 1) h50 hro (by omega) (w1.heap.size + 1) 9 9 (some ⟨w.heap.size + 1, 0, none⟩) (fun _ _ => True) (by decide) (fun W => ∃ pre, PenAt w w1.heap.size (w1.heap.size + 1) n0 pre W) (fun W ⟨pre, h⟩ => h.lies) W2 (fun W hb => ⟨[], hown [] W2 W none hP0 ⟨hb.os, hb.tape, hb.output, hb.size, fun k hk _ => hb.block k hk⟩ (by simp)⟩))
    (fun h k g => k (h g)) ?keeps (Below.refl _ _) (fun _ => rfl)
    (PenAt w w1.heap.size (w1.heap.size + 1) n0)
    (fun _ _ _ => False) hown
    (fun _ _ _ _ _ hs _ _ => hs)
    hP0
    (fun x => { tmps := #[.int .u32 (n0 : Int), .pointer (some ⟨w.heap.size, 0, none⟩), .slice none 0 0, .pointer (some ⟨w1.heap.size, 0, none⟩), .int .i64 (x.1.1 : Int), .slice (some ⟨w.heap.size + 1, 0, none⟩) 9 9, .slice (some ⟨w.heap.size + 1, 0, none⟩) 9 9, .func (.func 135) #[] #[.pointer (some ⟨w1.heap.size + 1, 0, none⟩)], .int .i64 (x.1.1 : Int), .int .u8 (x.1.2 : Int), undef, undef, undef, undef, undef, undef, undef, undef, undef, undef], defers := [] }) ?assign ?body ?done ?stop
  case keeps =>
    rintro W l o o' hl ho hc _ ⟨pre, h⟩
    exact ⟨pre, hown.putObj o' h hl ho hc⟩
  case assign =>
    intro l x W K hK
    gi_wp2
    exact hK
  case body =>
    rintro l pre x W hP _
    have hx9 := x.2.1
    have hle := penned_le n0 pre
    have hlen := penned_len n0 pre
    have hnew := hP.step hsz (by omega) x
    obtain ⟨⟨p1, p2, p3, p4⟩, hB⟩ := hP
    have c1 := p1.cell
    have f1 := p1.frozen
    have c2 := p2.cell (List.getElem?_eq_getElem (show x.1.1 < (penned n0 pre).1.length by omega))
    have f2 := p2.free x.1.1
    have c3 := p3.cell
    have hd : ((digit (penned n0 pre).2).toNat : Int) = 48 + ((penned n0 pre).2 : Int) % 10 := by rw [digit_nat]; omega
    have he : (((penned n0 pre).2 / 10 : Nat) : Int) = ((penned n0 pre).2 : Int) / 10 := by omega
    rw [hd, he] at hnew
    have HNEW := Lib.hid hnew
    clear hnew hd he p1 p2 p3 p4
    gi_wp2
    exact ⟨((KeepsOthers.setCell _ _ _).trans (KeepsOthers.setCell _ _ _)).from _, fun _ => ⟨_, HNEW.out⟩, HNEW.out⟩
  case done =>
    rintro D ys W hD ⟨hcame, hlen⟩ ⟨⟨p1, p2, p3, p4⟩, hB⟩ hK
    have hall := penned_all hn0 hcame hlen
    have HALL := Lib.hid hall
    have c3 := p3.cell
    have g := grownBy_putObj' W D (.deferred none)
    have hB2 : Below w.heap.size w (W.putObj D (.deferred none)) := hB.grown g hB.size (fun j hj => by have := Option.some.inj hj; omega)
    have p2' := p2.kept g (by simp; omega)
    have HB2 := Lib.hid hB2
    have HP2 := Lib.hid p2'
    clear hall p1 p2 p3 p4 hB g hB2 p2'
    gi_wp2
    refine ⟨by simp, .inl ⟨_, _, rfl, run_takeDeferred hK, ?_⟩⟩
    exact ⟨_, results_tmp rfl _ _ _, w.heap.size + 1, (penned n0 ys).1, rfl, by omega, HP2.out.lt, fun i x hx => HP2.out.cell hx, HALL.out.1, HALL.out.2.1, HALL.out.2.2, HB2.out⟩
  case stop =>
    rintro D c pre W _ _ h _
    exact h.elim

end Go.Proofs.YtepacminjfeliaaGreatDoor

/-
  The program's Text: a number's decimals. The number has 200 limbs at most.
-/
namespace Go.Proofs.YtepacminjfeliaaGreatDoor
open Go.RowKit Go.Shelf

attribute [local go_sem] Oper.semAt_some

/-- What the texts of these are worth together, read on. -/
def joined (pre : List Nat) : Nat := pre.foldl (fun s x => s * 1000000000 + x) 0

/-- In the range of Text, begun in world B: the text's box is the block w.heap.size. -/
def JoinAt {len : Nat} (w B : World) (pre : List (Down len 1000000000)) (W : World) : Prop :=
  (∃ v l, Boxed W w.heap.size 94 v ∧ OwnsB W B.heap.size v l ∧ Digs l ∧ l.length = 9 * pre.length ∧ num l = joined (pre.map fun p => p.1.2)) ∧ Below w.heap.size w W ∧ (∀ k, k < B.heap.size → k ≠ w.heap.size → W.heap[k]? = B.heap[k]?) ∧ B.heap.size ≤ W.heap.size

theorem OwnsB.kept {W W' : World} {base : Nat} {v : Value} {l : List UInt8} {row : Option Nat} (h : OwnsB W base v l) (hg : W.grownBy W' row) (hne : ∀ k, row = some k → ∃ o : Obj, W.heap[k]? = some o ∧ o.isCells = false) : OwnsB W' base v l := by
  obtain ⟨h1, h2⟩ := h
  refine ⟨h1, h2.imp id fun ⟨g, cap, cur, hv, hb, hh, r⟩ => ⟨g, cap, cur, hv, hb, ?_, r⟩⟩
  rw [hg.block g (lt_heap hh) (fun e => by
    obtain ⟨o, ho, hc⟩ := hne g e.symm
    rw [hh] at ho
    obtain rfl := Option.some.inj ho
    cases hc)]
  exact hh

theorem JoinAt.own {len : Nat} (w B : World) (h0 : w.heap.size < B.heap.size) : OwnFrom B.heap.size (JoinAt (len := len) w B) := by
  intro s A A' row hs hg hr
  obtain ⟨⟨v, l, h1, h2, h3⟩, h4, h5, h6⟩ := hs
  have ne : ∀ k, k < B.heap.size → some k ≠ row := fun k hk e => by have := (hr k e.symm).1; omega
  refine ⟨⟨v, l, h1.kept hg (ne _ h0), h2.kept hg fun k e => (hr k e).2, h3⟩, h4.grown hg h4.size (fun j hj => by have := (hr j hj).1; omega), fun k hk hk2 => ?_, Nat.le_trans h6 hg.size⟩
  rw [hg.block k (by omega) (ne k hk)]
  exact h5 k hk hk2

theorem joined_snoc (pre : List Nat) (x : Nat) : joined (pre ++ [x]) = joined pre * 1000000000 + x := by simp [joined, List.foldl_append]

theorem OwnsB.slice {W : World} {base : Nat} {v : Value} {l : List UInt8} (h : OwnsB W base v l) (h0 : 0 < l.length) : ∃ g n cap, v = .slice (some ⟨g, 0, none⟩) n cap := by
  rcases h.2 with ⟨_, h2⟩ | ⟨g, cap, cur, hv, _⟩
  · exact absurd h2 (by omega)
  · exact ⟨g, _, cap, hv⟩

/-- Bytes appended onto a row of the call's own, in a region that draws its order, in a fence. -/
theorem stepIn_pushB {F : Fence} {n : Nat} {ops : Array Oper} {o : Oper} {a : Act} {K : Act → World → Prop} {Q : Exit → Act → World → Prop} {E : Prop} (w : World) (hgd : o.guard = none) (s x : Operand)
    (ho : o.op = .call { callee := .builtin .append, args := #[s, x], argTypes := #[94, 94] }) (base : Nat) (v : Value) (l : List UInt8) (hs : a.eval s = v) (hown : OwnsB w base v l) (ad : Addr) (m c : Nat) (k : List UInt8)
    (hx : a.eval x = .slice (some ad) m c) (hk : k.length = m) (hc : ∀ (j : Nat) (b : UInt8), k[j]? = some b → w.cell? (ad.add j) = some (.int .u8 (b.toNat : Int))) (hl : l.length ≤ 100000) (hm : m ≤ 100000) (hb : base ≤ w.heap.size)
    (h : ∀ v' w', OwnsB w' base v' (l ++ k) → w.grownBy w' v.ownBlock → K (a.put o.dst v') w') : if Region.wanted o (yielded ops a.tmps) = true then Oper.wpIn F n Tryz.prog o a w K Q else E := by
  have hw : Region.wanted o (yielded ops a.tmps) = true := by simp [Region.wanted, hgd]
  rw [if_pos hw]
  obtain ⟨i0, hi, hz0, hz1, hz2⟩ := info_parts Tryz.infoByte
  obtain ⟨v', w', hrun, r1, r2, r3⟩ := run_append_own (P := Tryz.prog) w base 94 o.type 5 i0 (.int .u8 0) 1 1 Tryz.underlying94 hi hz0 hz1 hz2 rfl (by decide) v l.length _ hown ad m c (byteVals k) (by rw [byteVals_len, hk, Nat.mul_one]) (by
    intro j u hj
    unfold byteVals at hj
    rw [List.getElem?_map] at hj
    cases hkj : k[j]? with
    | none => rw [hkj] at hj; simp at hj
    | some b => rw [hkj] at hj; simp at hj; subst hj; exact hc j b hkj) (by
    intro u hu
    obtain ⟨b, _, rfl⟩ := List.mem_map.1 hu
    rfl) (by unfold maxLen; omega) (by omega) hb
  unfold Oper.wpIn
  refine ⟨?_, ?_⟩
  · simp [Oper.about, ho, resolve, Target.leads, Sem.run_pure]
  · rw [Oper.semAt_plain F _ _ (by rw [ho]; intro c hc'; cases hc')]
    simp [execOp, ho, resolve, invoke, builtin, hs, hx, hrun, Result.andThen]
    exact h _ _ (by unfold OwnsB; rw [List.length_append, hk, byteVals_append]; exact r1) r2

theorem JoinAt.step {len : Nat} {w B W w3 w5 : World} {pre : List (Down len 1000000000)} {x : Down len 1000000000} {v v' : Value} {L l3 : List UInt8} (h0 : w.heap.size < B.heap.size)
    (p1 : Boxed W w.heap.size 94 v) (p2 : OwnsB W B.heap.size v L) (p3 : Digs L) (p4 : L.length = 9 * pre.length) (p5 : num L = joined (pre.map fun p => p.1.2))
    (q1 : Below w.heap.size w W) (q2 : ∀ k, k < B.heap.size → k ≠ w.heap.size → W.heap[k]? = B.heap[k]?) (q3 : B.heap.size ≤ W.heap.size)
    (hb : Below W.heap.size W w3) (hg : w3.grownBy w5 v.ownBlock) (ho : OwnsB w5 B.heap.size v' (L ++ l3)) (hd : Digs l3) (hl : l3.length = 9) (hn : num l3 = x.1.2) :
    Boxed w5 w.heap.size 94 v ∧ KeepsOthers W (w5.setCell ⟨w.heap.size, 0, none⟩ v') ∧ JoinAt w B (pre ++ [x]) (w5.setCell ⟨w.heap.size, 0, none⟩ v') := by
  have hlt := World.ownsRow.lt p2
  have r1 : Boxed w3 w.heap.size 94 v := below_heap hb p1
  have ne : ∀ k, k < B.heap.size → some k ≠ v.ownBlock := fun k hk e => by have := (hlt k e.symm).1; omega
  have r2 : Boxed w5 w.heap.size 94 v := r1.kept hg (ne _ h0)
  have p2' : OwnsB w3 B.heap.size v L := p2.below hb
  refine ⟨r2, ?_, ⟨⟨v', L ++ l3, r2.set v', ownsRow_setCell_below ho h0 v', p3.append hd, ?_, ?_⟩, ?_, ?_, ?_⟩⟩
  · refine (KeepsOthers.trans ⟨hb.size, fun k o hk _ => below_heap hb hk⟩ (KeepsOthers.of_grownBy hg fun j o ej hj => ?_)).trans (KeepsOthers.setCell _ _ _)
    rcases p2'.2 with ⟨rfl, _⟩ | ⟨g, cap, cur, rfl, _, hgb, _⟩
    · simp [Value.ownBlock] at ej
    · obtain rfl : g = j := by simpa [Value.ownBlock] using ej
      rw [hgb] at hj
      obtain rfl := Option.some.inj hj
      rfl
  · rw [List.length_append, List.length_append, List.length_singleton, p4, hl]; omega
  · rw [num_append, hl, hn, p5, List.map_append, List.map_singleton, joined_snoc]
  · refine ((q1.trans (hb.mono q1.size)).grown hg (Nat.le_trans q1.size hb.size) fun j hj => ?_).setCell (p := ⟨w.heap.size, 0, none⟩) (Nat.le_refl _) _
    have := (hlt j hj).1
    omega
  · intro k hk hk2
    rw [(grown_set w5 w.heap.size 0 v').block k (by have := hg.size; have := hb.size; omega) (by simpa using hk2), hg.block k (by have := hb.size; omega) (ne k hk), hb.block k (by omega)]
    exact q2 k hk hk2
  · have h1 := hg.size
    have h2 := hb.size
    have h3 := (grown_set w5 w.heap.size 0 v').size
    omega

theorem came_from {ns : List Nat} : ∀ (m : Nat) (ys : List (Down ns.length 1000000000)), m + ys.length = ns.length → (∀ (k : Nat) (p : Down ns.length 1000000000), ys[k]? = some p → p.1.1 + k + 1 = ns.length ∧ p.1.2 = at0 ns p.1.1) → ys.map (fun p => p.1.2) = (ns.drop m).reverse := by
  intro m ys hm h
  apply List.ext_getElem?
  intro k
  rw [List.getElem?_map]
  by_cases hk : k < ys.length
  · rw [List.getElem?_eq_getElem hk]
    obtain ⟨h1, h2⟩ := h k _ (List.getElem?_eq_getElem hk)
    rw [List.getElem?_reverse (by rw [List.length_drop]; omega), List.length_drop, List.getElem?_drop, Option.map_some, h2]
    unfold at0
    rw [List.getD_eq_getElem?_getD, show m + (ns.length - m - 1 - k) = (ys[k]'hk).1.1 by omega, List.getElem?_eq_getElem (by omega)]
    rfl
  · rw [List.getElem?_eq_none (by omega), List.getElem?_eq_none (by rw [List.length_reverse, List.length_drop]; omega)]
    rfl

theorem came_joined {ns : List Nat} {ys : List (Down ns.length 1000000000)} (h : Came ns.length 1000000000 (fun j x => x = at0 ns j) ys) (hl : ys.length = ns.length) : joined (ys.map fun p => p.1.2) = bil ns := by
  rw [came_from 0 ys (by omega) h.2, List.drop_zero]
  exact hib_reverse ns

set_option maxRecDepth 100000 in
set_option maxHeartbeats 4000000 in
theorem text_in (n : Nat) (hn : 6 ≤ n) {w : World} {va : Value} {a : List Nat} (ra : Rd w va a) (la : a.length ≤ 200) :
    CallsIn Fence.wide n Tryz.prog 56 #[va] w (Texted w (val a)) := by
  have h1 : 1 ≤ n := by omega
  obtain ⟨ada, na, ca, rfl, -⟩ := id ra
  obtain ⟨K, hK, hK1, hK2⟩ : ∃ K, val a < 10 ^ K ∧ 1 ≤ K ∧ K ≤ 2010 := ⟨10 * a.length + 1, Nat.lt_of_lt_of_le (val_lt a ra.lim) (Nat.le_trans (pw_ten _) (ten_le (by omega))), by omega, by omega⟩
  have HK := Lib.hid hK
  clear hK
  have ra1 := ra.below (alb w (.cells #[.slice none 0 0] 94))
  have bA := Boxed.new w 94 (.slice none 0 0)
  have HB0 := alb w (.cells #[.slice none 0 0] 94)
  refine callsIn_of_wp_marks Tryz.func56 rfl trivial ?_ rfl
  simp only [Tryz.ntmps56, List.size_toArray, List.length_cons, List.length_nil, Nat.reduceAdd, Nat.reduceSub, Array.replicate_succ, Array.replicate_zero, List.push_toArray, List.append_toArray, List.nil_append, List.cons_append]
  gi_wp2_with fail
  refine ⟨trivial, ?_⟩
  refine (callsIn_wide.2 (nines_any ra1 la HK.out hK1 (by omega))).mono ?_
  rintro e w1 ⟨ad1, n1, cap1, ns, rfl, r1, s1, v1, c1, hb1⟩
  have hle1 : ns.length ≤ 300 := by omega
  obtain ⟨hn1, -, hlim1, hcell1⟩ := r1.open
  subst hn1
  have bA1 : Boxed w1 w.heap.size 94 (.slice none 0 0) := (hb1.block _ (by simp)).trans bA
  have HB1 : Below w.heap.size w w1 := past hb1
  have hsz1 : w.heap.size < w1.heap.size := lt_heap bA1
  have V1 := Lib.hid v1
  clear bA HB0 ra ra1 v1 hb1
  gi_wp2_with fail
  refine ⟨trivial, ?_⟩
  refine (back32_made Fence.wide (n - 1) trivial rfl _ _ _ _).mono ?_
  rintro e w' ⟨rfl, rfl⟩
  gi_wp2_with fail
  have bS := Boxed.new w1 38 (.slice ad1 ns.length cap1)
  obtain ⟨B, hB⟩ : ∃ B, B = w1.alloc (.cells #[.slice ad1 ns.length cap1] 38) := ⟨_, rfl⟩
  have hsB : B.heap.size = w1.heap.size + 1 := by rw [hB]; simp
  have bA2 : Boxed B w.heap.size 94 (.slice none 0 0) := by rw [hB]; exact bA1.alloc _
  have HB2 : Below w.heap.size w B := by rw [hB]; exact HB1.alloc HB1.size _
  have r2 : Rd B (.slice ad1 ns.length cap1) ns := by rw [hB]; exact r1.below (alb _ _)
  have r0 : ∀ b o, ad1 = some ⟨b, o, none⟩ → 0 < ns.length → b ≠ w.heap.size := by
    rintro b o rfl h0 rfl
    obtain ⟨b', o', e, _, hc⟩ := hcell1 h0
    obtain ⟨rfl, rfl⟩ : w.heap.size = b' ∧ o = o' := by simpa using e
    have h2 := hc 0 h0
    unfold Boxed at bA1
    simp only [World.cell?, bA1] at h2
    rw [Nat.add_zero] at h2
    rcases o with _ | o
    · simp at h2
    · simp at h2
  rw [← hB] at bS ⊢
  clear bA1 HB1 hB
  have hP0 : JoinAt (len := ns.length) w B [] B := ⟨⟨_, [], bA2, OwnsB.nil _ _, Digs.nil, rfl, rfl⟩, HB2, fun _ _ _ => rfl, Nat.le_refl _⟩
  have hown := JoinAt.own (len := ns.length) w B (by omega)
  have hlies : ∀ W, (∃ pre, JoinAt (len := ns.length) w B pre W) → Lies .u32 ns.length 1000000000 w1.heap.size ad1 cap1 (fun j x => x = at0 ns j) W := by
    rintro W ⟨pre, _, _, hk, _⟩
    refine ⟨(World.cell?_of_block (a := ⟨w1.heap.size, 0, none⟩) (hk w1.heap.size (by omega) (by omega))).trans bS.cell, fun j hj => ?_⟩
    obtain ⟨b, o, e, hb, hc⟩ := (r2.open).2.2.2 (by omega)
    have hlt : at0 ns j < 1000000000 := by
      unfold at0
      rw [List.getD_eq_getElem?_getD, List.getElem?_eq_getElem (by omega)]
      exact s1 _ (List.getElem_mem _)
    exact ⟨b, o, at0 ns j, e, hlt, rfl, (World.cell?_of_block (a := ⟨b, o + j, none⟩) (hk b hb (r0 b o e (by omega)))).trans (hc j hj)⟩
  refine wpIn_rangeFunc_ownG (w0 := B) rfl h1 (gf := 111) (lb := #[.pointer (some ⟨w1.heap.size, 0, none⟩)]) rfl trivial (enters_of Tryz.func111 (by kernel_rfl) rfl)
    (back32_stops 1000000000 Fence.wide (n - 1) trivial rfl (by omega) w1.heap.size ns.length cap1 ad1 (fun j x => x = at0 ns j) (by omega) (fun W => ∃ pre, JoinAt (len := ns.length) w B pre W) hlies B (fun W hb => ⟨[], hown [] B W none hP0 ⟨hb.os, hb.tape, hb.output, hb.size, fun k hk _ => hb.block k hk⟩ (by simp)⟩))
    (fun h k g => k (h g)) ?keeps (Below.refl _ _) (fun _ => rfl)
    (JoinAt (len := ns.length) w B)
    (fun _ _ _ => False) hown
    (fun _ _ _ _ _ hs _ _ => hs)
    hP0
    (fun x => { tmps := #[.slice ada na ca, undef, .string ⟨#[]⟩, .pointer (some ⟨w.heap.size, 0, none⟩), undef, .int .u32 (x.1.2 : Int), undef, .slice ada na ca, .slice ad1 ns.length cap1, .func (.func 111) #[] #[.pointer (some ⟨w1.heap.size, 0, none⟩)], .int .i64 (x.1.1 : Int), .int .u32 (x.1.2 : Int), undef, undef, undef, undef, undef, undef, undef, undef, undef, undef], defers := [] }) ?assign ?body ?done ?stop
  case keeps =>
    rintro W l o o' hl ho hc _ ⟨pre, h⟩
    exact ⟨pre, hown.putObj o' h hl ho hc⟩
  case assign =>
    intro l x W K hK
    gi_wp2
    exact hK
  case body =>
    rintro l pre x W hP _
    have hmx : Tryz.prog.follows .mixedOrders = true := by kernel_rfl
    gi_wp2
    obtain ⟨⟨v, L, p1, p2, p3, p4, p5⟩, q1, q2, q3⟩ := hP
    have hd : 1 ≤ n - 1 - 1 := by omega
    have c1 := p1.cell
    have f1 := p1.frozen
    have hB1 := hsB
    refine wpIn_region_any (by assumption) ?_
    change wpAnyIn _ _ _ _ _ _ _ _ _ (World.drew _)
    refine wpAnyIn_ready (rs := [0, 1]) (by kernel_rfl) (by simp) ?_
    refine AllReadyIn.cons rfl (fun K hK => ?_) (AllReadyIn.cons rfl (fun K hK => ?_) AllReadyIn.nil)
    · go_simp
      refine hK _ _ ?_
      clear hK K
      refine wpAnyIn_ready (rs := [1]) (by kernel_rfl) (by simp) ?_
      refine AllReadyIn.cons rfl (fun K hK => ?_) AllReadyIn.nil
      go_simp
      refine hK _ _ ?_
      clear hK K
      refine wpAnyIn_ready (rs := [2]) (by kernel_rfl) (by simp) ?_
      refine AllReadyIn.cons rfl (fun K hK => ?_) AllReadyIn.nil
      go_simp
      gi_wp2_with fail
      refine ⟨trivial, ?_⟩
      refine (CallsIn.inRound l (written_in Fence.wide _ trivial trivial trivial rfl (by omega) x.1.2 _ x.2.2)).mono ?_
      rintro e w3 ⟨g3, l3, rfl, hg3, hlt3, hc3, hl3, hd3, hn3, hb3'⟩
      have hb3 : Below W.heap.size W w3 := ((Below.refl W.heap.size W).drew).trans hb3'
      have c4 := (hb3.cell (p := ⟨w.heap.size, 0, none⟩) (show w.heap.size < W.heap.size by omega)).trans c1
      gi_wp2_with fail
      refine wpAnyIn_ready (rs := [3]) (by kernel_rfl) (by simp) ?_
      refine AllReadyIn.cons rfl (fun K hK => ?_) AllReadyIn.nil
      refine stepIn_pushB _ rfl _ _ rfl B.heap.size v L rfl (OwnsB.below p2 hb3) ⟨g3, 0, none⟩ 9 9 l3 rfl hl3 (fun j b hj => by rw [add_at, Nat.zero_add]; exact hc3 j b hj) (by omega) (by omega) (by have := hb3.size; omega) ?_
      intro v' w5 ho5 hg5
      obtain ⟨g5, m5, k5, rfl⟩ := ho5.slice (by rw [List.length_append]; omega)
      obtain ⟨r1, r2, r3⟩ := JoinAt.step (x := x) (by omega) p1 p2 p3 p4 p5 q1 q2 q3 hb3 hg5 ho5 hd3 hl3 hn3
      have c5 := r1.cell
      have f5 := r1.frozen
      refine hK _ _ ?_
      clear hK K
      refine wpAnyIn_ready (rs := [4]) (by kernel_rfl) (by simp) ?_
      refine AllReadyIn.cons rfl (fun K hK => ?_) AllReadyIn.nil
      go_simp
      refine hK _ _ ?_
      clear hK K
      refine wpAnyIn_done (by kernel_rfl) ?_ _
      gi_wp2
      exact ⟨r2.from _, fun _ => ⟨_, r3⟩, r3⟩
    · go_simp
      refine hK _ _ ?_
      clear hK K
      refine wpAnyIn_ready (rs := [0, 2]) (by kernel_rfl) (by simp) ?_
      refine AllReadyIn.cons rfl (fun K hK => ?_) (AllReadyIn.cons rfl (fun K hK => ?_) AllReadyIn.nil)
      · go_simp
        refine hK _ _ ?_
        clear hK K
        refine wpAnyIn_ready (rs := [2]) (by kernel_rfl) (by simp) ?_
        refine AllReadyIn.cons rfl (fun K hK => ?_) AllReadyIn.nil
        go_simp
        gi_wp2_with fail
        refine ⟨trivial, ?_⟩
        refine (CallsIn.inRound l (written_in Fence.wide _ trivial trivial trivial rfl (by omega) x.1.2 _ x.2.2)).mono ?_
        rintro e w3 ⟨g3, l3, rfl, hg3, hlt3, hc3, hl3, hd3, hn3, hb3'⟩
        have hb3 : Below W.heap.size W w3 := ((Below.refl W.heap.size W).drew).trans hb3'
        have c4 := (hb3.cell (p := ⟨w.heap.size, 0, none⟩) (show w.heap.size < W.heap.size by omega)).trans c1
        gi_wp2_with fail
        refine wpAnyIn_ready (rs := [3]) (by kernel_rfl) (by simp) ?_
        refine AllReadyIn.cons rfl (fun K hK => ?_) AllReadyIn.nil
        refine stepIn_pushB _ rfl _ _ rfl B.heap.size v L rfl (OwnsB.below p2 hb3) ⟨g3, 0, none⟩ 9 9 l3 rfl hl3 (fun j b hj => by rw [add_at, Nat.zero_add]; exact hc3 j b hj) (by omega) (by omega) (by have := hb3.size; omega) ?_
        intro v' w5 ho5 hg5
        obtain ⟨g5, m5, k5, rfl⟩ := ho5.slice (by rw [List.length_append]; omega)
        obtain ⟨r1, r2, r3⟩ := JoinAt.step (x := x) (by omega) p1 p2 p3 p4 p5 q1 q2 q3 hb3 hg5 ho5 hd3 hl3 hn3
        have c5 := r1.cell
        have f5 := r1.frozen
        refine hK _ _ ?_
        clear hK K
        refine wpAnyIn_ready (rs := [4]) (by kernel_rfl) (by simp) ?_
        refine AllReadyIn.cons rfl (fun K hK => ?_) AllReadyIn.nil
        go_simp
        refine hK _ _ ?_
        clear hK K
        refine wpAnyIn_done (by kernel_rfl) ?_ _
        gi_wp2
        exact ⟨r2.from _, fun _ => ⟨_, r3⟩, r3⟩
      · go_simp
        gi_wp2_with fail
        refine ⟨trivial, ?_⟩
        refine (CallsIn.inRound l (written_in Fence.wide _ trivial trivial trivial rfl (by omega) x.1.2 _ x.2.2)).mono ?_
        rintro e w3 ⟨g3, l3, rfl, hg3, hlt3, hc3, hl3, hd3, hn3, hb3'⟩
        have hb3 : Below W.heap.size W w3 := ((Below.refl W.heap.size W).drew).trans hb3'
        have c4 := (hb3.cell (p := ⟨w.heap.size, 0, none⟩) (show w.heap.size < W.heap.size by omega)).trans c1
        gi_wp2_with fail
        refine wpAnyIn_ready (rs := [0]) (by kernel_rfl) (by simp) ?_
        refine AllReadyIn.cons rfl (fun K hK => ?_) AllReadyIn.nil
        go_simp
        refine hK _ _ ?_
        clear hK K
        refine wpAnyIn_ready (rs := [3]) (by kernel_rfl) (by simp) ?_
        refine AllReadyIn.cons rfl (fun K hK => ?_) AllReadyIn.nil
        refine stepIn_pushB _ rfl _ _ rfl B.heap.size v L rfl (OwnsB.below p2 hb3) ⟨g3, 0, none⟩ 9 9 l3 rfl hl3 (fun j b hj => by rw [add_at, Nat.zero_add]; exact hc3 j b hj) (by omega) (by omega) (by have := hb3.size; omega) ?_
        intro v' w5 ho5 hg5
        obtain ⟨g5, m5, k5, rfl⟩ := ho5.slice (by rw [List.length_append]; omega)
        obtain ⟨r1, r2, r3⟩ := JoinAt.step (x := x) (by omega) p1 p2 p3 p4 p5 q1 q2 q3 hb3 hg5 ho5 hd3 hl3 hn3
        have c5 := r1.cell
        have f5 := r1.frozen
        refine hK _ _ ?_
        clear hK K
        refine wpAnyIn_ready (rs := [4]) (by kernel_rfl) (by simp) ?_
        refine AllReadyIn.cons rfl (fun K hK => ?_) AllReadyIn.nil
        go_simp
        refine hK _ _ ?_
        clear hK K
        refine wpAnyIn_done (by kernel_rfl) ?_ _
        gi_wp2
        exact ⟨r2.from _, fun _ => ⟨_, r3⟩, r3⟩
  case done =>
    rintro D ys W hD ⟨hcame, hlen⟩ ⟨⟨v, L, p1, p2, p3, p4, p5⟩, q1, q2, q3⟩ hK
    have c1 := p1.cell
    have hnum : num L = val a := by rw [p5, came_joined hcame hlen, V1.out]
    have hconv := string_of p2.rd
    have hL : (⟨L.toArray⟩ : ByteArray).size = L.length := by simp [ByteArray.size]
    have htrim := fun w' => trim_any ⟨L.toArray⟩ w'
    rw [by0_mk] at htrim
    obtain ⟨T, hT⟩ : ∃ T, T = L.dropWhile (· == 48) := ⟨_, rfl⟩
    have hTn : num T = val a := by rw [hT, num_drop, hnum]
    have hTd : T ≠ [] → Dec T := fun h => by rw [hT] at h ⊢; exact drop_dec p3 h
    rw [← hT] at htrim
    have g := grownBy_putObj' W D (.deferred none)
    have hB2 : Below w.heap.size w (W.putObj D (.deferred none)) := q1.grown g q1.size (fun j hj => by have := Option.some.inj hj; omega)
    have HT := Lib.hid hTn
    have HD := Lib.hid hTd
    have HB2' := Lib.hid hB2
    have htl : (⟨T.toArray⟩ : ByteArray).toList = T := (Lib.toList_data _).trans (by0_mk T)
    have HTR := Lib.hid htrim
    clear hnum hTn hTd g hB2 p1 p2 p3 p4 p5 q1 q2 q3 hT hlies hown hP0 HB2 htrim hL
    gi_wp2_with fail
    refine ⟨trivial, ?_⟩
    refine (callsIn_wide.2 (HTR.out W)).mono ?_
    rintro e w' ⟨rfl, rfl⟩
    by_cases h0 : T = []
    · subst h0
      gi_wp2
      refine ⟨by simp, .inl ⟨_, _, rfl, run_takeDeferred hK, ?_⟩⟩
      exact ⟨_, results_tmp rfl _ _ _, ⟨#[48]⟩, rfl, Dec.zero, by rw [← HT.out]; rfl, HB2'.out⟩
    · have hne : T.isEmpty = false := by cases T with
        | nil => exact absurd rfl h0
        | cons b l => rfl
      gi_wp2
      refine ⟨by simp, .inl ⟨_, _, rfl, run_takeDeferred hK, ?_⟩⟩
      exact ⟨_, results_tmp rfl _ _ _, ⟨T.toArray⟩, rfl, by rw [by0_mk]; exact HD.out h0, by rw [by0_mk]; exact HT.out, HB2'.out⟩
  case stop =>
    rintro D c pre W _ _ h _
    exact h.elim

theorem text_any {w : World} {va : Value} {a : List Nat} (ra : Rd w va a) (la : a.length ≤ 200) : Calls Tryz.prog 56 #[va] w (Texted w (val a)) :=
  (callsIn_wide (n := 6)).1 (text_in 6 (by decide) ra la)

end Go.Proofs.YtepacminjfeliaaGreatDoor

/-
  The contracts of digits once more, in the forms that the statements ask for.
-/
namespace Go.Proofs.YtepacminjfeliaaGreatDoor
open Go.RowKit

theorem lit4 (w : World) (p q r s : Nat) (hp : p < 4294967296) (hq : q < 4294967296) (hr : r < 4294967296) (hs : s < 4294967296) : Rd (w.alloc (.cells #[.int .u32 (p : Int), .int .u32 (q : Int), .int .u32 (r : Int), .int .u32 (s : Int)] 75)) (.slice (some ⟨w.heap.size, 0, none⟩) 4 4) [p, q, r, s] :=
  Blk.rd (g := w.heap.size) (l := [p, q, r, s]) (heap_alloc_new w _) (fun x hx => by simp at hx; omega) rfl (Nat.le_refl _)

theorem parse_ok (s : ByteArray) (w : World) (hD : Dec (by0 s)) (hl : s.size ≤ 1900) :
    Calls Tryz.prog 53 #[.string s] w fun e w' => ∃ ad n cap l, e = .returned (.tuple #[.slice ad n cap, .int .i64 0]) ∧ Rd w' (.slice ad n cap) l ∧ Can l ∧ val l = num (by0 s) ∧ Below w.heap.size w w' :=
  (parse_any s w (by omega)).mono fun e w' h => by
    have hlen := by0_len s
    obtain ⟨hb, ⟨h, _⟩ | ⟨_, h, _⟩ | ⟨_, _, ad, n, cap, l, he, hr, hc, hv⟩⟩ := h
    · exact absurd hD h
    · omega
    · exact ⟨ad, n, cap, l, he, hr, hc, hv, hb⟩

theorem parse_bad (s : ByteArray) (w : World) (hs : s.size ≤ 1000000) (hD : ¬ Dec (by0 s)) :
    Calls Tryz.prog 53 #[.string s] w fun e w' => e = .returned (.tuple #[.slice none 0 0, .int .i64 12]) ∧ Below w.heap.size w w' :=
  (parse_any s w hs).mono fun e w' h => by
    obtain ⟨hb, ⟨_, h⟩ | ⟨h, _⟩ | ⟨h, _⟩⟩ := h
    · exact ⟨h, hb⟩
    · exact absurd h hD
    · exact absurd h hD

theorem parse_long (s : ByteArray) (w : World) (hs : s.size ≤ 1000000) (hD : Dec (by0 s)) (hl : 1900 < s.size) :
    Calls Tryz.prog 53 #[.string s] w fun e w' => e = .returned (.tuple #[.slice none 0 0, .int .i64 2]) ∧ Below w.heap.size w w' :=
  (parse_any s w hs).mono fun e w' h => by
    have hlen := by0_len s
    obtain ⟨hb, ⟨h, _⟩ | ⟨_, _, h⟩ | ⟨_, h, _⟩⟩ := h
    · exact absurd hD h
    · exact ⟨h, hb⟩
    · omega

theorem rparse_ok (s : ByteArray) (w : World) (hD : Dec (by0 s)) (hl : s.size ≤ 1900) :
    Calls Tryz.prog 31 #[.string s] w fun e w' => ∃ ad n cap l, e = .returned (.tuple #[.slice ad n cap, .int .i64 0]) ∧ Rd w' (.slice ad n cap) l ∧ Can l ∧ val l = num (by0 s) ∧ Below w.heap.size w w' :=
  (rparse_any s w (by omega)).mono fun e w' h => by
    have hlen := by0_len s
    obtain ⟨hb, ⟨h, _⟩ | ⟨_, h, _⟩ | ⟨_, _, ad, n, cap, l, he, hr, hc, hv⟩⟩ := h
    · exact absurd hD h
    · omega
    · exact ⟨ad, n, cap, l, he, hr, hc, hv, hb⟩

theorem rparse_bad (s : ByteArray) (w : World) (hs : s.size ≤ 1000000) (hD : ¬ Dec (by0 s)) :
    Calls Tryz.prog 31 #[.string s] w fun e w' => e = .returned (.tuple #[.slice none 0 0, .int .i64 12]) ∧ Below w.heap.size w w' :=
  (rparse_any s w hs).mono fun e w' h => by
    obtain ⟨hb, ⟨_, h⟩ | ⟨h, _⟩ | ⟨h, _⟩⟩ := h
    · exact ⟨h, hb⟩
    · exact absurd h hD
    · exact absurd h hD

theorem rparse_long (s : ByteArray) (w : World) (hs : s.size ≤ 1000000) (hD : Dec (by0 s)) (hl : 1900 < s.size) :
    Calls Tryz.prog 31 #[.string s] w fun e w' => e = .returned (.tuple #[.slice none 0 0, .int .i64 2]) ∧ Below w.heap.size w w' :=
  (rparse_any s w hs).mono fun e w' h => by
    have hlen := by0_len s
    obtain ⟨hb, ⟨h, _⟩ | ⟨_, _, h⟩ | ⟨_, h, _⟩⟩ := h
    · exact absurd hD h
    · exact ⟨h, hb⟩
    · omega

theorem by0_append (s t : ByteArray) : by0 (s ++ t) = by0 s ++ by0 t := by
  unfold by0
  rw [ByteArray.data_append, Array.toList_append]

theorem bytes_eq {s t : ByteArray} (h : by0 s = by0 t) : s = t := by rw [← mk_by0 s, ← mk_by0 t, h]

theorem text_is {w : World} {va : Value} {a : List Nat} (ra : Rd w va a) (la : a.length ≤ 200) {s : ByteArray} (hs : Dec (by0 s)) (hn : num (by0 s) = val a) :
    Calls Tryz.prog 56 #[va] w fun e w' => e = .returned (.string s) ∧ Below w.heap.size w w' :=
  (text_any ra la).mono fun e w' h => by
    obtain ⟨t, he, hd, hv, hb⟩ := h
    have e := bytes_eq (hd.inj hs (hv.trans hn.symm))
    subst e
    exact ⟨he, hb⟩

theorem rtext_is {w : World} {va : Value} {a : List Nat} (ra : Rd w va a) (la : a.length ≤ 1000) {s : ByteArray} (hs : Dec (by0 s)) (hn : num (by0 s) = val a) :
    Calls Tryz.prog 61 #[va] w fun e w' => e = .returned (.string s) ∧ Below w.heap.size w w' :=
  (rtext_any ra la).mono fun e w' h => by
    obtain ⟨t, he, hd, hv, hb⟩ := h
    have e := bytes_eq (hd.inj hs (hv.trans hn.symm))
    subst e
    exact ⟨he, hb⟩

theorem rright_is (s : ByteArray) (w : World) (hs : s.size ≤ 1000000) {b : Bool} (h : decide (Dec (by0 s)) = b) : Calls Tryz.prog 30 #[.string s] w (Samed w b) := h ▸ rright_any s w hs

theorem right_is (s : ByteArray) (w : World) {b : Bool} (h : decide (Dec (by0 s)) = b) : Calls Tryz.prog 52 #[.string s] w (Samed w b) := h ▸ right_any s w

/-- A text's size, where its number is of few limbs. -/
theorem text_size {s : ByteArray} (hs : Dec (by0 s)) {l : List Nat} (hl : Lim l) (hn : num (by0 s) = val l) {k : Nat} (hk : l.length ≤ k) (h1 : 1 ≤ k) : s.size ≤ 10 * k := by
  have := hs.limbs (k := k) (by rw [hn]; exact val_small hl hk) h1
  rwa [by0_len] at this

end Go.Proofs.YtepacminjfeliaaGreatDoor

/-
  Exact numbers as texts: a number's text, the parts of any text, what it is worth. No condition.
-/
namespace Go.Proofs.YtepacminjfeliaaGreatDoor

/-- A number's decimals. -/
def dec (n : Nat) : List UInt8 := if n < 10 then [digit n] else dec (n / 10) ++ [digit n]

theorem dec_good (n : Nat) : Dec (dec n) ∧ num (dec n) = n := by
  induction n using Nat.strongRecOn with
  | ind n ih =>
    unfold dec
    by_cases h : n < 10
    · rw [if_pos h]
      refine ⟨⟨Digs.one (by rw [digit_nat]; omega) (by rw [digit_nat]; omega), by simp, fun h => by simp at h⟩, ?_⟩
      rw [num_one, digit_dg]; omega
    · rw [if_neg h]
      obtain ⟨h1, h2⟩ := ih (n / 10) (by omega)
      refine ⟨⟨h1.1.append (Digs.one (by rw [digit_nat]; omega) (by rw [digit_nat]; omega)), by simp, fun _ he => ?_⟩, ?_⟩
      · have h3 := h1.pos
        cases h4 : dec (n / 10) with
        | nil => rw [h4] at h3; simp at h3
        | cons b l =>
          rw [h4] at he h1 h2
          have hb : b = 48 := by simpa using he
          subst hb
          cases l with
          | nil => have : num [48] = 0 := rfl
                   omega
          | cons c l => exact h1.2.2 (by simp) rfl
      · rw [num_snoc, h2, digit_dg]; omega

theorem dec_dec (n : Nat) : Dec (dec n) := (dec_good n).1
theorem dec_num (n : Nat) : num (dec n) = n := (dec_good n).2

/-- Right decimals are those of their number. -/
theorem Dec.eq {l : List UInt8} (h : Dec l) : l = dec (num l) := h.inj (dec_dec _) (dec_num _).symm

theorem dec_inj {m n : Nat} (h : dec m = dec n) : m = n := by rw [← dec_num m, h, dec_num]

theorem dec_zero : dec 0 = [48] := by unfold dec; rfl
theorem dec_one : dec 1 = [49] := by unfold dec; rfl

theorem no_slash {l : List UInt8} (h : Digs l) : ∀ b ∈ l, (b != 47) = true := fun b hb => by
  have := (h b hb).1
  simp only [bne_iff_ne, ne_eq]
  intro e
  subst e
  exact absurd this (by decide)

/-- A number with a sign. -/
def sgn (neg : Bool) (n : Nat) : Int := if neg then -(n : Int) else n

/-- The text of a number. -/
def rtxt (q : Rat) : List UInt8 := (if q.num < 0 then [45] else []) ++ (dec q.num.natAbs ++ (if q.den = 1 then [] else 47 :: dec q.den))

/-- A text's sign. -/
def negB (l : List UInt8) : Bool := l.head? == some 45

/-- A text without its sign. -/
def body (l : List UInt8) : List UInt8 := if negB l then l.tail else l

/-- What stands ahead of the first slash. -/
def ahead (l : List UInt8) : List UInt8 := (body l).takeWhile (· != 47)

/-- Is there a slash? -/
def slash (l : List UInt8) : Bool := (body l).any (· == 47)

/-- What stands behind it; one, if there is none. -/
def behind (l : List UInt8) : List UInt8 := if slash l then ((body l).dropWhile (· != 47)).tail else [49]

/-- Both parts are right decimals. -/
def Formed (l : List UInt8) : Prop := Dec (ahead l) ∧ Dec (behind l)

instance (l : List UInt8) : Decidable (Formed l) := inferInstanceAs (Decidable (_ ∧ _))

/-- What a text is worth. -/
def worth (l : List UInt8) : Rat := mkRat (sgn (negB l) (num (ahead l))) (num (behind l))

theorem negB_rtxt (q : Rat) : negB (rtxt q) = decide (q.num < 0) := by
  unfold negB rtxt
  by_cases h : q.num < 0
  · rw [if_pos h, decide_eq_true h]; rfl
  · rw [if_neg h, decide_eq_false h, List.nil_append]
    have h1 := (dec_dec q.num.natAbs).pos
    have h2 := (dec_dec q.num.natAbs).1
    cases hd : dec q.num.natAbs with
    | nil => rw [hd] at h1; simp at h1
    | cons b l =>
      rw [hd] at h2
      have := h2.head.1
      rw [List.cons_append, List.head?_cons]
      simp only [beq_eq_false_iff_ne, ne_eq, Option.some.injEq]
      intro e
      subst e
      exact absurd this (by decide)

theorem body_rtxt (q : Rat) : body (rtxt q) = dec q.num.natAbs ++ (if q.den = 1 then [] else 47 :: dec q.den) := by
  unfold body
  rw [negB_rtxt]
  unfold rtxt
  by_cases h : q.num < 0
  · rw [decide_eq_true h, if_pos h]; rfl
  · rw [decide_eq_false h, if_neg h]; rfl

theorem takeWhile_app {l m : List UInt8} (h : ∀ b ∈ l, (b != 47) = true) : (l ++ m).takeWhile (· != 47) = l ++ m.takeWhile (· != 47) := List.takeWhile_append_of_pos h

theorem ahead_rtxt (q : Rat) : ahead (rtxt q) = dec q.num.natAbs := by
  unfold ahead
  rw [body_rtxt, takeWhile_app (no_slash (dec_dec _).1)]
  split
  · simp
  · rw [List.takeWhile_cons_of_neg (by decide)]; simp

theorem any_slash {l : List UInt8} (h : Digs l) : l.any (· == 47) = false := by
  rw [List.any_eq_false]
  intro b hb
  have := no_slash h b hb
  simpa using this

theorem slash_rtxt (q : Rat) : slash (rtxt q) = !(decide (q.den = 1)) := by
  unfold slash
  rw [body_rtxt, List.any_append, any_slash (dec_dec _).1, Bool.false_or]
  by_cases h : q.den = 1
  · rw [if_pos h, decide_eq_true h]; rfl
  · rw [if_neg h, decide_eq_false h]; rfl

theorem behind_rtxt (q : Rat) : behind (rtxt q) = dec q.den := by
  unfold behind
  rw [slash_rtxt, body_rtxt]
  by_cases h : q.den = 1
  · rw [decide_eq_true h, h, dec_one]; rfl
  · rw [decide_eq_false h, if_neg h]
    simp only [Bool.not_false, if_true]
    rw [List.dropWhile_append_of_pos (no_slash (dec_dec _).1), List.dropWhile_cons_of_neg (by decide)]
    rfl

theorem formed_rtxt (q : Rat) : Formed (rtxt q) := ⟨by rw [ahead_rtxt]; exact dec_dec _, by rw [behind_rtxt]; exact dec_dec _⟩

theorem sgn_abs (z : Int) : sgn (decide (z < 0)) z.natAbs = z := by
  unfold sgn
  by_cases h : z < 0
  · rw [decide_eq_true h, if_pos rfl]; omega
  · rw [decide_eq_false h]; simp; omega

theorem worth_rtxt (q : Rat) : worth (rtxt q) = q := by
  unfold worth
  rw [negB_rtxt, ahead_rtxt, behind_rtxt, dec_num, dec_num, sgn_abs]
  exact Rat.mkRat_self q

/-- Each number has one text. -/
theorem rtxt_inj {p q : Rat} (h : rtxt p = rtxt q) : p = q := by rw [← worth_rtxt p, h, worth_rtxt]

/-- This is a number's text, of 1900 bytes at most. -/
def Good (l : List UInt8) : Prop := l.length ≤ 1900 ∧ rtxt (worth l) = l

instance (l : List UInt8) : Decidable (Good l) := inferInstanceAs (Decidable (_ ∧ _))

theorem good_rtxt {q : Rat} (h : (rtxt q).length ≤ 1900) : Good (rtxt q) := ⟨h, by rw [worth_rtxt]⟩

theorem Good.formed {l : List UInt8} (h : Good l) : Formed l := by rw [← h.2]; exact formed_rtxt _

theorem Good.inj {l m : List UInt8} (h : Good l) (k : Good m) (e : worth l = worth m) : l = m := by rw [← h.2, ← k.2, e]

theorem Good.den {l : List UInt8} (h : Good l) : num (behind l) ≠ 0 := by
  rw [← h.2, behind_rtxt, dec_num]
  exact (worth l).den_nz

end Go.Proofs.YtepacminjfeliaaGreatDoor

/-
  Exact numbers by a sign and two parts: their text, sums, products, quotients, order. No condition but that what is below is not 0.
-/
namespace Go.Proofs.YtepacminjfeliaaGreatDoor

/-- A number by a sign and two parts. -/
def qv (neg : Bool) (P Q : Nat) : Rat := mkRat (sgn neg P) Q

theorem worth_qv (l : List UInt8) : worth l = qv (negB l) (num (ahead l)) (num (behind l)) := rfl

theorem sgn_natAbs (neg : Bool) (n : Nat) : (sgn neg n).natAbs = n := by cases neg <;> simp [sgn]

theorem sgn_mul (a b : Bool) (m n : Nat) : sgn a m * sgn b n = sgn (a != b) (m * n) := by
  cases a <;> cases b <;> simp [sgn, Int.neg_mul, Int.mul_neg]

theorem sgn_times (a : Bool) (m n : Nat) : sgn a m * (n : Int) = sgn a (m * n) := by
  cases a <;> simp [sgn, Int.neg_mul]

theorem sgn_neg (a : Bool) (n : Nat) : -sgn a n = sgn (!a) n := by cases a <;> simp [sgn]

theorem sgn_div (neg : Bool) {n g : Nat} (h : g ∣ n) : sgn neg n / (g : Int) = sgn neg (n / g) := by
  unfold sgn
  cases neg
  · rfl
  · simp only [if_true]
    rw [Int.neg_ediv_of_dvd (Int.natCast_dvd_natCast.2 h)]
    rfl

theorem qv_num (neg : Bool) (P : Nat) {Q : Nat} (h : Q ≠ 0) : (qv neg P Q).num = sgn neg (P / Nat.gcd P Q) := by
  unfold qv
  rw [Rat.num_mkRat, if_neg h, sgn_natAbs, Nat.gcd_comm Q P, sgn_div neg (Nat.gcd_dvd_left P Q)]

theorem qv_den (neg : Bool) (P : Nat) {Q : Nat} (h : Q ≠ 0) : (qv neg P Q).den = Q / Nat.gcd P Q := by
  unfold qv
  rw [Rat.den_mkRat, if_neg h, sgn_natAbs, Nat.gcd_comm Q P]

theorem sgn_lt (neg : Bool) (n : Nat) : (sgn neg n < 0) ↔ (neg = true ∧ n ≠ 0) := by
  cases neg
  · simp [sgn]
  · simp [sgn]
    omega

/-- The text of a number by its parts. -/
theorem qv_text (neg : Bool) (P : Nat) {Q : Nat} (h : Q ≠ 0) :
    rtxt (qv neg P Q) = (if neg = true ∧ P / Nat.gcd P Q ≠ 0 then [45] else []) ++ (dec (P / Nat.gcd P Q) ++ (if Q / Nat.gcd P Q = 1 then [] else 47 :: dec (Q / Nat.gcd P Q))) := by
  unfold rtxt
  rw [qv_num neg P h, qv_den neg P h, sgn_natAbs]
  simp only [sgn_lt]

theorem qv_mul (n m : Bool) (P Q R S : Nat) : qv n P Q * qv m R S = qv (n != m) (P * R) (Q * S) := by
  unfold qv
  rw [Rat.mkRat_mul_mkRat, sgn_mul]

theorem qv_add_same (n : Bool) (P R : Nat) {Q S : Nat} (hQ : Q ≠ 0) (hS : S ≠ 0) : qv n P Q + qv n R S = qv n (P * S + R * Q) (Q * S) := by
  unfold qv
  rw [Rat.mkRat_add_mkRat _ _ hQ hS, sgn_times, sgn_times]
  congr 1
  cases n <;> simp [sgn]; omega

theorem qv_add_more (n : Bool) {P R Q S : Nat} (hQ : Q ≠ 0) (hS : S ≠ 0) (h : R * Q ≤ P * S) : qv n P Q + qv (!n) R S = qv n (P * S - R * Q) (Q * S) := by
  unfold qv
  rw [Rat.mkRat_add_mkRat _ _ hQ hS, sgn_times, sgn_times]
  congr 1
  cases n <;> simp only [sgn, Bool.not_false, Bool.not_true, if_true, if_false, Bool.false_eq_true] <;> omega

theorem qv_add_less (n : Bool) {P R Q S : Nat} (hQ : Q ≠ 0) (hS : S ≠ 0) (h : P * S ≤ R * Q) : qv n P Q + qv (!n) R S = qv (!n) (R * Q - P * S) (Q * S) := by
  unfold qv
  rw [Rat.mkRat_add_mkRat _ _ hQ hS, sgn_times, sgn_times]
  congr 1
  cases n <;> simp only [sgn, Bool.not_false, Bool.not_true, if_true, if_false, Bool.false_eq_true] <;> omega

theorem qv_neg (n : Bool) (P Q : Nat) : -qv n P Q = qv (!n) P Q := by
  unfold qv
  rw [Rat.neg_mkRat, sgn_neg]

theorem qv_zero (n : Bool) (P : Nat) {Q : Nat} (hQ : Q ≠ 0) : qv n P Q = 0 ↔ P = 0 := by
  unfold qv
  rw [Rat.mkRat_eq_zero hQ]
  cases n <;> simp [sgn]

theorem qv_div (n m : Bool) (P : Nat) {Q R S : Nat} (hQ : Q ≠ 0) (hR : R ≠ 0) (hS : S ≠ 0) : qv n P Q / qv m R S = qv (n != m) (P * S) (Q * R) := by
  have h0 : qv m R S ≠ 0 := fun h => hR ((qv_zero m R hS).1 h)
  have h1 : qv (n != m) (P * S) (Q * R) * qv m R S = qv n P Q := by
    rw [qv_mul]
    have e : ((n != m) != m) = n := by cases n <;> cases m <;> rfl
    rw [e]
    unfold qv
    rw [Rat.mkRat_eq_iff (Nat.mul_ne_zero (Nat.mul_ne_zero hQ hR) hS) hQ, sgn_times, sgn_times]
    congr 1
    rw [Nat.mul_assoc, Nat.mul_assoc, Nat.mul_assoc]
    congr 1
    rw [Nat.mul_comm S, Nat.mul_assoc, Nat.mul_comm R, Nat.mul_assoc, Nat.mul_comm S R]
  rw [← h1, Rat.mul_div_cancel h0]

theorem pos_cast {n : Nat} (h : n ≠ 0) : (0 : Rat) < ((n : Nat) : Rat) := Rat.natCast_pos.2 (by omega)

theorem qv_lt (n m : Bool) (P R : Nat) {Q S : Nat} (hQ : Q ≠ 0) (hS : S ≠ 0) : qv n P Q < qv m R S ↔ sgn n (P * S) < sgn m (R * Q) := by
  unfold qv
  rw [Rat.mkRat_eq_div, Rat.mkRat_eq_div, Rat.div_lt_iff (pos_cast hQ), ← sgn_times, ← sgn_times, ← Rat.intCast_lt_intCast, Rat.intCast_mul, Rat.intCast_mul]
  have e : ((sgn m R : Int) : Rat) / ((S : Nat) : Rat) * ((Q : Nat) : Rat) = ((sgn m R : Int) : Rat) * ((Q : Nat) : Rat) / ((S : Nat) : Rat) := by
    rw [Rat.div_def, Rat.div_def, Rat.mul_assoc, Rat.mul_assoc, Rat.mul_comm _ ((Q : Nat) : Rat)]
  rw [e, Rat.lt_div_iff (pos_cast hS)]
  rfl

end Go.Proofs.YtepacminjfeliaaGreatDoor
