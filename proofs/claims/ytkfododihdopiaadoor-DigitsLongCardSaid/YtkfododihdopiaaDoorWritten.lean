/-
  The program's written: nine digits of a number below a billion, noughts ahead too. No condition but that bound.
-/
import Derived.Test.YtkfododihdopiaaDoorBackward
namespace Go.Proofs.YtkfododihdopiaaDoor
open Go.RowKit Go.Shelf

attribute [local go_sem] Oper.semAt_some

theorem wpListIn_make_full {F : Fence} {d : Nat} {P : Program} (w : World) {ops : Array Oper} {rest : List Oper} {o : Oper} {a : Act} {Q : Exit → Act → World → Prop}
    (hg : o.guard = none) (l c : Operand) (t : TypeId) (hop : o.op = Op.makeSlice t l c)
    (base : Nat) (e : TypeId) (i : TypeInfo) (z : Value) (size : Nat) (h1 : P.underlying t = some (.slice e)) (h2 : P.info? e = some i) (h3 : i.zero = some z) (h4 : i.size = size)
    (kl kc : IntKind) (L C : Int) (n : Nat) (hl : a.eval l = .int kl L) (hc : a.eval c = .int kc C) (hL : L = (n : Int)) (hC : C = (n : Int)) (b2 : i.bytes * n ≤ 281474976710656) (b3 : n ≤ maxLen) (b4 : base ≤ w.heap.size)
    (hK : ∀ w', w'.ownsRow base e size (.slice (some ⟨w.heap.size, 0, none⟩) n n) n (madeCells z.cells (n * size)).toList → w.grownBy w' none → wpListIn F d P ops Q rest (a.put o.dst (.slice (some ⟨w.heap.size, 0, none⟩) n n)) w') :
    wpListIn F d P ops Q (o :: rest) a w := by
  refine wpListIn_plain hg fun K hK' => ?_
  obtain ⟨w', hrun, r1, r2⟩ := run_make_full (P := P) w base t e i z size h1 h2 h3 h4 kl kc n b2 b3 b4
  subst hL
  subst hC
  unfold Oper.wpIn
  refine ⟨?_, ?_⟩
  · simp [Oper.about, hop]
  · rw [Oper.semAt_plain F _ _ (by rw [hop]; intro c hc'; cases hc')]
    simp [execOp, hop, hl, hc, hrun, Result.andThen]
    exact hK' _ _ (hK w' r1 r2)

/-- Block g holds just these bytes. -/
def BlkB (w : World) (g : Nat) (L : List UInt8) : Prop := w.heap[g]? = some (.cells (byteVals L).toArray 5 (0, 0))

theorem BlkB.cell {w : World} {g : Nat} {L : List UInt8} (h : BlkB w g L) {i : Nat} {x : UInt8} (hi : L[i]? = some x) : w.cell? ⟨g, i, none⟩ = some (.int .u8 (x.toNat : Int)) := by
  unfold BlkB at h
  simp [World.cell?, h, byteVals_at hi]

theorem BlkB.free {w : World} {g : Nat} {L : List UInt8} (h : BlkB w g L) (i : Nat) : w.frozen? ⟨g, i, none⟩ = false := by
  unfold BlkB at h
  simp [World.frozen?, h]

theorem BlkB.lt {w : World} {g : Nat} {L : List UInt8} (h : BlkB w g L) : g < w.heap.size := lt_heap h

theorem BlkB.set {w : World} {g : Nat} {L : List UInt8} (h : BlkB w g L) (i : Nat) (x : UInt8) : BlkB (w.setCell ⟨g, i, none⟩ (.int .u8 (x.toNat : Int))) g (L.set i x) := by
  unfold BlkB at h ⊢
  simp only [World.setCell, Array.getElem?_modify, if_pos, h, Option.map_some]
  simp [byteVals, List.map_set]

theorem made_bytes {w1 : World} {base n b : Nat} (h : w1.ownsRow base 5 1 (.slice (some ⟨b, 0, none⟩) n n) n (madeCells #[Value.int .u8 0] n).toList) : BlkB w1 b (List.replicate n 0) := by
  obtain ⟨h1, h2⟩ := h
  rcases h2 with ⟨h2, _⟩ | ⟨g, cap, cur, hv, _, hg, _, _, hs, ht⟩
  · cases h2
  · simp only [Value.slice.injEq, Option.some.injEq, Addr.mk.injEq, and_true, true_and] at hv
    obtain ⟨rfl, rfl⟩ := hv
    unfold BlkB
    rw [hg]
    have e : cur = (byteVals (List.replicate n 0)).toArray := by
      apply Array.ext'
      rw [List.take_of_length_le (by simp [hs])] at ht
      rw [ht]
      have := toList_madeCells_one (.int .u8 0) n
      simpa [byteVals] using this
    rw [e]

/-- What the text and the number are when these have come out. -/
def penned (n0 : Nat) (pre : List (Down 9 256)) : List UInt8 × Nat := pre.foldl (fun s p => (s.1.set p.1.1 (digit s.2), s.2 / 10)) (List.replicate 9 0, n0)

theorem penned_snoc (n0 : Nat) (pre : List (Down 9 256)) (x : Down 9 256) : penned n0 (pre ++ [x]) = ((penned n0 pre).1.set x.1.1 (digit (penned n0 pre).2), (penned n0 pre).2 / 10) := by simp [penned, List.foldl_append]

theorem penned_from (pre : List (Down 9 256)) : ∀ s : List UInt8 × Nat, (pre.foldl (fun s p => (s.1.set p.1.1 (digit s.2), s.2 / 10)) s).1.length = s.1.length ∧ (pre.foldl (fun s p => (s.1.set p.1.1 (digit s.2), s.2 / 10)) s).2 ≤ s.2 := by
  induction pre with
  | nil => intro s; exact ⟨rfl, Nat.le_refl _⟩
  | cons x pre ih =>
    intro s
    obtain ⟨h1, h2⟩ := ih (s.1.set x.1.1 (digit s.2), s.2 / 10)
    exact ⟨h1.trans (by rw [List.length_set]), Nat.le_trans h2 (Nat.div_le_self _ _)⟩

theorem penned_len (n0 : Nat) (pre : List (Down 9 256)) : (penned n0 pre).1.length = 9 := (penned_from pre (List.replicate 9 0, n0)).1

theorem penned_le (n0 : Nat) (pre : List (Down 9 256)) : (penned n0 pre).2 ≤ n0 := (penned_from pre (List.replicate 9 0, n0)).2

theorem penned_all {n0 : Nat} (hn : n0 < 1000000000) {P : Nat → Nat → Prop} {ys : List (Down 9 256)} (h : Came 9 256 P ys) (hl : ys.length = 9) : (penned n0 ys).1.length = 9 ∧ Digs (penned n0 ys).1 ∧ num (penned n0 ys).1 = n0 := by
  refine ⟨penned_len n0 ys, ?_⟩
  match ys, hl, h with
  | [y0, y1, y2, y3, y4, y5, y6, y7, y8], _, h =>
    have e0 : y0.1.1 = 8 := by have := (h.2 0 y0 rfl).1; omega
    have e1 : y1.1.1 = 7 := by have := (h.2 1 y1 rfl).1; omega
    have e2 : y2.1.1 = 6 := by have := (h.2 2 y2 rfl).1; omega
    have e3 : y3.1.1 = 5 := by have := (h.2 3 y3 rfl).1; omega
    have e4 : y4.1.1 = 4 := by have := (h.2 4 y4 rfl).1; omega
    have e5 : y5.1.1 = 3 := by have := (h.2 5 y5 rfl).1; omega
    have e6 : y6.1.1 = 2 := by have := (h.2 6 y6 rfl).1; omega
    have e7 : y7.1.1 = 1 := by have := (h.2 7 y7 rfl).1; omega
    have e8 : y8.1.1 = 0 := by have := (h.2 8 y8 rfl).1; omega
    simp only [penned, List.foldl_cons, List.foldl_nil, e0, e1, e2, e3, e4, e5, e6, e7, e8]
    show Digs [digit (n0 / 10 / 10 / 10 / 10 / 10 / 10 / 10 / 10), digit (n0 / 10 / 10 / 10 / 10 / 10 / 10 / 10), digit (n0 / 10 / 10 / 10 / 10 / 10 / 10), digit (n0 / 10 / 10 / 10 / 10 / 10), digit (n0 / 10 / 10 / 10 / 10), digit (n0 / 10 / 10 / 10), digit (n0 / 10 / 10), digit (n0 / 10), digit n0] ∧ num [digit (n0 / 10 / 10 / 10 / 10 / 10 / 10 / 10 / 10), digit (n0 / 10 / 10 / 10 / 10 / 10 / 10 / 10), digit (n0 / 10 / 10 / 10 / 10 / 10 / 10), digit (n0 / 10 / 10 / 10 / 10 / 10), digit (n0 / 10 / 10 / 10 / 10), digit (n0 / 10 / 10 / 10), digit (n0 / 10 / 10), digit (n0 / 10), digit n0] = n0
    refine ⟨fun b hb => ?_, ?_⟩
    · have key : ∀ k, 48 ≤ (digit k).toNat ∧ (digit k).toNat ≤ 57 := fun k => by rw [digit_nat]; omega
      simp only [List.mem_cons, List.not_mem_nil, or_false] at hb
      rcases hb with rfl | rfl | rfl | rfl | rfl | rfl | rfl | rfl | rfl <;> exact key _
    · simp only [num, List.foldl_cons, List.foldl_nil, digit_dg]
      omega

/-- In the range of written: bx the text's box, bs the range's own. -/
def PenAt (w : World) (bx bs n0 : Nat) (pre : List (Down 9 256)) (W : World) : Prop :=
  (Boxed W w.heap.size 35 (.int .u32 ((penned n0 pre).2 : Int)) ∧ BlkB W (w.heap.size + 1) (penned n0 pre).1 ∧ Boxed W bx 33 (.slice (some ⟨w.heap.size + 1, 0, none⟩) 9 9) ∧ Boxed W bs 33 (.slice (some ⟨w.heap.size + 1, 0, none⟩) 9 9)) ∧ Below w.heap.size w W

theorem BlkB.kept {W W' : World} {row : Option Nat} {g : Nat} {L : List UInt8} (h : BlkB W g L) (hg : W.grownBy W' row) (hne : some g ≠ row) : BlkB W' g L := (hg.block g h.lt hne).trans h

theorem BlkB.alloc {W : World} {g : Nat} {L : List UInt8} (h : BlkB W g L) (o : Obj) : BlkB (W.alloc o) g L := h.kept (World.grownBy_alloc W o none) (by simp)

theorem PenAt.own (w : World) (bx bs n0 B : Nat) (h0 : w.heap.size + 1 < B) (hx : bx < B) (hs : bs < B) : OwnFrom B (PenAt w bx bs n0) := by
  intro s A A' row hs' hg hr
  have ne : ∀ k, k < B → some k ≠ row := fun k hk e => by have := (hr k e.symm).1; omega
  obtain ⟨⟨h1, h2, h3, h4⟩, h5⟩ := hs'
  exact ⟨⟨h1.kept hg (ne _ (by omega)), h2.kept hg (ne _ (by omega)), h3.kept hg (ne _ hx), h4.kept hg (ne _ hs)⟩, h5.grown hg h5.size (fun j hj => by have := (hr j hj).1; omega)⟩

theorem PenAt.lies {w : World} {bx bs n0 : Nat} {pre : List (Down 9 256)} {W : World} (h : PenAt w bx bs n0 pre W) : Lies .u8 9 256 bs (some ⟨w.heap.size + 1, 0, none⟩) 9 (fun _ _ => True) W := by
  obtain ⟨⟨h1, h2, h3, h4⟩, h5⟩ := h
  refine ⟨h4.cell, fun j hj => ?_⟩
  have hl := penned_len n0 pre
  refine ⟨_, _, ((penned n0 pre).1[j]'(by omega)).toNat, rfl, UInt8.toNat_lt _, trivial, ?_⟩
  rw [Nat.zero_add]
  exact h2.cell (List.getElem?_eq_getElem (by omega))

theorem PenAt.step {w : World} {bx bs n0 : Nat} {pre : List (Down 9 256)} {W : World} (h : PenAt w bx bs n0 pre W) (hx : w.heap.size + 1 < bx) (hs : w.heap.size + 1 < bs) (x : Down 9 256) :
    PenAt w bx bs n0 (pre ++ [x]) ((W.setCell ⟨w.heap.size + 1, x.1.1, none⟩ (.int .u8 ((digit (penned n0 pre).2).toNat : Int))).setCell ⟨w.heap.size, 0, none⟩ (.int .u32 (((penned n0 pre).2 / 10 : Nat) : Int))) := by
  obtain ⟨⟨h1, h2, h3, h4⟩, h5⟩ := h
  have g1 := grown_set W (w.heap.size + 1) x.1.1 (.int .u8 ((digit (penned n0 pre).2).toNat : Int))
  have g2 := grown_set (W.setCell ⟨w.heap.size + 1, x.1.1, none⟩ (.int .u8 ((digit (penned n0 pre).2).toNat : Int))) w.heap.size 0 (.int .u32 (((penned n0 pre).2 / 10 : Nat) : Int))
  unfold PenAt
  rw [penned_snoc]
  refine ⟨⟨(h1.kept g1 (by simp)).set _, (h2.set _ _).kept g2 (by simp), (h3.kept g1 (by simp; omega)).kept g2 (by simp; omega), (h4.kept g1 (by simp; omega)).kept g2 (by simp; omega)⟩, ?_⟩
  exact (h5.setCell (p := ⟨w.heap.size + 1, x.1.1, none⟩) (by simp) _).setCell (p := ⟨w.heap.size, 0, none⟩) (Nat.le_refl _) _

/-- What written answers: nine digits. -/
def Penned (w : World) (n0 : Nat) (e : Ending) (w' : World) : Prop :=
  ∃ g l, e = .returned (.slice (some ⟨g, 0, none⟩) 9 9) ∧ w.heap.size ≤ g ∧ g < w'.heap.size ∧ (∀ (i : Nat) (x : UInt8), l[i]? = some x → w'.cell? ⟨g, i, none⟩ = some (.int .u8 (x.toNat : Int))) ∧ l.length = 9 ∧ Digs l ∧ num l = n0 ∧ Below w.heap.size w w'

set_option maxRecDepth 100000 in
set_option maxHeartbeats 4000000 in
theorem written_in (F : Fence) (n : Nat) (h27 : F.fn 27) (h40 : F.fn 40) (h50 : F.fn 50) (hro : F.round = none) (hn : 3 ≤ n) (n0 : Nat) (w : World) (hn0 : n0 < 1000000000) :
    CallsIn F n Tryd.prog 27 #[.int .u32 (n0 : Int)] w (Penned w n0) := by
  have h1 : 1 ≤ n := by omega
  obtain ⟨i0, hi, hz0, hz1, hz2⟩ := info_parts Tryd.infoByte
  refine callsIn_of_wp_marks Tryd.func27 rfl h27 ?_ hro
  simp only [Tryd.ntmps27, List.size_toArray, List.length_cons, List.length_nil, Nat.reduceAdd, Nat.reduceSub, Array.replicate_succ, Array.replicate_zero, List.push_toArray, List.append_toArray, List.nil_append, List.cons_append]
  gi_wp2_with (gi_at_make; refine wpListIn_make_full _ rfl _ _ 33 rfl w.heap.size 5 i0 (.int .u8 0) 1 Tryd.underlying33 hi hz0 hz1 _ _ _ _ 9 rfl rfl rfl rfl (by rw [hz2]; decide) (by decide) (by simp) ?_)
  intro w1 hown hgrow
  have hblk : BlkB w1 (w.heap.size + 1) (List.replicate 9 0) := made_bytes hown
  have hbn : Boxed w1 w.heap.size 35 (.int .u32 (n0 : Int)) := (Boxed.new w _ _).kept hgrow (by simp)
  have hB1 : Below w.heap.size w w1 := ((Below.refl _ w).alloc (Nat.le_refl _) _).grown hgrow (by simp) (by simp)
  have hsz : w.heap.size + 1 < w1.heap.size := hblk.lt
  clear hown hgrow
  gi_wp2_with (gi_at_call 40; refine (back8_made F (n - 1) h40 hro _ _ _ _).mono ?_; rintro e w' ⟨rfl, rfl⟩)
  have bX := Boxed.new w1 33 (.slice (some ⟨w.heap.size + 1, 0, none⟩) 9 9)
  have bS := Boxed.new (w1.alloc (.cells #[.slice (some ⟨w.heap.size + 1, 0, none⟩) 9 9] 33)) 33 (.slice (some ⟨w.heap.size + 1, 0, none⟩) 9 9)
  rw [World.size_alloc] at bS
  have hP0 : PenAt w w1.heap.size (w1.heap.size + 1) n0 [] ((w1.alloc (.cells #[.slice (some ⟨w.heap.size + 1, 0, none⟩) 9 9] 33)).alloc (.cells #[.slice (some ⟨w.heap.size + 1, 0, none⟩) 9 9] 33)) :=
    ⟨⟨(hbn.alloc _).alloc _, (hblk.alloc _).alloc _, bX.alloc _, bS⟩, (hB1.alloc (by omega) _).alloc (by simp; omega) _⟩
  have hsz2 : ((w1.alloc (.cells #[.slice (some ⟨w.heap.size + 1, 0, none⟩) 9 9] 33)).alloc (.cells #[.slice (some ⟨w.heap.size + 1, 0, none⟩) 9 9] 33)).heap.size = w1.heap.size + 2 := by simp
  obtain ⟨W2, hW2⟩ : ∃ W2, W2 = (w1.alloc (.cells #[.slice (some ⟨w.heap.size + 1, 0, none⟩) 9 9] 33)).alloc (.cells #[.slice (some ⟨w.heap.size + 1, 0, none⟩) 9 9] 33) := ⟨_, rfl⟩
  rw [← hW2] at hP0 hsz2 ⊢
  clear hW2 bX bS hbn hblk hB1
  have hown := PenAt.own w w1.heap.size (w1.heap.size + 1) n0 W2.heap.size (by omega) (by omega) (by omega)
  refine wpIn_rangeFunc_ownG (w0 := W2) hro h1 (gf := 50) (lb := #[.pointer (some ⟨w1.heap.size + 1, 0, none⟩)]) rfl h50 (enters_of Tryd.func50 (by kernel_rfl) rfl)
    (back8_stops 256 F (n - 1) h50 hro (by omega) (w1.heap.size + 1) 9 9 (some ⟨w.heap.size + 1, 0, none⟩) (fun _ _ => True) (by decide) (fun W => ∃ pre, PenAt w w1.heap.size (w1.heap.size + 1) n0 pre W) (fun W ⟨pre, h⟩ => h.lies) W2 (fun W hb => ⟨[], hown [] W2 W none hP0 ⟨hb.os, hb.tape, hb.output, hb.size, fun k hk _ => hb.block k hk⟩ (by simp)⟩))
    (fun h k g => k (h g)) ?keeps (Below.refl _ _) (fun _ => rfl)
    (PenAt w w1.heap.size (w1.heap.size + 1) n0)
    (fun _ _ _ => False) hown
    (fun _ _ _ _ _ hs _ _ => hs)
    hP0
    (fun x => { tmps := #[.int .u32 (n0 : Int), .pointer (some ⟨w.heap.size, 0, none⟩), .slice none 0 0, .pointer (some ⟨w1.heap.size, 0, none⟩), .int .i64 (x.1.1 : Int), .slice (some ⟨w.heap.size + 1, 0, none⟩) 9 9, .slice (some ⟨w.heap.size + 1, 0, none⟩) 9 9, .func (.func 50) #[] #[.pointer (some ⟨w1.heap.size + 1, 0, none⟩)], .int .i64 (x.1.1 : Int), .int .u8 (x.1.2 : Int), undef, undef, undef, undef, undef, undef, undef, undef, undef, undef], defers := [] }) ?assign ?body ?done ?stop
  case keeps =>
    rintro W l o o' hl ho hc _ ⟨pre, h⟩
    exact ⟨pre, hown.putObj o' h hl ho hc⟩
  case assign =>
    intro l x W K hK
    gi_wp2
    exact hK
  case body =>
    rintro l pre x W hP _
    have hx9 := x.2.1
    have hle := penned_le n0 pre
    have hlen := penned_len n0 pre
    have hnew := hP.step hsz (by omega) x
    obtain ⟨⟨p1, p2, p3, p4⟩, hB⟩ := hP
    have c1 := p1.cell
    have f1 := p1.frozen
    have c2 := p2.cell (List.getElem?_eq_getElem (show x.1.1 < (penned n0 pre).1.length by omega))
    have f2 := p2.free x.1.1
    have c3 := p3.cell
    have hd : ((digit (penned n0 pre).2).toNat : Int) = 48 + ((penned n0 pre).2 : Int) % 10 := by rw [digit_nat]; omega
    have he : (((penned n0 pre).2 / 10 : Nat) : Int) = ((penned n0 pre).2 : Int) / 10 := by omega
    rw [hd, he] at hnew
    have HNEW := Lib.hid hnew
    clear hnew hd he p1 p2 p3 p4
    gi_wp2
    exact ⟨((KeepsOthers.setCell _ _ _).trans (KeepsOthers.setCell _ _ _)).from _, fun _ => ⟨_, HNEW.out⟩, HNEW.out⟩
  case done =>
    rintro D ys W hD ⟨hcame, hlen⟩ ⟨⟨p1, p2, p3, p4⟩, hB⟩ hK
    have hall := penned_all hn0 hcame hlen
    have HALL := Lib.hid hall
    have c3 := p3.cell
    have g := grownBy_putObj' W D (.deferred none)
    have hB2 : Below w.heap.size w (W.putObj D (.deferred none)) := hB.grown g hB.size (fun j hj => by have := Option.some.inj hj; omega)
    have p2' := p2.kept g (by simp; omega)
    have HB2 := Lib.hid hB2
    have HP2 := Lib.hid p2'
    clear hall p1 p2 p3 p4 hB g hB2 p2'
    gi_wp2
    refine ⟨by simp, .inl ⟨_, _, rfl, run_takeDeferred hK, ?_⟩⟩
    exact ⟨_, results_tmp rfl _ _ _, w.heap.size + 1, (penned n0 ys).1, rfl, by omega, HP2.out.lt, fun i x hx => HP2.out.cell hx, HALL.out.1, HALL.out.2.1, HALL.out.2.2, HB2.out⟩
  case stop =>
    rintro D c pre W _ _ h _
    exact h.elim

end Go.Proofs.YtkfododihdopiaaDoor
