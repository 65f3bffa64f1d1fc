/-
  rat's total: the sum of a row of numbers.
-/
import Derived.Test.YtepacminjfeliaaGreatDoorG12
import Derived.Test.YtepacminjfeliaaGreatDoorQCmpX
namespace Go.Proofs.YtepacminjfeliaaGreatDoor
open Go.RowKit

/-- A number as it lies in memory, with what it is worth. -/
structure N3 where
  n : Bool
  adp : Option Addr
  np : Nat
  cp : Nat
  adq : Option Addr
  nq : Nat
  cq : Nat
  q : Rat

/-- It is a number, its parts few. -/
def OkN (k : Nat) (W : World) (x : N3) : Prop := IsNum W x.n (.slice x.adp x.np x.cp) (.slice x.adq x.nq x.cq) x.q ∧ (x.n = true → x.q ≠ 0) ∧ Size x.q k k

/-- A row of numbers. -/
def RowN (k : Nat) (W : World) (v : Value) (L : List N3) : Prop :=
  ∃ ad cap, v = .slice ad L.length cap ∧ (L.length ≤ cap ∧ cap ≤ 1000) ∧ (∀ x ∈ L, OkN k W x) ∧ (L ≠ [] → ∃ b o, ad = some ⟨b, o, none⟩ ∧ b < W.heap.size ∧ ∀ (i : Nat) (x : N3), L[i]? = some x →
    W.cell? ⟨b, o + i * 3, none⟩ = some (.bool x.n) ∧ W.cell? ⟨b, o + i * 3 + 1, none⟩ = some (.slice x.adp x.np x.cp) ∧ W.cell? ⟨b, o + i * 3 + 2, none⟩ = some (.slice x.adq x.nq x.cq))

theorem OkN.below {k : Nat} {W W' : World} {x : N3} (h : OkN k W x) (hb : Below W.heap.size W W') : OkN k W' x := ⟨h.1.below hb, h.2⟩

theorem RowN.below {k : Nat} {W W' : World} {v : Value} {L : List N3} (h : RowN k W v L) (hb : Below W.heap.size W W') : RowN k W' v L := by
  obtain ⟨ad, cap, e, hc, ho, hcell⟩ := h
  refine ⟨ad, cap, e, hc, fun x hx => (ho x hx).below hb, fun hne => ?_⟩
  obtain ⟨b, o, e2, hlt, hh⟩ := hcell hne
  refine ⟨b, o, e2, Nat.lt_of_lt_of_le hlt hb.size, fun i x hi => ?_⟩
  obtain ⟨h1, h2, h3⟩ := hh i x hi
  exact ⟨(hb.cell (p := ⟨b, o + i * 3, none⟩) hlt).trans h1, (hb.cell (p := ⟨b, o + i * 3 + 1, none⟩) hlt).trans h2, (hb.cell (p := ⟨b, o + i * 3 + 2, none⟩) hlt).trans h3⟩

/-- The sum of a row. -/
def sumN : List N3 → Rat
  | [] => 0
  | x :: l => x.q + sumN l

theorem sumN_append (l m : List N3) : sumN (l ++ m) = sumN l + sumN m := by
  induction l with
  | nil => simp only [List.nil_append, sumN]; rw [Rat.zero_add]
  | cons x l ih => simp only [List.cons_append, sumN]; rw [ih, Rat.add_assoc]

theorem sumN_size {k : Nat} (W : World) : ∀ (L : List N3), (∀ x ∈ L, OkN k W x) → Size (sumN L) ((k + 1) * L.length + 1) ((k + 1) * L.length + 1)
  | [], _ => ⟨false, 0, 1, by decide +kernel, by decide, by simp, by simp⟩
  | x :: l, h => by
    have h1 := (h x (by simp)).2.2
    have h2 := sumN_size W l (fun y hy => h y (by simp [hy]))
    have e : (k + 1) * (x :: l).length = (k + 1) * l.length + (k + 1) := by simp [Nat.mul_add]
    exact h1.add h2 (by rw [e]; omega) (by rw [e]; omega) (by rw [e]; omega)

theorem Size.fits {q : Rat} {i j : Nat} (h : Size q i j) (hi : i ≤ 3800) (hj : j ≤ 3800) : FitsQ q := by
  obtain ⟨n, P, Q, rfl, h0, hP, hQ⟩ := h
  have hp := ten_pw 200
  have h1 := ten_le (show i ≤ 19 * 200 by omega)
  have h2 := ten_le (show j ≤ 19 * 200 by omega)
  refine ⟨?_, ?_⟩
  · rw [qv_num n P h0, sgn_natAbs]
    refine Nat.lt_of_le_of_lt (Nat.div_le_self _ _) (Nat.lt_of_lt_of_le hP (Nat.le_trans h1 ?_))
    exact hp
  · rw [qv_den n P h0]
    refine Nat.lt_of_le_of_lt (Nat.div_le_self _ _) (Nat.lt_of_lt_of_le hQ (Nat.le_trans h2 ?_))
    exact hp

theorem RowN.take {k : Nat} {W : World} {b o n cap : Nat} {L : List N3} (h : RowN k W (.slice (some ⟨b, o, none⟩) n cap) L) {m : Nat} (hm : m ≤ n) : RowN k W (.slice (some ⟨b, o, none⟩) m cap) (L.take m) := by
  obtain ⟨ad, cap', e, hc, ho, hcell⟩ := h
  simp only [Value.slice.injEq] at e
  obtain ⟨rfl, rfl, rfl⟩ := e
  refine ⟨_, cap, by rw [List.length_take, Nat.min_eq_left hm], ⟨by rw [List.length_take]; omega, hc.2⟩, fun x hx => ho x (List.mem_of_mem_take hx), fun hne => ?_⟩
  obtain ⟨b', o', e2, hlt, hh⟩ := hcell (fun e => hne (by rw [e]; simp))
  simp only [Option.some.injEq, Addr.mk.injEq] at e2
  obtain ⟨rfl, rfl, -⟩ := e2
  exact ⟨b, o, rfl, hlt, fun i x hi => hh i x (by
    rw [List.getElem?_take] at hi
    split at hi
    · exact hi
    · simp at hi)⟩

theorem RowN.drop {k : Nat} {W : World} {b o n cap : Nat} {L : List N3} (h : RowN k W (.slice (some ⟨b, o, none⟩) n cap) L) {m : Nat} (hm : m ≤ n) : RowN k W (.slice (some ⟨b, o + m * 3, none⟩) (n - m) (cap - m)) (L.drop m) := by
  obtain ⟨ad, cap', e, hc, ho, hcell⟩ := h
  simp only [Value.slice.injEq] at e
  obtain ⟨rfl, rfl, rfl⟩ := e
  refine ⟨_, cap - m, by rw [List.length_drop], ⟨by rw [List.length_drop]; omega, by omega⟩, fun x hx => ho x (List.mem_of_mem_drop hx), fun hne => ?_⟩
  obtain ⟨b', o', e2, hlt, hh⟩ := hcell (fun e => hne (by rw [e]; simp))
  simp only [Option.some.injEq, Addr.mk.injEq] at e2
  obtain ⟨rfl, rfl, -⟩ := e2
  refine ⟨b, o + m * 3, rfl, hlt, fun i x hi => ?_⟩
  rw [List.getElem?_drop] at hi
  have := hh (m + i) x hi
  rw [show o + (m + i) * 3 = o + m * 3 + i * 3 by rw [Nat.add_mul]; omega] at this
  exact this

set_option maxRecDepth 100000 in
set_option maxHeartbeats 8000000 in
theorem total_more {k : Nat} {w : World} {b o n cap : Nat} {L : List N3} (h : RowN k w (.slice (some ⟨b, o, none⟩) n cap) L) (hn : 2 ≤ n) (hl : n ≤ 100) (hs : (k + 1) * n + 1 ≤ 3800)
    (ih : ∀ (W : World) (v : Value) (M : List N3), RowN k W v M → M.length < n → Calls Tryz.prog 49 #[v] W (NumQ W (sumN M))) :
    Calls Tryz.prog 49 #[.slice (some ⟨b, o, none⟩) n cap] w (NumQ w (sumN L)) := by
  obtain ⟨m, hm⟩ : ∃ m, m = n / 2 := ⟨_, rfl⟩
  have e2 : (n : Int) / 2 = (m : Int) := by rw [hm]; omega
  have hm1 : 1 ≤ m ∧ m < n := by omega
  have z0 : ((n : Int) == 0) = false := by rw [beq_eq_false_iff_ne]; omega
  have z1 : ((n : Int) == 1) = false := by rw [beq_eq_false_iff_ne]; omega
  have hlen : L.length = n ∧ n ≤ cap := by
    obtain ⟨ad, cap', e, hcc, -⟩ := id h
    simp only [Value.slice.injEq] at e
    obtain ⟨-, h1, h2⟩ := e
    omega
  have c1 : (0 : Int) ≤ (m : Int) := by omega
  have c2 : (m : Int) ≤ (cap : Int) := by omega
  have c3 : (m : Int) ≤ (n : Int) := by omega
  have c4 : (n : Int) ≤ (cap : Int) := by omega
  have HB := alb w (.cells #[.bool false, .slice none 0 0, .slice none 0 0] 40)
  have bz : Bx3 (w.alloc (.cells #[.bool false, .slice none 0 0, .slice none 0 0] 40)) w.heap.size false (.slice none 0 0) (.slice none 0 0) := heap_alloc_new w _
  have rA := ((h.below HB).take (m := m) (by omega)).below (bel_drew (Below.refl _ _))
  have rB := ((h.below HB).drop (m := m) (by omega)).below (bel_drew (Below.refl _ _))
  have lA := Lib.hid (show (L.take m).length < n by rw [List.length_take]; omega)
  have lB := Lib.hid (show (L.drop m).length < n by rw [List.length_drop]; omega)
  have ok : ∀ x ∈ L, OkN k w x := by obtain ⟨_, _, _, _, ho, _⟩ := id h; exact ho
  have hmn : (k + 1) * m ≤ (k + 1) * n := Nat.mul_le_mul_left _ (by omega)
  have hmd : (k + 1) * (n - m) ≤ (k + 1) * n := Nat.mul_le_mul_left _ (by omega)
  have fA : FitsQ (sumN (L.take m)) := (sumN_size w _ fun x hx => ok x (List.mem_of_mem_take hx)).fits (by rw [List.length_take, Nat.min_eq_left (by omega)]; omega) (by rw [List.length_take, Nat.min_eq_left (by omega)]; omega)
  have fB : FitsQ (sumN (L.drop m)) := (sumN_size w _ fun x hx => ok x (List.mem_of_mem_drop hx)).fits (by rw [List.length_drop, hlen.1]; omega) (by rw [List.length_drop, hlen.1]; omega)
  have FA := Lib.hid fA
  have FB := Lib.hid fB
  have hsum := Lib.hid (show sumN (L.take m) + sumN (L.drop m) = sumN L by rw [← sumN_append, List.take_append_drop])
  replace bz := bz.below (bel_drew (Below.refl _ _))
  replace HB := bel_drew HB
  have IH := Lib.hid ih; clear ih
  clear h ok fA fB hmn hmd hlen hs hm
  go_enter Tryz.func49, Tryz.ntmps49
  go_wp2_with fail
  go_region_held3 (fun _ => True)
    ((exact trivial))
    ((first
      | ((go_split_ands; go_at_call 49; (with_reducible (show Calls _ _ #[.slice (some ⟨b, o, none⟩) m cap] _ _)); refine (IH.out _ _ _ rA lA.out).mono ?_; rintro e u1 ⟨n1, adp, np, cp, adq, nq, cq, rfl, i1, y1, b1⟩; (replace bz := bz.below (b1)); (replace rB := rB.below b1); (replace HB := onto HB b1)))
      | ((go_split_ands; go_at_call 49; refine (IH.out _ _ _ rB lB.out).mono ?_; rintro e u2 ⟨n2, adr, nr, cr, ads, ns, cs, rfl, i2, y2, b2⟩; (replace bz := bz.below (b2)); (replace i1 := i1.below b2); (replace HB := onto HB b2)))
      | ((go_split_ands; go_at_call 34; refine (nplus_any n1 n2 i1 i2 y1 FA.out FB.out).mono ?_; rintro e u3 ⟨n3, adx, nx, cx, ady, ny, cy, rfl, i3, y3, b3⟩; (replace bz := bz.below (b3)); (replace HB := onto HB b3); obtain ⟨q0, q1, q2⟩ := bz.cells; have f0 := bz.free 0; have f1 := bz.free 1; have f2 := bz.free 2))))
  all_goals
    have bz2 := bz.put n3 (.slice adx nx cx) (.slice ady ny cy)
    obtain ⟨d0, d1, d2⟩ := bz2.cells
    have i4 : IsNum (set3 u3 w.heap.size (.bool n3) (.slice adx nx cx) (.slice ady ny cy)) n3 (.slice adx nx cx) (.slice ady ny cy) (sumN L) := by
      rw [← hsum.out]
      obtain ⟨P, Q, rp, rq, hh⟩ := i3
      exact ⟨P, Q, rp.put3 bz.boxed _ _ _, rq.put3 bz.boxed _ _ _, hh⟩
    have y4 := Lib.hid (show n3 = true → sumN L ≠ 0 by rw [← hsum.out]; exact y3)
    have hB := set3_below HB (Nat.le_refl w.heap.size) (.bool n3) (.slice adx nx cx) (.slice ady ny cy)
    clear y3 y1 y2
    go_wp2
    try simp only [Exit.inBlock, Exit.then]
    refine bodyPost_ret (v := numV n3 (.slice adx nx cx) (.slice ady ny cy)) (by simp [results, Tryz.results49, go_sem, d0, d1, d2]) rfl ?_
    exact ⟨n3, adx, nx, cx, ady, ny, cy, rfl, i4, y4.out, hB⟩

set_option maxRecDepth 100000 in
set_option maxHeartbeats 8000000 in
theorem total_one {k : Nat} {w : World} {b o cap : Nat} {x : N3} (h : RowN k w (.slice (some ⟨b, o, none⟩) 1 cap) [x]) :
    Calls Tryz.prog 49 #[.slice (some ⟨b, o, none⟩) 1 cap] w (NumQ w x.q) := by
  have HB := alb w (.cells #[.bool false, .slice none 0 0, .slice none 0 0] 40)
  have HB2 := alb w (.cells #[.bool x.n, .slice x.adp x.np x.cp, .slice x.adq x.nq x.cq] 40)
  have h2 := h.below HB
  obtain ⟨ad, cap', e, hcc, ho, hcell⟩ := h2
  simp only [Value.slice.injEq] at e
  obtain ⟨rfl, -, rfl⟩ := e
  obtain ⟨b', o', e2, hlt, hh⟩ := hcell (by simp)
  simp only [Option.some.injEq, Addr.mk.injEq] at e2
  obtain ⟨rfl, rfl, -⟩ := e2
  obtain ⟨g0, g1, g2⟩ := hh 0 x rfl
  simp only [Nat.zero_mul, Nat.add_zero] at g0 g1 g2
  obtain ⟨iX, yX⟩ : IsNum w x.n (.slice x.adp x.np x.cp) (.slice x.adq x.nq x.cq) x.q ∧ (x.n = true → x.q ≠ 0) := by
    obtain ⟨_, _, _, _, ho, _⟩ := h
    exact ⟨(ho x (by simp)).1, (ho x (by simp)).2.1⟩
  have i4 := iX.below HB2
  have YX := Lib.hid yX; clear yX
  clear h ho hcell hh iX
  go_enter Tryz.func49, Tryz.ntmps49
  go_wp2
  try simp only [Exit.inBlock, Exit.then]
  refine bodyPost_ret (v := numV x.n (.slice x.adp x.np x.cp) (.slice x.adq x.nq x.cq)) (by simp [results, Tryz.results49, go_sem]) rfl ?_
  exact ⟨_, _, _, _, _, _, _, rfl, i4, YX.out, HB2⟩

set_option maxRecDepth 100000 in
set_option maxHeartbeats 8000000 in
theorem total_none {w : World} (ad : Option Addr) (cap : Nat) :
    Calls Tryz.prog 49 #[.slice ad 0 cap] w (NumQ w 0) := by
  have HB := alb w (.cells #[.bool false, .slice none 0 0, .slice none 0 0] 40)
  have bz : Bx3 (w.alloc (.cells #[.bool false, .slice none 0 0, .slice none 0 0] 40)) w.heap.size false (.slice none 0 0) (.slice none 0 0) := heap_alloc_new w _
  go_enter Tryz.func49, Tryz.ntmps49
  go_wp2_with fail
  refine (of_any 1 _ (by decide) (by decide)).mono ?_
  rintro e w1 ⟨ad1, n1, i1, l1, rfl, r1, k1, v1, b1⟩
  replace bz := bz.below b1
  replace HB := onto HB b1
  obtain ⟨q0, q1, q2⟩ := bz.cells
  have f0 := bz.free 0
  have f1 := bz.free 1
  have f2 := bz.free 2
  have bz2 := bz.put false (.slice none 0 0) (.slice ad1 n1 i1)
  obtain ⟨d0, d1, d2⟩ := bz2.cells
  have hB := set3_below HB (Nat.le_refl w.heap.size) (.bool false) (.slice none 0 0) (.slice ad1 n1 i1)
  have i4 : IsNum (set3 w1 w.heap.size (.bool false) (.slice none 0 0) (.slice ad1 n1 i1)) false (.slice none 0 0) (.slice ad1 n1 i1) 0 :=
    ⟨[], l1, Rd.nil _, r1.put3 bz.boxed _ _ _, Can.nil, k1, rfl, by rw [v1]; rfl⟩
  clear b1
  go_wp2
  try simp only [Exit.inBlock, Exit.then]
  refine bodyPost_ret (v := numV false (.slice none 0 0) (.slice ad1 n1 i1)) (by simp [results, Tryz.results49, go_sem, d0, d1, d2]) rfl ?_
  exact ⟨false, none, 0, 0, ad1, n1, i1, rfl, i4, nofun, hB⟩

theorem total_any {k : Nat} : ∀ (n : Nat) (w : World) (v : Value) (L : List N3), RowN k w v L → L.length ≤ n → n ≤ 100 → (k + 1) * n + 1 ≤ 3800 → Calls Tryz.prog 49 #[v] w (NumQ w (sumN L)) := by
  intro n
  induction n using Nat.strongRecOn with
  | ind n ih =>
    intro w v L h hl hn hs
    obtain ⟨ad, cap, rfl, hc, ho, hcell⟩ := id h
    match L, h, hl, hc, ho, hcell with
    | [], h, _, _, _, _ => exact total_none ad cap
    | [x], h, _, _, _, hcell =>
      obtain ⟨b, o, rfl, -⟩ := hcell (by simp)
      have := total_one h
      rwa [show x.q = sumN [x] by simp only [sumN]; rw [Rat.add_zero]] at this
    | x :: y :: M, h, hl, hc, ho, hcell =>
      obtain ⟨b, o, rfl, -⟩ := hcell (by simp)
      have h2 : 2 ≤ (x :: y :: M).length := by simp
      have hmn : (k + 1) * (x :: y :: M).length ≤ (k + 1) * n := Nat.mul_le_mul_left _ hl
      refine total_more h h2 (by omega) (by omega) fun W v' M' hM hlt => ?_
      have hmm : (k + 1) * M'.length ≤ (k + 1) * n := Nat.mul_le_mul_left _ (by omega)
      exact ih M'.length (by omega) W v' M' hM (Nat.le_refl _) (by omega) (by omega)

end Go.Proofs.YtepacminjfeliaaGreatDoor
