/-
  rat's Sum of a row of texts.
-/
import Derived.Test.YtepacminjfeliaaGreatDoorQSort
import Derived.OwnWalk
namespace Go.Proofs.YtepacminjfeliaaGreatDoor
open Go.RowKit

theorem Tryz.infoNum : (Tryz.prog.info? 40).map (fun i => (i.zero, i.size, i.bytes)) = some (some (.agg #[.bool false, .slice none 0 0, .slice none 0 0]), 3, 56) := by kernel_rfl

/-- A row of texts. -/
def RdS (W : World) (v : Value) (S : List ByteArray) : Prop :=
  ∃ ad cap, v = .slice ad S.length cap ∧ S.length ≤ cap ∧ (S ≠ [] → ∃ b o, ad = some ⟨b, o, none⟩ ∧ b < W.heap.size ∧ ∀ (i : Nat) (s : ByteArray), S[i]? = some s → W.cell? ⟨b, o + i, none⟩ = some (.string s))

theorem RdS.below {W W' : World} {v : Value} {S : List ByteArray} (h : RdS W v S) (hb : Below W.heap.size W W') : RdS W' v S := by
  obtain ⟨ad, cap, e, hc, hcell⟩ := h
  refine ⟨ad, cap, e, hc, fun hne => ?_⟩
  obtain ⟨b, o, e2, hlt, hh⟩ := hcell hne
  exact ⟨b, o, e2, Nat.lt_of_lt_of_le hlt hb.size, fun i s hi => (hb.cell (p := ⟨b, o + i, none⟩) hlt).trans (hh i s hi)⟩

/-- An array of numbers, cell by cell: no integer in it. -/
def ArrX (W : World) (B cap : Nat) (C : List Value) : Prop := W.heap[B]? = some (.cells C.toArray 40) ∧ C.length = cap * 3 ∧ ∀ u ∈ C, ∀ (k : IntKind) (x : Int), u ≠ .int k x

theorem ArrX.noInt {W : World} {B cap : Nat} {C : List Value} (h : ArrX W B cap C) (o : Nat) (k : IntKind) (x : Int) : W.cell? ⟨B, o, none⟩ ≠ some (.int k x) := by
  intro e
  simp only [World.cell?, h.1] at e
  have e2 : C[o]? = some (.int k x) := by simpa using e
  exact h.2.2 _ (List.mem_of_getElem? e2) k x rfl

theorem ArrX.below {W W' : World} {B cap : Nat} {C : List Value} (h : ArrX W B cap C) (hb : Below W.heap.size W W') : ArrX W' B cap C := ⟨below_heap hb h.1, h.2⟩

theorem ArrX.lt {W : World} {B cap : Nat} {C : List Value} (h : ArrX W B cap C) : B < W.heap.size := (Array.getElem?_eq_some_iff.1 h.1).1

theorem enc3_noInt (x : N3) : ∀ u ∈ enc3 x, ∀ (k : IntKind) (y : Int), u ≠ .int k y := by
  intro u hu k y
  simp only [enc3, List.mem_cons, List.not_mem_nil, or_false] at hu
  rcases hu with rfl | rfl | rfl <;> nofun

/-- The cells behind an append of one number. -/
def putN (C : List Value) (k : Nat) (x : N3) : List Value := C.take (k * 3) ++ enc3 x ++ C.drop (k * 3 + 3)

theorem ArrX.put {W : World} {B cap : Nat} {C : List Value} (h : ArrX W B cap C) {k : Nat} (hk : k < cap) (x : N3) : ArrX (W.setRow B (putN C k x).toArray) B cap (putN C k x) := by
  refine ⟨setRow_heap W B _ _ _ _ h.1, ?_, fun u hu => ?_⟩
  · have := h.2.1
    simp only [putN, enc3, List.length_append, List.length_take, List.length_drop, List.length_cons, List.length_nil]
    omega
  · simp only [putN, List.mem_append] at hu
    rcases hu with (hu | hu) | hu
    · exact h.2.2 u (List.mem_of_mem_take hu)
    · exact enc3_noInt x u hu
    · exact h.2.2 u (List.mem_of_mem_drop hu)

/-- The first places hold the row L. -/
def Heads (C : List Value) (L : List N3) : Prop := C.take (L.length * 3) = L.flatMap enc3

theorem flat_length (L : List N3) : (L.flatMap enc3).length = L.length * 3 := by
  induction L with
  | nil => rfl
  | cons x l ih => simp only [List.flatMap_cons, List.length_append, ih, List.length_cons, enc3]; simp; omega

theorem Heads.put {C : List Value} {L : List N3} (h : Heads C L) (x : N3) : Heads (putN C L.length x) (L ++ [x]) := by
  unfold Heads at h ⊢
  have hl : (L ++ [x]).length * 3 = (L.flatMap enc3 ++ enc3 x).length := by simp only [List.length_append, flat_length, List.length_cons, List.length_nil, enc3]; omega
  rw [hl, putN, h, List.take_left, List.flatMap_append]
  simp

theorem flat_at (L : List N3) (i : Nat) (x : N3) (h : L[i]? = some x) : (L.flatMap enc3)[i * 3]? = some (.bool x.n) ∧ (L.flatMap enc3)[i * 3 + 1]? = some (.slice x.adp x.np x.cp) ∧ (L.flatMap enc3)[i * 3 + 2]? = some (.slice x.adq x.nq x.cq) := by
  induction L generalizing i with
  | nil => simp at h
  | cons y l ih =>
    cases i with
    | zero =>
      simp only [List.getElem?_cons_zero, Option.some.injEq] at h
      subst h
      exact ⟨rfl, rfl, rfl⟩
    | succ i =>
      rw [List.getElem?_cons_succ] at h
      obtain ⟨h1, h2, h3⟩ := ih i h
      have e : ∀ j, (List.flatMap enc3 (y :: l))[(i + 1) * 3 + j]? = (l.flatMap enc3)[i * 3 + j]? := by
        intro j
        rw [List.flatMap_cons, List.getElem?_append_right (by simp [enc3]; omega)]
        congr 1
        simp [enc3]; omega
      exact ⟨(e 0).trans h1, (e 1).trans h2, (e 2).trans h3⟩

theorem ArrX.arr {W : World} {B : Nat} {C : List Value} {L : List N3} (h : ArrX W B L.length C) (hh : Heads C L) : Arr W B L.length L := by
  have e : C = L.flatMap enc3 := by unfold Heads at hh; rwa [List.take_of_length_le (by rw [h.2.1]; exact Nat.le_refl _)] at hh
  refine ⟨C.toArray, _, h.1, by simpa using h.2.1, Nat.le_refl _, fun j k x hj => ?_, fun i x hi => ?_⟩
  · have e2 : C[j]? = some (.int k x) := by simpa using hj
    exact h.2.2 _ (List.mem_of_getElem? e2) k x rfl
  · obtain ⟨h1, h2, h3⟩ := flat_at L i x hi
    rw [← e] at h1 h2 h3
    exact ⟨by simpa using h1, by simpa using h2, by simpa using h3⟩

theorem made_noInt (n : Nat) : ∀ u ∈ (madeCells #[.bool false, .slice none 0 0, .slice none 0 0] (n * 3)).toList, ∀ (k : IntKind) (x : Int), u ≠ .int k x := by
  intro u hu k x
  simp only [madeCells, Array.toList_map, List.mem_map] at hu
  obtain ⟨j, -, rfl⟩ := hu
  rcases (by omega : j % 3 = 0 ∨ j % 3 = 1 ∨ j % 3 = 2) with h | h | h
  · simp [h]
  · simp [h]
  · simp [h]

theorem made_arr (w : World) (n : Nat) : ArrX (w.alloc (.cells (madeCells #[.bool false, .slice none 0 0, .slice none 0 0] (n * 3)) 40)) w.heap.size n (madeCells #[.bool false, .slice none 0 0, .slice none 0 0] (n * 3)).toList :=
  ⟨heap_alloc_new w _, by rw [Array.length_toList, size_madeCells], made_noInt n⟩

theorem wpList_makeN (w : World) {ops : Array Oper} {rest : List Oper} {o : Oper} {a : Act} {Q : Exit → Act → World → Prop}
    (hg : o.guard = none) (l c : Operand) (hop : o.op = Op.makeSlice 66 l c) (kl kc : IntKind) (n : Nat) (hl : a.eval l = .int kl 0) (hc : a.eval c = .int kc (n : Int)) (hn : n ≤ 1000)
    (hK : wpList Tryz.prog ops Q rest (a.put o.dst (.slice (some ⟨w.heap.size, 0, none⟩) 0 n)) (w.alloc (.cells (madeCells #[.bool false, .slice none 0 0, .slice none 0 0] (n * 3)) 40))) :
    wpList Tryz.prog ops Q (o :: rest) a w := by
  refine wpList_plain hg fun K hK' => ?_
  obtain ⟨i0, hi, hz0, hz1, hz2⟩ := info_parts Tryz.infoNum
  have hr := run_make (P := Tryz.prog) w 66 40 i0 _ Tryz.underlying66 hi hz0 kl kc 0 n (Int.le_refl _) (by omega) (by rw [hz2]; omega) (by omega)
  simp only [Int.toNat_zero, Int.toNat_natCast, hz1] at hr
  unfold Oper.wp
  simp [execOp, hop, hl, hc, hr, Result.andThen]
  exact hK' _ _ hK

theorem wpList_appendN (w : World) {ops : Array Oper} {rest : List Oper} {o : Oper} {a : Act} {Q : Exit → Act → World → Prop} (hgd : o.guard = none) (s x : Operand)
    (ho : o.op = .call { callee := .builtin .append, args := #[s, x], argTypes := #[66, 66] })
    {B k cap : Nat} {C : List Value} (hs : a.eval s = .slice (some ⟨B, 0, none⟩) k cap) (hA : ArrX w B cap C) (hk : k < cap) (y : N3) (ad : Addr) (c : Nat) (hx : a.eval x = .slice (some ad) 1 c)
    (hnews : ∀ j u, (enc3 y)[j]? = some u → w.cell? (ad.add j) = some u)
    (h : wpList Tryz.prog ops Q rest (a.put o.dst (.slice (some ⟨B, 0, none⟩) (k + 1) cap)) (w.setRow B (putN C k y).toArray)) : wpList Tryz.prog ops Q (o :: rest) a w := by
  refine wpList_plain hgd fun K hK => ?_
  obtain ⟨i0, hi, hz0, hz1, hz2⟩ := info_parts Tryz.infoNum
  have hl := hA.2.1
  have hr := run_append_room (P := Tryz.prog) w 66 o.type 40 i0 Tryz.underlying66 hi B k cap C.toArray hA.1 ad 1 c (enc3 y) (by rw [hz1]; rfl) hnews
    (fun u hu => by simp only [enc3, List.mem_cons, List.not_mem_nil, or_false] at hu; rcases hu with rfl | rfl | rfl <;> rfl) (by omega) (by rw [hz1]; simp [enc3]; omega)
  rw [hz1] at hr
  unfold Oper.wp execOp
  simp only [ho, resolve, invoke, builtin, Sem.run_bind, Sem.run_pure, Result.andThen_ok, List.map_toArray, List.map_cons, List.map_nil, hs, hx, hr]
  exact hK _ _ h

/-- The sum of what texts are worth. -/
def sumW (S : List ByteArray) : Rat := sumN (S.map fun s => ⟨false, none, 0, 0, none, 0, 0, worth (by0 s)⟩)

theorem sumN_map {L M : List N3} (h : L.map (·.q) = M.map (·.q)) : sumN L = sumN M := by
  induction L generalizing M with
  | nil => cases M with
    | nil => rfl
    | cons y m => simp at h
  | cons x l ih => cases M with
    | nil => simp at h
    | cons y m =>
      simp only [List.map_cons, List.cons.injEq] at h
      simp only [sumN]
      rw [h.1, ih h.2]

theorem sumN_perm {L M : List N3} (h : L.Perm M) : sumN L = sumN M := by
  induction h with
  | nil => rfl
  | cons x _ ih => simp only [sumN]; rw [ih]
  | swap x y l => simp only [sumN]; rw [← Rat.add_assoc, Rat.add_comm y.q, Rat.add_assoc]
  | trans _ _ h1 h2 => exact h1.trans h2

theorem setRow_below {w W : World} {B : Nat} (h : Below w.heap.size w W) (hB : w.heap.size ≤ B) (C : Array Value) : Below w.heap.size w (W.setRow B C) :=
  h.trans ⟨rfl, rfl, rfl, by simp [World.setRow], fun k hk => setRow_other W B k C (by omega)⟩

theorem setRow_size (W : World) (B : Nat) (C : Array Value) : W.heap.size ≤ (W.setRow B C).heap.size := by simp [World.setRow]

theorem news_at (W : World) (y : N3) (t : TypeId) : ∀ j u, (enc3 y)[j]? = some u → (W.alloc (.cells #[.bool y.n, .slice y.adp y.np y.cp, .slice y.adq y.nq y.cq] t)).cell? ((⟨W.heap.size, 0, none⟩ : Addr).add j) = some u := by
  intro j u hj
  have h := heap_alloc_new W (.cells #[.bool y.n, .slice y.adp y.np y.cp, .slice y.adq y.nq y.cq] t)
  have e : ((⟨W.heap.size, 0, none⟩ : Addr).add j) = ⟨W.heap.size, j, none⟩ := by simp [Addr.add]; intro h; exact h.symm
  rw [e]
  simp only [World.cell?, h]
  simpa [enc3] using hj

set_option maxRecDepth 100000 in
set_option maxHeartbeats 8000000 in
theorem sum_any {w : World} {ad : Option Addr} {n cap : Nat} {S : List ByteArray} (h : RdS w (.slice ad n cap) S) (hn : n ≤ 90) (hg : ∀ s ∈ S, Good (by0 s) ∧ Size (worth (by0 s)) 41 41) :
    Calls Tryz.prog 24 #[.slice ad n cap] w (RTold w (sumW S)) := by
  have hSn : S.length = n := by
    obtain ⟨_, _, e, _⟩ := id h
    simp only [Value.slice.injEq] at e
    exact e.2.1.symm
  have HR := Lib.hid h; clear h
  have HG := Lib.hid hg; clear hg
  have HSN := Lib.hid hSn; clear hSn
  have HA := Lib.hid (made_arr w n)
  have hb0 := Lib.hid (alb w (.cells (madeCells #[.bool false, .slice none 0 0, .slice none 0 0] (n * 3)) 40))
  go_enter Tryz.func24, Tryz.ntmps24
  go_wp2_with (at_make; refine wpList_makeN _ rfl _ _ rfl _ _ n rfl rfl (by omega) ?_)
  go_wp2
  go_loopw [4, 14] (fun a j wr => ∃ (k : Nat) (L : List N3) (C : List Value), a = .slice (some ⟨w.heap.size, 0, none⟩) k n ∧ j = .int .i64 k ∧ k ≤ n ∧ Hid (L.length = k ∧ ArrX wr w.heap.size n C ∧ Heads C L ∧ (∀ x ∈ L, OkN 41 wr x) ∧ L.map (·.q) = (S.take k).map (fun s => worth (by0 s))) ∧ Below w.heap.size w wr) (fun _ j _ => n - (intOf j).toNat)
  case atStart => exact ⟨0, [], _, rfl, rfl, by omega, Lib.hid ⟨rfl, HA.out, rfl, fun x hx => by simp at hx, by simp⟩, hb0.out⟩
  case round =>
    obtain ⟨k, L, C, rfl, rfl, hk, hinv, hbel⟩ := hrel
    by_cases hlt : k < n
    · obtain ⟨s, hs⟩ : ∃ s, S[k]? = some s := ⟨_, List.getElem?_eq_getElem (by rw [HSN.out]; exact hlt)⟩
      obtain ⟨hgs, hzs⟩ := HG.out s (List.mem_of_getElem? hs)
      obtain ⟨b, o, rfl, hcell⟩ : ∃ b o, ad = some ⟨b, o, none⟩ ∧ wr.cell? ⟨b, o + k, none⟩ = some (.string s) := by
        obtain ⟨ad', cap', e, hc, hh⟩ := HR.out
        simp only [Value.slice.injEq] at e
        obtain ⟨rfl, -, rfl⟩ := e
        obtain ⟨b, o, e2, hlt2, hh2⟩ := hh (fun e => by rw [e] at hs; simp at hs)
        exact ⟨b, o, e2, (hbel.cell (p := ⟨b, o + k, none⟩) hlt2).trans (hh2 k s hs)⟩
      have hr := Lib.hid (read_any s wr (by have := hgs.1; rw [by0_len] at this; omega))
      have HS := Lib.hid hs
      have HGS := Lib.hid (And.intro hgs hzs)
      clear hs hgs hzs
      go_wp2_with fail
      refine hr.out.mono ?_
      rintro e w1 (⟨hno, -⟩ | ⟨-, m, adp, np, cp, adq, nq, cq, rfl, iN, yN, hb⟩)
      · exact absurd HGS.out.1 hno
      · obtain ⟨y, hy⟩ : ∃ y : N3, y = ⟨m, adp, np, cp, adq, nq, cq, worth (by0 s)⟩ := ⟨_, rfl⟩
        have h1 := alb w1 (.cells #[.bool m, .slice adp np cp, .slice adq nq cq] 40)
        have h2 := alb (w1.alloc (.cells #[.bool m, .slice adp np cp, .slice adq nq cq] 40)) (.cells #[.bool m, .slice adp np cp, .slice adq nq cq] 40)
        have hal := onto h1 h2
        have hA2 := ((hinv.out.2.1.below hb).below hal)
        have hnews := news_at (w1.alloc (.cells #[.bool m, .slice adp np cp, .slice adq nq cq] 40)) ⟨m, adp, np, cp, adq, nq, cq, worth (by0 s)⟩ 40
        rw [alloc_size] at hnews
        have HB2 := Lib.hid (onto (onto hbel hb) hal)
        have iY := Lib.hid (iN.below hal)
        have YN := Lib.hid yN
        have HAL := Lib.hid (onto hb hal)
        have HA2 := Lib.hid hA2
        have HNW := Lib.hid hnews
        clear iN yN h1 h2 hal hA2 hnews hy
        go_wp2_with (at_builtin; refine wpList_appendN _ rfl _ _ rfl rfl HA2.out hlt ⟨m, adp, np, cp, adq, nq, cq, worth (by0 s)⟩ ⟨w1.heap.size + 1, 0, none⟩ _ rfl HNW.out ?_)
        have hLk := hinv.out.1
        have hoff : ∀ (b o : Nat), b < ((w1.alloc (.cells #[.bool m, .slice adp np cp, .slice adq nq cq] 40)).alloc (.cells #[.bool m, .slice adp np cp, .slice adq nq cq] 40)).heap.size → b ≠ w.heap.size → (((w1.alloc (.cells #[.bool m, .slice adp np cp, .slice adq nq cq] 40)).alloc (.cells #[.bool m, .slice adp np cp, .slice adq nq cq] 40)).setRow w.heap.size (putN C k ⟨m, adp, np, cp, adq, nq, cq, worth (by0 s)⟩).toArray).cell? ⟨b, o, none⟩ = ((w1.alloc (.cells #[.bool m, .slice adp np cp, .slice adq nq cq] 40)).alloc (.cells #[.bool m, .slice adp np cp, .slice adq nq cq] 40)).cell? ⟨b, o, none⟩ := fun b o _ hne => cell_setRow_other _ _ _ _ hne
        refine ⟨⟨k + 1, L ++ [⟨m, adp, np, cp, adq, nq, cq, worth (by0 s)⟩], putN C k ⟨m, adp, np, cp, adq, nq, cq, worth (by0 s)⟩, rfl, rfl, by omega, Lib.hid ⟨by rw [List.length_append, hLk]; rfl, HA2.out.put hlt _, ?_, fun x hx => ?_, ?_⟩, setRow_below HB2.out (Nat.le_refl _) _⟩, ?_⟩
        · have := hinv.out.2.2.1.put ⟨m, adp, np, cp, adq, nq, cq, worth (by0 s)⟩
          rwa [hLk] at this
        · rcases List.mem_append.1 hx with hx | hx
          · have ho := (hinv.out.2.2.2.1 x hx).below HAL.out
            exact ⟨ho.1.away HA2.out.noInt (setRow_size _ _ _) hoff, ho.2⟩
          · simp only [List.mem_cons, List.not_mem_nil, or_false] at hx
            subst hx
            exact ⟨iY.out.away HA2.out.noInt (setRow_size _ _ _) hoff, YN.out, HGS.out.2⟩
        · rw [List.map_append, hinv.out.2.2.2.2, List.take_add_one, HS.out, List.map_append]
          rfl
        · simp [intOf]; omega
    · obtain rfl : k = n := by omega
      have hLk := hinv.out.1
      have hsum : sumN L = sumW S := by
        unfold sumW
        refine sumN_map ?_
        rw [hinv.out.2.2.2.2, List.take_of_length_le (by rw [HSN.out]; exact Nat.le_refl _), List.map_map]
        rfl
      have HSUM := Lib.hid hsum; clear hsum
      have hA := hinv.out.2.1
      rw [← hLk] at hA
      have hArr := hA.arr hinv.out.2.2.1
      have hsort : Calls Tryz.prog 47 #[.slice (some ⟨w.heap.size, 0, none⟩) k k, .func (.func 48) #[] #[]] wr fun e w' => e = .returned (.tuple #[]) ∧ ∃ L' : List N3, sumN L' = sumN L ∧ L'.length = k ∧ RowN 41 w' (.slice (some ⟨w.heap.size, 0, none⟩) k k) L' ∧ Below w.heap.size wr w' := by
        by_cases hne : L = []
        · subst hne
          have hk0 : k = 0 := hLk.symm
          subst hk0
          refine (sort_none (cap := 0) hArr.lt).mono fun e w' hh => ⟨hh.1, [], rfl, rfl, ⟨_, 0, rfl, ⟨Nat.le_refl _, by decide⟩, fun x hx => by simp at hx, fun h => absurd rfl h⟩, hh.2⟩
        · have := sort_any (k := 41) hArr (by omega) (by decide) hne hinv.out.2.2.2.1
          rw [hLk] at this
          refine this.mono fun e w' hh => ?_
          obtain ⟨he, L', hp, hr, hb⟩ := hh
          exact ⟨he, L', sumN_perm hp, by rw [hp.length_eq]; exact hLk, hr, hb⟩
      have HSO := Lib.hid hsort
      have HBEL := Lib.hid hbel
      clear hA hArr hsort hinv hLk hbel
      go_wp2_with fail
      refine HSO.out.mono ?_
      rintro e w2 ⟨rfl, L', hs, hl, hrow, hb⟩
      have HB := HBEL.out.trans hb
      have hto := Lib.hid (total_any (k := 41) k w2 _ L' hrow (by omega) (by omega) (by omega))
      have HS2 := Lib.hid (hs.trans HSUM.out)
      clear hs hl hrow hb
      go_wp2_with fail
      refine hto.out.mono ?_
      rintro e w3 ⟨neg, adx, nx, cx, ady, ny, cy, rfl, i3, y3, hb⟩
      replace HB := onto HB hb
      rw [HS2.out] at i3 y3
      have hte := Lib.hid (ntext_any neg i3 y3)
      clear i3 y3 hb
      go_wp2_with fail
      refine hte.out.mono ?_
      rintro e w4 ⟨hb, ⟨hl, t, rfl, ht⟩ | ⟨hl, rfl⟩⟩
      · replace HB := onto HB hb
        have HL := Lib.hid hl; clear hl
        have HT2 := Lib.hid ht; clear ht hb
        go_wp2
        go_ret2
        exact ⟨HB, .inl ⟨HL.out, t, rfl, HT2.out⟩⟩
      · replace HB := onto HB hb
        have HL := Lib.hid hl; clear hl hb
        go_wp2
        go_ret2
        exact ⟨HB, .inr ⟨HL.out, rfl⟩⟩

end Go.Proofs.YtepacminjfeliaaGreatDoor
