/-
  A row of numbers sorted by what is below: the same numbers, in some order.
-/
import Derived.Test.YtepacminjfeliaaGreatDoorQTotal
import Derived.Test.YtepacminjfeliaaGreatDoorQSortLay
namespace Go.Proofs.YtepacminjfeliaaGreatDoor
open Go.RowKit

/-- A number's three cells. -/
def enc3 (x : N3) : List Value := [.bool x.n, .slice x.adp x.np x.cp, .slice x.adq x.nq x.cq]

/-- An array of numbers in a block: cap places, the first of them L. -/
def Arr (W : World) (B cap : Nat) (L : List N3) : Prop :=
  ∃ (C : Array Value) (t : TypeId), W.heap[B]? = some (.cells C t) ∧ C.size = cap * 3 ∧ L.length ≤ cap ∧ (∀ (j : Nat) (k : IntKind) (x : Int), C[j]? ≠ some (.int k x)) ∧
    ∀ (i : Nat) (x : N3), L[i]? = some x → C[i * 3]? = some (.bool x.n) ∧ C[i * 3 + 1]? = some (.slice x.adp x.np x.cp) ∧ C[i * 3 + 2]? = some (.slice x.adq x.nq x.cq)

theorem Arr.lt {W : World} {B cap : Nat} {L : List N3} (h : Arr W B cap L) : B < W.heap.size := by
  obtain ⟨C, t, h, -⟩ := h
  exact (Array.getElem?_eq_some_iff.1 h).1

theorem Arr.cells {W : World} {B cap : Nat} {L : List N3} (h : Arr W B cap L) {i : Nat} {x : N3} (hi : L[i]? = some x) :
    W.cell? ⟨B, i * 3, none⟩ = some (.bool x.n) ∧ W.cell? ⟨B, i * 3 + 1, none⟩ = some (.slice x.adp x.np x.cp) ∧ W.cell? ⟨B, i * 3 + 2, none⟩ = some (.slice x.adq x.nq x.cq) := by
  obtain ⟨C, t, h, -, -, -, hc⟩ := h
  obtain ⟨h1, h2, h3⟩ := hc i x hi
  simp only [World.cell?, h]
  exact ⟨h1, h2, h3⟩

theorem Arr.free {W : World} {B cap : Nat} {L : List N3} (h : Arr W B cap L) (o : Nat) : W.frozen? ⟨B, o, none⟩ = false := by
  obtain ⟨C, t, h, -⟩ := h
  simp [World.frozen?, h]

theorem Arr.noInt {W : World} {B cap : Nat} {L : List N3} (h : Arr W B cap L) (o : Nat) (k : IntKind) (x : Int) : W.cell? ⟨B, o, none⟩ ≠ some (.int k x) := by
  obtain ⟨C, t, h, -, -, hn, -⟩ := h
  simp only [World.cell?, h]
  exact hn o k x

/-- A number's limbs lie in no such block. -/
theorem Rd.away {W W' : World} {g : Nat} {v : Value} {l : List Nat} (h : Rd W v l) (hno : ∀ (o : Nat) (k : IntKind) (x : Int), W.cell? ⟨g, o, none⟩ ≠ some (.int k x)) (hs : W.heap.size ≤ W'.heap.size) (he : ∀ (b o : Nat), b < W.heap.size → b ≠ g → W'.cell? ⟨b, o, none⟩ = W.cell? ⟨b, o, none⟩) : Rd W' v l := by
  obtain ⟨ad, n, cap, rfl, hn, hcap, hlim, hc⟩ := h
  refine ⟨ad, n, cap, rfl, hn, hcap, hlim, fun h0 => ?_⟩
  obtain ⟨b, o, e, hlt, hcell⟩ := hc h0
  have hne : b ≠ g := by
    intro hbg
    subst hbg
    obtain ⟨x, hx⟩ : ∃ x, l[0]? = some x := ⟨_, List.getElem?_eq_getElem (by omega)⟩
    exact hno _ _ _ (hcell 0 x hx)
  exact ⟨b, o, e, Nat.lt_of_lt_of_le hlt hs, fun i x hi => by rw [he b _ hlt hne]; exact hcell i x hi⟩

theorem IsNum.away {W W' : World} {g : Nat} {n : Bool} {vp vq : Value} {q : Rat} (h : IsNum W n vp vq q) (hno : ∀ (o : Nat) (k : IntKind) (x : Int), W.cell? ⟨g, o, none⟩ ≠ some (.int k x)) (hs : W.heap.size ≤ W'.heap.size) (he : ∀ (b o : Nat), b < W.heap.size → b ≠ g → W'.cell? ⟨b, o, none⟩ = W.cell? ⟨b, o, none⟩) : IsNum W' n vp vq q := by
  obtain ⟨P, Q, rp, rq, hh⟩ := h
  exact ⟨P, Q, rp.away hno hs he, rq.away hno hs he, hh⟩

open Go.Sort in
theorem sortWorld_other {α : Type} [Inhabited α] (enc : α → List Value) (w : World) (B n : Nat) (d : Array α) (os : Array Obj) (b o : Nat) (hb : b < w.heap.size) (hne : b ≠ B) : (sortWorldK enc 3 w B 0 n d os).cell? ⟨b, o, none⟩ = w.cell? ⟨b, o, none⟩ := by
  unfold sortWorldK
  rw [cell?_grow _ _ _ (by rw [size_putRowK]; exact hb), cell?_putRowK_other enc 3 _ B 0 d ⟨b, o, none⟩ hne]
  rfl

open Go.Sort in
theorem sortWorld_below {α : Type} [Inhabited α] (enc : α → List Value) (w : World) (B n : Nat) (d : Array α) (os : Array Obj) (hB : B < w.heap.size) : Go.RowKit.Below B w (sortWorldK enc 3 w B 0 n d os) := by
  refine ⟨rfl, rfl, rfl, ?_, fun k hk => ?_⟩
  · unfold sortWorldK grow
    show w.heap.size ≤ ((putRowK enc 3 (Go.Sort.ahead w n) B 0 d).heap ++ os).size
    rw [Array.size_append, size_putRowK]
    exact Nat.le_add_right _ _
  · unfold sortWorldK grow putRowK putRow mapBlock
    show ((w.heap.modify B _) ++ os)[k]? = w.heap[k]?
    rw [Array.getElem?_append_left (by simp; omega), Array.getElem?_modify, if_neg (by omega)]

/-- The numbers of a row, each with what is known of it. -/
abbrev NumAt (k : Nat) (w : World) := { x : N3 // OkN k w x }

open Go.Sort Go.Shelf in
theorem sort_any {k : Nat} {w : World} {B cap : Nat} {L : List N3} (h : Arr w B cap L) (hcap : cap ≤ 1000) (hk : k ≤ 3800) (hne : L ≠ []) (ok : ∀ x ∈ L, OkN k w x) :
    Calls Tryz.prog 47 #[.slice (some ⟨B, 0, none⟩) L.length cap, .func (.func 48) #[] #[]] w fun e w' => e = .returned (.tuple #[]) ∧ ∃ L' : List N3, L'.Perm L ∧ RowN k w' (.slice (some ⟨B, 0, none⟩) L.length cap) L' ∧ Go.RowKit.Below B w w' := by
  haveI : Inhabited (NumAt k w) := ⟨⟨L.head hne, ok _ (List.head_mem hne)⟩⟩
  obtain ⟨d, hd⟩ : ∃ d : Array (NumAt k w), d = (L.attachWith (OkN k w) ok).toArray := ⟨_, rfl⟩
  have hsz : d.size = L.length := by rw [hd]; simp
  have hget : ∀ i (hi : i < L.length), (d[i]!).1 = L[i] := by
    intro i hi
    rw [getElem!_pos d i (by omega)]
    subst hd
    simp
  have hH : HoldsK (fun x : NumAt k w => enc3 x.1) 3 w B 0 d := by
    intro j hj
    rw [size_flatK] at hj
    rw [get_flatK _ _ _ _ hj]
    have hi : j / 3 < L.length := by omega
    have hx := hget (j / 3) hi
    obtain ⟨c0, c1, c2⟩ := h.cells (List.getElem?_eq_getElem hi)
    refine ⟨?_, h.free _⟩
    show w.cell? ⟨B, 0 + j, none⟩ = some ((enc3 (d[j / 3]!).1)[j % 3]!)
    rw [hx]
    have e : j = j / 3 * 3 + j % 3 := by omega
    rcases (by omega : j % 3 = 0 ∨ j % 3 = 1 ∨ j % 3 = 2) with h3 | h3 | h3
    · rw [h3, show 0 + j = j / 3 * 3 by omega]; exact c0
    · rw [h3, show 0 + j = j / 3 * 3 + 1 by omega]; exact c1
    · rw [h3, show 0 + j = j / 3 * 3 + 2 by omega]; exact c2
  have hsort := AnyQ.slices_SortFunc Tryz.sortNum 3 (fun w => Tryz.isAgg40 w) (fun w => Tryz.sizeOf40 w) (fun x : NumAt k w => enc3 x.1) (fun _ => rfl)
    (fun x v hv => by simp only [enc3, List.mem_cons, List.not_mem_nil, or_false] at hv; rcases hv with rfl | rfl | rfl <;> rfl)
    (fun x y => tell x.1.q.den y.1.q.den) ?_ 48 #[] B 0 cap d w (enters_of Tryz.func48 (by kernel_rfl) rfl) ?_ hH h.lt (by obtain ⟨_, _, _, _, hc, _⟩ := h; omega)
  · rw [hsz] at hsort
    refine hsort.mono ?_
    rintro e w' ⟨rfl, d', n, os, hp, -, rfl⟩
    have hs' : d'.size = L.length := hp.1.trans hsz
    have hperm : (d'.toList).Perm d.toList := by
      have := hp.2.2
      rwa [← hs', Array.extract_size, hs', ← hsz, Array.extract_size] at this
    have hmap : d.toList.map (·.1) = L := by rw [hd]; simp
    have hP : (d'.toList.map (·.1)).Perm L := by rw [← hmap]; exact hperm.map _
    have hoff : ∀ (b o : Nat), b < w.heap.size → b ≠ B → (sortWorldK (fun x : NumAt k w => enc3 x.1) 3 w B 0 n d' os).cell? ⟨b, o, none⟩ = w.cell? ⟨b, o, none⟩ := fun b o hb hne => sortWorld_other _ w B n d' os b o hb hne
    have hb := sortWorld_below (fun x : NumAt k w => enc3 x.1) w B n d' os h.lt
    have hK := holdsK_sortWorldK_c (fun x : NumAt k w => enc3 x.1) 3 w B 0 d d' n os hH h.lt hp.1
    have hlen2 : (d'.toList.map (·.1)).length = L.length := by rw [List.length_map]; exact hs'
    refine ⟨rfl, d'.toList.map (·.1), hP, ⟨_, cap, by rw [hlen2], ⟨by rw [hlen2]; obtain ⟨_, _, _, _, hc, _⟩ := h; exact hc, hcap⟩, fun x hx => ?_, fun _ => ⟨B, 0, rfl, Nat.lt_of_lt_of_le h.lt hb.size, fun i x hi => ?_⟩⟩, hb⟩
    · have ho := ok x (hP.mem_iff.1 hx)
      exact ⟨ho.1.away h.noInt hb.size hoff, ho.2⟩
    · have hi' : i < d'.size := by
        have := (List.getElem?_eq_some_iff.1 hi).1
        rwa [List.length_map, Array.length_toList] at this
      have hx : (d'[i]!).1 = x := by
        rw [getElem!_pos d' i hi']
        rw [List.getElem?_map, Array.getElem?_toList, Array.getElem?_eq_getElem hi'] at hi
        simpa using hi
      have k0 := (hK.cell (c := 0) hi' (by decide)).1
      have k1 := (hK.cell (c := 1) hi' (by decide)).1
      have k2 := (hK.cell (c := 2) hi' (by decide)).1
      rw [hx] at k0 k1 k2
      exact ⟨k0, k1, k2⟩
  · refine ⟨fun x => ?_, fun x y z h1 h2 => ?_, fun x y z h1 h2 => ?_⟩ <;> simp only [ltOf, decide_eq_false_iff_not, decide_eq_true_eq] at * <;> unfold tell at * <;> (repeat' split) <;> (repeat' split at *) <;> omega
  · intro m os dk hdk x y
    obtain ⟨Px, Qx, rpx, rqx, kpx, kqx, vpx, vqx⟩ := x.2.1
    obtain ⟨Py, Qy, rpy, rqy, kpy, kqy, vpy, vqy⟩ := y.2.1
    have hoff : ∀ (b o : Nat), b < w.heap.size → b ≠ B → (sortWorldK (fun x : NumAt k w => enc3 x.1) 3 w B 0 m dk os).cell? ⟨b, o, none⟩ = w.cell? ⟨b, o, none⟩ := fun b o hb hne => sortWorld_other _ w B m dk os b o hb hne
    have hb := (sortWorld_below (fun x : NumAt k w => enc3 x.1) w B m dk os h.lt).size
    have lq : Qx.length ≤ 10000 := by have := (x.2.2.2.fits hk hk).down kqx vqx; omega
    have ls : Qy.length ≤ 10000 := by have := (y.2.2.2.fits hk hk).down kqy vqy; omega
    have hc := cmpDown_exact (vp := .slice x.1.adp x.1.np x.1.cp) (vr := .slice y.1.adp y.1.np y.1.cp) x.1.n y.1.n (rqx.away h.noInt hb hoff) (rqy.away h.noInt hb hoff) lq ls
    rw [vqx, vqy] at hc
    exact hc

open Go.Sort Go.Shelf in
theorem sort_none {w : World} {B cap : Nat} (hB : B < w.heap.size) :
    Calls Tryz.prog 47 #[.slice (some ⟨B, 0, none⟩) 0 cap, .func (.func 48) #[] #[]] w fun e w' => e = .returned (.tuple #[]) ∧ Go.RowKit.Below B w w' := by
  have hsort := AnyQ.slices_SortFunc Tryz.sortNum 3 (fun w => Tryz.isAgg40 w) (fun w => Tryz.sizeOf40 w) (fun _ : Unit => [.bool false, .slice none 0 0, .slice none 0 0]) (fun _ => rfl)
    (fun x v hv => by simp only [List.mem_cons, List.not_mem_nil, or_false] at hv; rcases hv with rfl | rfl | rfl <;> rfl)
    (fun _ _ => 0) ⟨fun _ => rfl, fun _ _ _ h _ => by simp [ltOf] at h, fun _ _ _ _ _ => rfl⟩ 48 #[] B 0 cap #[] w (enters_of Tryz.func48 (by kernel_rfl) rfl)
    (fun m os dk hdk x y => cmpDown_exact (Q := []) (S := []) (vp := .slice none 0 0) (vr := .slice none 0 0) false false (Rd.nil _) (Rd.nil _) (by decide) (by decide)) (fun j hj => by simp at hj) hB (by decide)
  refine hsort.mono ?_
  rintro e w' ⟨rfl, d', n, os, -, -, rfl⟩
  exact ⟨rfl, sortWorld_below _ w B n d' os hB⟩

end Go.Proofs.YtepacminjfeliaaGreatDoor
