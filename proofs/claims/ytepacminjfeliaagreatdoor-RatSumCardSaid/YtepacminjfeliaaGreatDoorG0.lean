/-
  A part of the proof: Mem, Num, Short, Along, Step, Add, Of, Cmp.
-/
import Derived.Test.YtepacminjfeliaaGreatDoorRows
import Derived.WalkKit
import Derived.WalkSpells
import Derived.WalkLawsBesides
import Derived.Lib.Hide
import Derived.Deep.QuietTactic
import Derived.BigQuiet
import Derived.BigGuardPart
import Derived.Laws.AppendOwnNone
/-
  What a slice of 32-bit limbs reads in a world, and how that lasts when blocks are added; the step of one limb read is proved. No condition.
-/
namespace Go.Proofs.YtepacminjfeliaaGreatDoor
open Go.RowKit

/-- The slice v reads, in world w, as the list l of limbs. -/
def Rd (w : World) (v : Value) (l : List Nat) : Prop :=
  ∃ ad n cap, v = .slice ad n cap ∧ n = l.length ∧ n ≤ cap ∧ (∀ x ∈ l, x < 4294967296) ∧
    (0 < n → ∃ b o, ad = some ⟨b, o, none⟩ ∧ b < w.heap.size ∧ ∀ (i x : Nat), l[i]? = some x → w.cell? ⟨b, o + i, none⟩ = some (.int .u32 (x : Int)))

theorem Rd.same {w w' : World} {v : Value} {l : List Nat} (h : Rd w v l) (hs : w.heap.size ≤ w'.heap.size)
    (hc : ∀ ad n cap b o, v = .slice ad n cap → ad = some ⟨b, o, none⟩ → 0 < n → ∀ i, w'.cell? ⟨b, o + i, none⟩ = w.cell? ⟨b, o + i, none⟩) : Rd w' v l := by
  obtain ⟨ad, n, cap, rfl, hn, hcap, hx, hr⟩ := h
  refine ⟨ad, n, cap, rfl, hn, hcap, hx, fun h0 => ?_⟩
  obtain ⟨b, o, e, hb, hcell⟩ := hr h0
  exact ⟨b, o, e, Nat.lt_of_lt_of_le hb hs, fun i x hi => (hc ad n cap b o rfl e h0 i).trans (hcell i x hi)⟩

theorem Rd.below {w w' : World} {v : Value} {l : List Nat} (h : Rd w v l) (hb : Below w.heap.size w w') : Rd w' v l := by
  obtain ⟨ad, n, cap, rfl, hn, hcap, hx, hr⟩ := h
  refine ⟨ad, n, cap, rfl, hn, hcap, hx, fun h0 => ?_⟩
  obtain ⟨b, o, e, hb', hcell⟩ := hr h0
  exact ⟨b, o, e, Nat.lt_of_lt_of_le hb' hb.size, fun i x hi => (hb.cell (p := ⟨b, o + i, none⟩) hb').trans (hcell i x hi)⟩

theorem Rd.nil (w : World) : Rd w (.slice none 0 0) [] := ⟨none, 0, 0, rfl, rfl, Nat.le_refl _, by simp, by simp⟩

theorem Rd.lim {w : World} {v : Value} {l : List Nat} (h : Rd w v l) : ∀ x ∈ l, x < 4294967296 := by
  obtain ⟨_, _, _, _, _, _, hx, _⟩ := h; exact hx

/-- One limb of a list; 0 above its end. -/
def at0 (l : List Nat) (k : Nat) : Nat := l.getD k 0

theorem at0_lt {l : List Nat} (h : ∀ x ∈ l, x < 4294967296) (k : Nat) : at0 l k < 4294967296 := by
  unfold at0
  by_cases hk : k < l.length
  · rw [List.getD_eq_getElem?_getD, List.getElem?_eq_getElem hk]; exact h _ (List.getElem_mem hk)
  · rw [List.getD_eq_getElem?_getD, List.getElem?_eq_none (by omega)]; decide

set_option maxRecDepth 100000 in
set_option maxHeartbeats 400000 in
theorem limb_in (b o n cap k : Nat) (x : Int) (w : World) (hk : k < n) (_hn : n ≤ 1000000) (hc : w.cell? ⟨b, o + k, none⟩ = some (.int .u32 x)) :
    Calls Tryz.prog 107 #[.slice (some ⟨b, o, none⟩) n cap, .int .i64 (k : Int)] w fun e w' => e = .returned (.int .u32 x) ∧ w = w' := by
  go_enter Tryz.func107, Tryz.ntmps107
  go_wp2
  go_ret
  exact ⟨rfl, rfl⟩

set_option maxRecDepth 100000 in
set_option maxHeartbeats 400000 in
theorem limb_out (ad : Option Addr) (n cap k : Nat) (w : World) (hk : n ≤ k) (_hn : n ≤ 1000000) :
    Calls Tryz.prog 107 #[.slice ad n cap, .int .i64 (k : Int)] w fun e w' => e = .returned (.int .u32 0) ∧ w = w' := by
  go_enter Tryz.func107, Tryz.ntmps107
  go_wp2
  go_ret
  exact ⟨rfl, rfl⟩

theorem limb_any {w : World} {v : Value} {l : List Nat} (h : Rd w v l) (hl : l.length ≤ 1000000) (k : Nat) :
    Calls Tryz.prog 107 #[v, .int .i64 (k : Int)] w fun e w' => e = .returned (.int .u32 (at0 l k : Int)) ∧ w = w' := by
  obtain ⟨ad, n, cap, rfl, hn, hcap, hx, hr⟩ := h
  by_cases hk : k < n
  · obtain ⟨b, o, rfl, hb, hcell⟩ := hr (by omega)
    have e : l[k]? = some (at0 l k) := by
      unfold at0; rw [List.getD_eq_getElem?_getD, List.getElem?_eq_getElem (by omega)]; rfl
    exact limb_in b o n cap k _ w hk (by omega) (hcell k _ e)
  · have e : at0 l k = 0 := by unfold at0; rw [List.getD_eq_getElem?_getD, List.getElem?_eq_none (by omega)]; rfl
    rw [e]
    exact limb_out ad n cap k w (by omega) (by omega)

end Go.Proofs.YtepacminjfeliaaGreatDoor

/-
  Plain numbers: what a list of 32-bit limbs is worth, lists in short, sums of limbs by their places. Nothing of the program is in here. No condition.
-/
namespace Go.Proofs.YtepacminjfeliaaGreatDoor

/-- 2^32 to the power of k. -/
def pw : Nat → Nat
  | 0 => 1
  | k + 1 => 4294967296 * pw k

theorem pw_succ (k : Nat) : pw (k + 1) = 4294967296 * pw k := rfl

theorem pw_pos (k : Nat) : 0 < pw k := by
  induction k with
  | zero => decide
  | succ k ih => unfold pw; omega

theorem pw_add (a b : Nat) : pw (a + b) = pw a * pw b := by
  induction a with
  | zero => simp [pw]
  | succ a ih => rw [Nat.succ_add]; simp only [pw]; rw [ih, Nat.mul_assoc]

theorem pw_le {a b : Nat} (h : a ≤ b) : pw a ≤ pw b := by
  obtain ⟨c, rfl⟩ := Nat.exists_eq_add_of_le h
  rw [pw_add]; exact Nat.le_mul_of_pos_right _ (pw_pos c)

/-- What a list is worth. -/
def val : List Nat → Nat
  | [] => 0
  | x :: l => x + 4294967296 * val l

theorem val_append (l m : List Nat) : val (l ++ m) = val l + pw l.length * val m := by
  induction l with
  | nil => simp [val, pw]
  | cons x l ih => simp only [List.cons_append, val, List.length_cons, pw, ih, Nat.mul_add, Nat.mul_assoc]; omega

def Lim (l : List Nat) : Prop := ∀ x ∈ l, x < 4294967296

theorem val_lt (l : List Nat) (h : Lim l) : val l < pw l.length := by
  induction l with
  | nil => simp [val, pw]
  | cons x l ih =>
    have h1 := ih fun y hy => h y (List.mem_cons_of_mem _ hy)
    have h2 := h x (List.mem_cons_self)
    simp only [val, List.length_cons, pw]; omega

/-- The sum of a row's limbs by their places, below place k. -/
def sm (x : Nat → Nat) : Nat → Nat
  | 0 => 0
  | k + 1 => sm x k + pw k * x k

theorem val_snoc (l : List Nat) (x : Nat) : val (l ++ [x]) = val l + pw l.length * x := by
  rw [val_append]; simp [val]

theorem sm_take (l : List Nat) : ∀ k, sm (at0 l) k = val (l.take k) := by
  intro k
  induction k with
  | zero => simp [sm, val]
  | succ k ih =>
    unfold sm
    rw [ih]
    by_cases hk : k < l.length
    · rw [List.take_succ_eq_append_getElem hk, val_snoc]
      have : at0 l k = l[k] := by unfold at0; simp [hk]
      rw [this, List.length_take, Nat.min_eq_left (by omega)]
    · have e : at0 l k = 0 := by unfold at0; rw [List.getD_eq_getElem?_getD, List.getElem?_eq_none (by omega)]; rfl
      rw [e, List.take_of_length_le (by omega), List.take_of_length_le (by omega)]; simp

theorem sm_all (l : List Nat) {k : Nat} (h : l.length ≤ k) : sm (at0 l) k = val l := by
  rw [sm_take, List.take_of_length_le h]

theorem sm_zeros {x : Nat → Nat} {k n : Nat} (hk : k ≤ n) (h : ∀ j, k ≤ j → j < n → x j = 0) : sm x n = sm x k := by
  obtain ⟨c, rfl⟩ := Nat.exists_eq_add_of_le hk
  induction c with
  | zero => rfl
  | succ c ih =>
    rw [← Nat.add_assoc]
    show sm x (k + c) + pw (k + c) * x (k + c) = sm x k
    rw [ih (by omega) fun j h1 h2 => h j h1 (by omega), h (k + c) (by omega) (by omega)]; omega

theorem sm_same {x y : Nat → Nat} {i n : Nat} (hi : i ≤ n) (h : ∀ j, i ≤ j → j < n → x j = y j) : sm x n + sm y i = sm y n + sm x i := by
  obtain ⟨c, rfl⟩ := Nat.exists_eq_add_of_le hi
  induction c with
  | zero => simp; omega
  | succ c ih =>
    have h1 := ih (by omega) fun j h1 h2 => h j h1 (by omega)
    have h2 := h (i + c) (by omega) (by omega)
    rw [← Nat.add_assoc]
    simp only [sm]
    rw [h2]; omega

theorem sm_lt {x : Nat → Nat} (h : ∀ j, x j < 4294967296) (k : Nat) : sm x k < pw k := by
  induction k with
  | zero => simp [sm, pw]
  | succ k ih =>
    simp only [sm, pw]
    have : pw k * x k ≤ pw k * 4294967295 := Nat.mul_le_mul_left _ (by have := h k; omega)
    omega

theorem sm_less {x y : Nat → Nat} (hx : ∀ j, x j < 4294967296) {i n : Nat} (hi : i < n) (h : ∀ j, i < j → j < n → x j = y j) (hl : x i < y i) : sm x n < sm y n := by
  have h1 := sm_same (x := x) (y := y) (i := i + 1) (n := n) (by omega) fun j a b => h j (by omega) b
  have h2 := sm_lt hx i
  simp only [sm] at h1
  have h3 : pw i * x i + pw i ≤ pw i * y i := by
    rw [← Nat.mul_succ]; exact Nat.mul_le_mul_left _ hl
  omega

/-- In short: each limb has 32 bits, and the last one is not 0. -/
def Can (l : List Nat) : Prop := Lim l ∧ (0 < l.length → at0 l (l.length - 1) ≠ 0)

theorem Can.nil : Can [] := ⟨fun x hx => by simp at hx, by simp⟩

theorem Can.tail {x : Nat} {l : List Nat} (h : Can (x :: l)) : Can l := by
  refine ⟨fun y hy => h.1 y (List.mem_cons_of_mem _ hy), fun h0 => ?_⟩
  have := h.2 (by simp)
  obtain ⟨n, hn⟩ : ∃ n, l.length = n + 1 := ⟨l.length - 1, by omega⟩
  simp only [List.length_cons, hn, Nat.add_sub_cancel] at this ⊢
  simpa [at0] using this

theorem Can.zero {l : List Nat} (h : Can l) (hv : val l = 0) : l = [] := by
  induction l with
  | nil => rfl
  | cons x l ih =>
    simp only [val] at hv
    have e := ih h.tail (by omega)
    subst e
    exact absurd (by omega : x = 0) (by simpa [at0] using h.2 (by simp))

theorem Can.inj {l m : List Nat} (hl : Can l) (hm : Can m) (h : val l = val m) : l = m := by
  induction l generalizing m with
  | nil => exact (hm.zero (by rw [← h]; rfl)).symm
  | cons x l ih =>
    cases m with
    | nil => exact hl.zero (by rw [h]; rfl)
    | cons y m =>
      simp only [val] at h
      have hx := hl.1 x (List.mem_cons_self)
      have hy := hm.1 y (List.mem_cons_self)
      obtain rfl : x = y := by omega
      rw [ih hl.tail hm.tail (by omega)]

theorem Can.le {l : List Nat} (h : Can l) (h0 : 0 < l.length) : pw (l.length - 1) ≤ val l := by
  have h1 := h.2 h0
  have e := sm_all l (k := l.length - 1 + 1) (by omega)
  simp only [sm] at e
  have : pw (l.length - 1) * 1 ≤ pw (l.length - 1) * at0 l (l.length - 1) := Nat.mul_le_mul_left _ (by omega)
  omega

theorem Can.len {l : List Nat} (h : Can l) {k : Nat} (hv : val l < pw k) : l.length ≤ k := by
  by_cases h0 : l.length ≤ k
  · exact h0
  · have h1 := h.le (by omega)
    have h2 := pw_le (show k ≤ l.length - 1 by omega)
    omega

/-- What is left of a list when the limbs 0 at its end are taken off. -/
theorem cut_can {l : List Nat} {n k : Nat} (hn : n = l.length) (hL : Lim l) (hk : k ≤ n) (hz : ∀ j, k ≤ j → j < n → at0 l j = 0) (h0 : 0 < k → at0 l (k - 1) ≠ 0) : Can (l.take k) ∧ val (l.take k) = val l ∧ (l.take k).length = k := by
  subst hn
  have hlen : (l.take k).length = k := by rw [List.length_take]; omega
  refine ⟨⟨fun x hx => hL x (List.mem_of_mem_take hx), fun h => ?_⟩, ?_, hlen⟩
  · rw [hlen] at h ⊢
    have : at0 (l.take k) (k - 1) = at0 l (k - 1) := by
      unfold at0; rw [List.getD_eq_getElem?_getD, List.getD_eq_getElem?_getD, List.getElem?_take_of_lt (by omega)]
    rw [this]; exact h0 h
  · rw [← sm_take, ← sm_all l (Nat.le_refl _), sm_zeros hk hz]

theorem at0_lt' {l : List Nat} (h : Lim l) (k : Nat) : at0 l k < 4294967296 := at0_lt h k

theorem val_small {l : List Nat} (h : Lim l) {k : Nat} (hk : l.length ≤ k) : val l < pw k := Nat.lt_of_lt_of_le (val_lt l h) (pw_le hk)

end Go.Proofs.YtepacminjfeliaaGreatDoor

/-
  nat.short: the slice without the limbs 0 at its end, in the same memory. No condition but that it has at most a million limbs.
-/
namespace Go.Proofs.YtepacminjfeliaaGreatDoor
open Go.RowKit

set_option maxRecDepth 100000 in
set_option maxHeartbeats 1000000 in
theorem short_some (b o n cap : Nat) (l : List Nat) (w : World) (hn : n ≤ 1000000) (hcap : n ≤ cap) (hc : ∀ i, i < n → w.cell? ⟨b, o + i, none⟩ = some (.int .u32 (at0 l i : Int))) :
    Calls Tryz.prog 88 #[.slice (some ⟨b, o, none⟩) n cap] w fun e w' => (∃ k, e = .returned (.slice (some ⟨b, o, none⟩) k cap) ∧ k ≤ n ∧ (∀ j, k ≤ j → j < n → at0 l j = 0) ∧ (0 < k → at0 l (k - 1) ≠ 0)) ∧ w = w' := by
  go_enter Tryz.func88, Tryz.ntmps88
  go_wp2
  go_loop [3] (fun s => ∃ k : Nat, s = .int .i64 k ∧ k ≤ n ∧ ∀ j, k ≤ j → j < n → at0 l j = 0) (fun s => (intOf s).toNat)
  case atStart => exact ⟨n, rfl, Nat.le_refl _, fun j h1 h2 => absurd h1 (by omega)⟩
  case round =>
    obtain ⟨k, rfl, hk, hz⟩ := hrel
    by_cases h0 : 0 < k
    · obtain ⟨k', rfl⟩ : ∃ k', k = k' + 1 := ⟨k - 1, by omega⟩
      have hcell := hc k' (by omega)
      obtain ⟨x, hx⟩ : ∃ x : Nat, x = at0 l k' := ⟨_, rfl⟩
      rw [← hx] at hcell
      have Hc := Lib.hid hc; clear hc
      have Hz := Lib.hid hz; clear hz
      have Hx := Lib.hid hx; clear hx
      by_cases hx0 : x = 0
      · subst hx0
        go_wp2
        go_round
        case rel =>
          refine ⟨k', by go_num, by omega, fun j h1 h2 => ?_⟩
          by_cases e : j = k'
          · subst e; exact Hx.out.symm
          · exact Hz.out j (by omega) h2
        case measure => simp [intOf]
      · have hx1 : ((x : Int) == 0) = false := by simp; omega
        go_wp2
        go_ret
        exact ⟨⟨k' + 1, rfl, hk, Hz.out, fun _ => by show at0 l (k' + 1 - 1) ≠ 0; rw [Nat.add_sub_cancel, ← Hx.out]; exact hx0⟩, rfl⟩
    · obtain rfl : k = 0 := by omega
      have Hc := Lib.hid hc; clear hc
      have Hz := Lib.hid hz; clear hz
      go_wp2
      go_ret
      exact ⟨⟨0, rfl, hk, Hz.out, fun h => absurd h (by omega)⟩, rfl⟩

set_option maxRecDepth 100000 in
set_option maxHeartbeats 1000000 in
theorem short_none (ad : Option Addr) (cap : Nat) (w : World) :
    Calls Tryz.prog 88 #[.slice ad 0 cap] w fun e w' => e = .returned (.slice ad 0 cap) ∧ w = w' := by
  go_enter Tryz.func88, Tryz.ntmps88
  go_wp2
  go_loop [3] (fun s => s = .int .i64 0) (fun _ => 0)
  case atStart => rfl
  case round =>
    obtain rfl := hrel
    go_wp2
    go_ret
    exact ⟨rfl, rfl⟩

/-- What short answers: the same memory, read in short. -/
def Shorted (w : World) (l : List Nat) (e : Ending) (w' : World) : Prop :=
  (∃ ad k cap l', e = .returned (.slice ad k cap) ∧ Rd w (.slice ad k cap) l' ∧ Can l' ∧ val l' = val l) ∧ w = w'

theorem short_any {w : World} {v : Value} {l : List Nat} (h : Rd w v l) (hl : l.length ≤ 1000000) : Calls Tryz.prog 88 #[v] w (Shorted w l) := by
  obtain ⟨ad, n, cap, rfl, hn, hcap, hx, hr⟩ := h
  by_cases h0 : 0 < n
  · obtain ⟨b, o, rfl, hb, hcell⟩ := hr h0
    refine (short_some b o n cap l w (by omega) hcap fun i hi => hcell i _ ?_).mono ?_
    · unfold at0; rw [List.getD_eq_getElem?_getD, List.getElem?_eq_getElem (by omega)]; rfl
    · rintro e w' ⟨⟨k, rfl, hk, hz, hl0⟩, rfl⟩
      obtain ⟨c1, c2, c3⟩ := cut_can hn hx hk hz hl0
      refine ⟨⟨_, k, cap, l.take k, rfl, ⟨_, k, cap, rfl, c3.symm, by omega, c1.1, fun _ => ⟨b, o, rfl, hb, fun i x hi => hcell i x ?_⟩⟩, c1, c2⟩, rfl⟩
      have : i < k := by
        have := (List.getElem?_eq_some_iff.1 hi).1
        omega
      rwa [List.getElem?_take_of_lt this] at hi
  · obtain rfl : n = 0 := by omega
    refine (short_none ad cap w).mono ?_
    rintro e w' ⟨rfl, rfl⟩
    obtain rfl : l = [] := List.eq_nil_of_length_eq_zero hn.symm
    exact ⟨⟨_, 0, cap, [], rfl, ⟨ad, 0, cap, rfl, rfl, Nat.zero_le _, hx, fun h => absurd h (by omega)⟩, Can.nil, rfl⟩, rfl⟩

end Go.Proofs.YtepacminjfeliaaGreatDoor

/-
  nat.along: what one function, handed on, makes of two rows of limbs, place by place, with a carry. For any such function that keeps an invariant.
-/
namespace Go.Proofs.YtepacminjfeliaaGreatDoor
open Go.RowKit

/-- Block g of w is a row of limbs, and reads as L. -/
def Blk (w : World) (g : Nat) (L : List Nat) : Prop := w.heap[g]? = some (.cells (L.map fun (x : Nat) => Value.int .u32 (x : Int)).toArray 75 (0, 0))

theorem Blk.cell {w : World} {g : Nat} {L : List Nat} (h : Blk w g L) {i x : Nat} (hi : L[i]? = some x) : w.cell? ⟨g, i, none⟩ = some (.int .u32 (x : Int)) := by
  unfold Blk at h
  simp [World.cell?, h, hi]

theorem Blk.free {w : World} {g : Nat} {L : List Nat} (h : Blk w g L) (i : Nat) : w.frozen? ⟨g, i, none⟩ = false := by
  unfold Blk at h
  simp [World.frozen?, h]

theorem Blk.lt {w : World} {g : Nat} {L : List Nat} (h : Blk w g L) : g < w.heap.size := by
  unfold Blk at h
  exact (Array.getElem?_eq_some_iff.1 h).1

theorem Blk.set {w : World} {g : Nat} {L : List Nat} (h : Blk w g L) (i x : Nat) : Blk (w.setCell ⟨g, i, none⟩ (.int .u32 (x : Int))) g (L.set i x) := by
  unfold Blk at h ⊢
  simp only [World.setCell, Array.getElem?_modify, if_pos, h, Option.map_some]
  simp [List.map_set]

/-- L, with l put in from place off on. -/
def put (L : List Nat) (off : Nat) (l : List Nat) : List Nat := L.take off ++ l ++ L.drop (off + l.length)

theorem put_nil (L : List Nat) (off : Nat) : put L off [] = L := by simp [put]

theorem put_length (L : List Nat) (off : Nat) (l : List Nat) (h : off + l.length ≤ L.length) : (put L off l).length = L.length := by
  unfold put; simp only [List.length_append, List.length_take, List.length_drop]; omega

theorem Blk.there {w : World} {g : Nat} {L : List Nat} (h : Blk w g L) {i : Nat} (hi : i < L.length) : ∃ v, w.cell? ⟨g, i, none⟩ = some v :=
  ⟨_, h.cell (List.getElem?_eq_getElem hi)⟩

theorem put_snoc (L : List Nat) (off : Nat) (l : List Nat) (x : Nat) (h : off + l.length < L.length) : (put L off l).set (off + l.length) x = put L off (l ++ [x]) := by
  have h1 : (L.take off).length = off := by rw [List.length_take]; omega
  unfold put
  rw [List.append_assoc, List.set_append_right _ _ (by omega), h1, Nat.add_sub_cancel_left, List.set_append_right _ _ (by omega), Nat.sub_self]
  rw [List.drop_eq_getElem_cons h]
  simp only [List.set_cons_zero, List.length_append, List.length_cons, List.length_nil]
  simp [Nat.add_assoc]

/-- Since w nothing but block g has been written, which is L with l put in from place off on. -/
def Sta (w : World) (g off : Nat) (L l : List Nat) (w' : World) : Prop := w.grownBy w' (some g) ∧ Blk w' g (put L off l)

theorem grown_trans {a b c : World} {r : Option Nat} (h : a.grownBy b r) (k : b.grownBy c r) : a.grownBy c r :=
  ⟨k.os.trans h.os, k.tape.trans h.tape, k.output.trans h.output, Nat.le_trans h.size k.size, fun i hi hr => (k.block i (Nat.lt_of_lt_of_le hi h.size) hr).trans (h.block i hi hr)⟩

theorem grown_set (w : World) (g i : Nat) (v : Value) : w.grownBy (w.setCell ⟨g, i, none⟩ v) (some g) :=
  ⟨rfl, rfl, rfl, by simp [World.setCell], fun k _ hk => Below.heap_setCell _ _ _ _ (by simp at hk; exact hk)⟩

theorem Sta.zero {w : World} {g : Nat} {L : List Nat} (off : Nat) (h : Blk w g L) : Sta w g off L [] w := ⟨World.grownBy.refl _ _, by rw [put_nil]; exact h⟩

theorem Sta.step {w w' : World} {g off : Nat} {L l : List Nat} (h : Sta w g off L l w') (x : Nat) (hl : off + l.length < L.length) : Sta w g off L (l ++ [x]) (w'.setCell ⟨g, off + l.length, none⟩ (.int .u32 (x : Int))) :=
  ⟨grown_trans h.1 (grown_set _ _ _ _), by rw [← put_snoc _ _ _ _ hl]; exact h.2.set _ _⟩

/-- What along answers. -/
def Alonged (w : World) (g off n : Nat) (L : List Nat) (Inv : Nat → List Nat → Nat → Prop) (e : Ending) (w' : World) : Prop :=
  ∃ l c, e = .returned (.int .u32 ((c : Nat) : Int)) ∧ l.length = n ∧ c < 4294967296 ∧ Lim l ∧ Inv n l c ∧ Sta w g off L l w'

/-- What the function that is handed on answers at place k. -/
def Stepped (Inv : Nat → List Nat → Nat → Prop) (k : Nat) (l : List Nat) (w : World) (e : Ending) (w' : World) : Prop :=
  (∃ o c, e = .returned (.tuple #[.int .u32 ((o : Nat) : Int), .int .u32 ((c : Nat) : Int)]) ∧ o < 4294967296 ∧ c < 4294967296 ∧ Inv (k + 1) (l ++ [o]) c) ∧ w = w'

set_option maxRecDepth 100000 in
set_option maxHeartbeats 1000000 in
theorem along_any (w : World) (g off n cap : Nat) (L : List Nat) (av bv : Value) (fid : Nat) (caps : Array Value) (xa xb : Nat → Nat) (Inv : Nat → List Nat → Nat → Prop)
    (hL : off + n ≤ L.length) (hcap : n ≤ cap) (hg : Blk w g L) (hn : n ≤ 1000000)
    (hA : ∀ (k : Nat) l w', k < n → l.length = k → Sta w g off L l w' → Calls Tryz.prog 107 #[av, .int .i64 (k : Int)] w' fun e w2 => e = .returned (.int .u32 (xa k : Int)) ∧ w' = w2)
    (hB : ∀ (k : Nat) l w', k < n → l.length = k → Sta w g off L l w' → Calls Tryz.prog 107 #[bv, .int .i64 (k : Int)] w' fun e w2 => e = .returned (.int .u32 (xb k : Int)) ∧ w' = w2)
    (hF : ∀ (k : Nat) l (c : Nat) w', k < n → l.length = k → Sta w g off L l w' → Inv k l c → c < 4294967296 →
      Calls Tryz.prog fid (#[.int .u32 (xa k : Int), .int .u32 (xb k : Int), .int .u32 (c : Int)] ++ caps) w' (Stepped Inv k l w'))
    (h0 : Inv 0 [] 0) (hcall : ∀ args w, (callFunc fid args).run Tryz.prog w = .ok (.enter fid args) w) :
    Calls Tryz.prog 86 #[.slice (some ⟨g, off, none⟩) n cap, av, bv, .func (.func fid) #[] caps] w (Alonged w g off n L Inv) := by
  go_enter Tryz.func86, Tryz.ntmps86
  go_wp2
  have HA := Lib.hid hA; clear hA
  have HB := Lib.hid hB; clear hB
  have HF := Lib.hid hF; clear hF
  go_loopw [9, 13] (fun c s wr => ∃ (k : Nat) (l : List Nat) (cn : Nat), s = .int .i64 k ∧ c = .int .u32 (cn : Int) ∧ k ≤ n ∧ l.length = k ∧ cn < 4294967296 ∧ Lim l ∧ Inv k l cn ∧ Sta w g off L l wr) (fun _ s _ => n - (intOf s).toNat)
  case atStart => exact ⟨0, [], 0, rfl, rfl, Nat.zero_le _, rfl, by decide, fun x hx => by simp at hx, h0, Sta.zero off hg⟩
  case round =>
    obtain ⟨k, l, cn, rfl, rfl, hk, hlen, hcn, hlim, hinv, hsta⟩ := hrel
    have hthere : k < n → ∃ v, wr.cell? ⟨g, off + k, none⟩ = some v := fun h => hsta.2.there (by rw [put_length _ _ _ (by omega)]; omega)
    have HL := Lib.hid hlen; clear hlen
    by_cases hlt : k < n
    · have hfree := hsta.2.free (off + k)
      obtain ⟨v0, hv0⟩ := hthere hlt
      clear hthere
      go_wp2_with fail
      refine (HA.out k l wr hlt HL.out hsta).mono ?_
      rintro e w' ⟨rfl, rfl⟩
      go_wp2_with fail
      refine (HB.out k l wr hlt HL.out hsta).mono ?_
      rintro e w' ⟨rfl, rfl⟩
      go_wp2_with fail
      refine (HF.out k l cn wr hlt HL.out hsta hinv hcn).mono ?_
      rintro e w' ⟨⟨o, c', rfl, ho, hc', hinv'⟩, rfl⟩
      go_wp2
      go_roundw
      case rel =>
        have hl := HL.out
        subst hl
        refine ⟨l.length + 1, l ++ [o], c', by go_num, rfl, by omega, by simp, hc', ?_, hinv', hsta.step o (by omega)⟩
        intro x hx
        rcases List.mem_append.1 hx with h | h
        · exact hlim x h
        · simp at h; omega
      case measure => simp [intOf]; omega
    · go_wp2
      go_ret
      obtain rfl : k = n := by omega
      exact ⟨l, cn, rfl, HL.out, hcn, hlim, hinv, hsta⟩

end Go.Proofs.YtepacminjfeliaaGreatDoor

/-
  The functions that are handed on to nat.along: bits.Add32, bits.Sub32, and the closures of plus, minus and shift: what each makes of a limb of each number and a carry.
-/
namespace Go.Proofs.YtepacminjfeliaaGreatDoor
open Go.RowKit

theorem ret_two {k : IntKind} {a b a' b' : Int} (h1 : a = a') (h2 : b = b') : Ending.returned (.tuple #[.int k a, .int k b]) = .returned (.tuple #[.int k a', .int k b']) := by rw [h1, h2]

set_option maxRecDepth 100000 in
set_option maxHeartbeats 400000 in
theorem add32_any (x y c : Nat) (w : World) (hx : x < 4294967296) (hy : y < 4294967296) (hc : c < 4294967296) :
    Calls Tryz.prog 103 #[.int .u32 (x : Int), .int .u32 (y : Int), .int .u32 (c : Int)] w fun e w' =>
      e = .returned (.tuple #[.int .u32 (((x + y + c) % 4294967296 : Nat) : Int), .int .u32 (((x + y + c) / 4294967296 : Nat) : Int)]) ∧ w = w' := by
  go_enter Tryz.func103, Tryz.ntmps103
  go_wp2
  go_ret2
  exact ⟨ret_two (by show (_ : Int) = _; omega) (by show (_ : Int) = _; omega), rfl⟩

/-- What bits.Sub32 owes. -/
def bor (x y c : Nat) : Nat := if x < y + c then 1 else 0

theorem bor_eq (x y c : Nat) (hx : x < 4294967296) (hy : y < 4294967296) (hc : c ≤ 1) :
    bits .or .u32 (bits .and .u32 (bits .xor .u32 IntKind.u32.max x) y) (bits .and .u32 (bits .xor .u32 IntKind.u32.max (bits .xor .u32 x y)) (((x : Int) - y - c) % 4294967296)) / 2147483648 = (bor x y c : Int) := by
  obtain ⟨d, hd⟩ : ∃ d : Nat, d = (x + 4294967296 - y - c) % 4294967296 := ⟨_, rfl⟩
  have hd1 : d < 4294967296 := by omega
  have e0 : ((x : Int) - y - c) % 4294967296 = (d : Int) := by omega
  have em : IntKind.u32.max = ((4294967295 : Nat) : Int) := by decide
  have l1 : ∀ a b : Nat, a < 4294967296 → b < 4294967296 → a ^^^ b < 4294967296 := fun a b ha hb => Nat.xor_lt_two_pow (n := 32) ha hb
  have l2 : ∀ a b : Nat, a < 4294967296 → b < 4294967296 → a &&& b < 4294967296 := fun a b ha hb => Nat.and_lt_two_pow (n := 32) a hb
  have k1 := l1 4294967295 x (by decide) hx
  have k2 := l2 _ y k1 hy
  have k3 := l1 x y hx hy
  have k4 := l1 4294967295 _ (by decide) k3
  have k5 := l2 _ d k4 hd1
  rw [e0, em, u32_xor_nat _ _ (by decide) hx, u32_and_nat _ _ k1 hy, u32_xor_nat _ _ hx hy, u32_xor_nat _ _ (by decide) k3, u32_and_nat _ _ k4 hd1, u32_or_nat _ _ k2 k5]
  have e1 : ∀ a : Nat, a / 2147483648 = a >>> 31 := fun a => (Nat.shiftRight_eq_div_pow a 31).symm
  have e2 : ((((4294967295 ^^^ x) &&& y ||| (4294967295 ^^^ (x ^^^ y)) &&& d) : Nat) : Int) / 2147483648 = (((((4294967295 ^^^ x) &&& y ||| (4294967295 ^^^ (x ^^^ y)) &&& d)) / 2147483648 : Nat) : Int) := by omega
  rw [e2, e1]
  simp only [Nat.shiftRight_or_distrib, Nat.shiftRight_and_distrib, Nat.shiftRight_xor_distrib]
  have e3 : (4294967295 : Nat) >>> 31 = 1 := by decide
  have p1 : (x / 2147483648 = 0 ∧ x >>> 31 = 0) ∨ (x / 2147483648 = 1 ∧ x >>> 31 = 1) := by rw [← e1]; omega
  have p2 : (y / 2147483648 = 0 ∧ y >>> 31 = 0) ∨ (y / 2147483648 = 1 ∧ y >>> 31 = 1) := by rw [← e1]; omega
  have p3 : (d / 2147483648 = 0 ∧ d >>> 31 = 0) ∨ (d / 2147483648 = 1 ∧ d >>> 31 = 1) := by rw [← e1]; omega
  rw [e3]
  have hb : (x < y + c ∧ bor x y c = 1) ∨ (¬ x < y + c ∧ bor x y c = 0) := by
    unfold bor; by_cases h : x < y + c <;> simp [h]
  clear e0 em l1 l2 k1 k2 k3 k4 k5 e1 e2 e3
  rcases p1 with ⟨p1, q1⟩ | ⟨p1, q1⟩ <;> rcases p2 with ⟨p2, q2⟩ | ⟨p2, q2⟩ <;> rcases p3 with ⟨p3, q3⟩ | ⟨p3, q3⟩ <;> rw [q1, q2, q3] <;> rcases hb with ⟨h, hb⟩ | ⟨h, hb⟩ <;> rw [hb] <;> first | rfl | (exfalso; omega)

set_option maxRecDepth 100000 in
set_option maxHeartbeats 400000 in
theorem sub32_any (x y c : Nat) (w : World) (hx : x < 4294967296) (hy : y < 4294967296) (hc : c ≤ 1) :
    Calls Tryz.prog 118 #[.int .u32 (x : Int), .int .u32 (y : Int), .int .u32 (c : Int)] w fun e w' =>
      e = .returned (.tuple #[.int .u32 (((x + 4294967296 - y - c) % 4294967296 : Nat) : Int), .int .u32 (bor x y c : Int)]) ∧ w = w' := by
  go_enter Tryz.func118, Tryz.ntmps118
  go_wp2
  go_ret2
  exact ⟨ret_two (by show ((x : Int) - y - c) % 4294967296 = _; omega) (bor_eq x y c hx hy hc), rfl⟩

theorem mul_lt (t y : Nat) (ht : t < 4294967296) (hy : y < 4294967296) : t * y ≤ 18446744065119617025 := by
  have := Nat.mul_le_mul (show t ≤ 4294967295 by omega) (show y ≤ 4294967295 by omega)
  omega

theorem wide1 (t y : Nat) (ht : t < 4294967296) (hy : y < 4294967296) : IntKind.u64.wrap ((t : Int) * y) = ((t * y : Nat) : Int) := by
  have := mul_lt t y ht hy
  rw [← Int.natCast_mul]; exact IntWalk.u64_in _ (by omega)

theorem wide2 (m c : Nat) (hm : m ≤ 18446744065119617025) (hc : c < 4294967296) : IntKind.u64.wrap ((m : Int) + c) = ((m + c : Nat) : Int) := by
  rw [IntWalk.u64_in _ (by omega)]; rfl

theorem wide3 (m x c : Nat) (hm : m ≤ 18446744065119617025) (hx : x < 4294967296) (hc : c < 4294967296) : IntKind.u64.wrap (((m + x : Nat) : Int) + c) = ((m + x + c : Nat) : Int) := by
  rw [IntWalk.u64_in _ (by omega)]; rfl

theorem plus_wide (x y c t : Nat) (hx : x < 4294967296) (hy : y < 4294967296) (hc : c < 4294967296) (ht : t < 4294967296) :
    IntKind.u64.wrap (IntKind.u64.wrap (IntKind.u64.wrap ((t : Int) * y) + x) + c) = ((t * y + x + c : Nat) : Int) := by
  rw [wide1 t y ht hy, wide2 _ x (mul_lt t y ht hy) hx, wide3 _ x c (mul_lt t y ht hy) hx hc]

theorem plus_less (x y c t : Nat) (hx : x < 4294967296) (hy : y < 4294967296) (hc : c < 4294967296) (ht : t < 4294967296) : t * y + x + c < 18446744073709551616 := by
  have := mul_lt t y ht hy; omega

set_option maxRecDepth 100000 in
set_option maxHeartbeats 400000 in
theorem plus1_any (x y c t : Nat) (a : Addr) (w : World) (hx : x < 4294967296) (hy : y < 4294967296) (hc : c < 4294967296) (ht : t < 4294967296) (hcell : w.cell? a = some (.int .u32 (t : Int))) :
    Calls Tryz.prog 119 #[.int .u32 (x : Int), .int .u32 (y : Int), .int .u32 (c : Int), .pointer (some a)] w fun e w' =>
      e = .returned (.tuple #[.int .u32 (((t * y + x + c) % 4294967296 : Nat) : Int), .int .u32 (((t * y + x + c) / 4294967296 : Nat) : Int)]) ∧ w = w' := by
  go_enter Tryz.func119, Tryz.ntmps119
  go_wp2
  go_ret2
  have e := plus_wide x y c t hx hy hc ht
  have l := plus_less x y c t hx hy hc ht
  refine ⟨ret_two (a' := (((t * y + x + c) % 4294967296 : Nat) : Int)) ?_ ?_, rfl⟩
  · show IntKind.u64.wrap _ % 4294967296 = _
    rw [e]; rfl
  · show IntKind.u64.wrap _ / 4294967296 % 4294967296 = _
    rw [e]; generalize t * y + x + c = m at l; omega

/-- What shift makes of a limb: a wide sum. -/
theorem shift_wide (x c s : Nat) (hx : x < 4294967296) (hc : c < 2 ^ s) (hs : s ≤ 32) :
    bits .or .u64 (IntKind.u64.wrap ((x : Int) * 2 ^ s)) (IntKind.u64.wrap (c : Int)) = ((2 ^ s * x + c : Nat) : Int) ∧ 2 ^ s * x + c < 18446744073709551616 ∧ (2 ^ s * x + c) / 4294967296 < 2 ^ s := by
  have h2 : 2 ^ s ≤ 4294967296 := Nat.pow_le_pow_right (by decide) hs (n := 2)
  have h3 : 2 ^ s * x ≤ 2 ^ s * 4294967295 := Nat.mul_le_mul_left _ (by omega)
  have h4 : 2 ^ s * 4294967295 ≤ 4294967296 * 4294967295 := Nat.mul_le_mul_right _ h2
  have e : (x : Int) * 2 ^ s = ((2 ^ s * x : Nat) : Int) := by rw [Int.natCast_mul, Int.natCast_pow, Int.mul_comm]; rfl
  rw [e, IntWalk.u64_in _ (by omega), IntWalk.u64_in _ (by omega), u64_or_nat _ _ (by omega) (by omega), nat_join s _ _ (Nat.mul_mod_right _ _) hc]
  refine ⟨rfl, by omega, ?_⟩
  rw [Nat.div_lt_iff_lt_mul (by decide)]
  have : 2 ^ s * 4294967296 = 2 ^ s * 4294967295 + 2 ^ s := by rw [← Nat.mul_succ]
  omega

set_option maxRecDepth 100000 in
set_option maxHeartbeats 400000 in
theorem shift1_any (x y c s : Nat) (a : Addr) (w : World) (hx : x < 4294967296) (hc : c < 2 ^ s) (hs : s ≤ 32) (hcell : w.cell? a = some (.int .i64 (s : Int))) :
    Calls Tryz.prog 133 #[.int .u32 (x : Int), .int .u32 (y : Int), .int .u32 (c : Int), .pointer (some a)] w fun e w' =>
      e = .returned (.tuple #[.int .u32 (((2 ^ s * x + c) % 4294967296 : Nat) : Int), .int .u32 (((2 ^ s * x + c) / 4294967296 : Nat) : Int)]) ∧ w = w' := by
  have H := Lib.hid (shift_wide x c s hx hc hs)
  go_enter Tryz.func133, Tryz.ntmps133
  go_wp2
  go_ret2
  obtain ⟨e, l, _⟩ := H.out
  refine ⟨ret_two (a' := (((2 ^ s * x + c) % 4294967296 : Nat) : Int)) ?_ ?_, rfl⟩
  · show bits .or .u64 (IntKind.u64.wrap _) (IntKind.u64.wrap _) % 4294967296 = _
    rw [e]; rfl
  · show bits .or .u64 (IntKind.u64.wrap _) (IntKind.u64.wrap _) / 4294967296 % 4294967296 = _
    rw [e]; generalize 2 ^ s * x + c = m at l; omega

theorem sub32_zero (x y : Nat) (w : World) (hx : x < 4294967296) (hy : y < 4294967296) :
    Calls Tryz.prog 118 #[.int .u32 (x : Int), .int .u32 (y : Int), .int .u32 0] w fun e w' =>
      e = .returned (.tuple #[.int .u32 (((x + 4294967296 - y) % 4294967296 : Nat) : Int), .int .u32 (bor x y 0 : Int)]) ∧ w = w' :=
  sub32_any x y 0 w hx hy (by decide)

theorem bor_le (x y c : Nat) : bor x y c ≤ 1 := by unfold bor; split <;> omega

/-- What minus makes of a limb: no carry is lost. -/
theorem minus_wide (x y c t : Nat) (hx : x < 4294967296) (hy : y < 4294967296) (hc : c < 4294967296) (ht : t < 4294967296) :
    (t * y + c) / 4294967296 + bor x ((t * y + c) % 4294967296) 0 < 4294967296 ∧
    (x + 4294967296 - (t * y + c) % 4294967296) % 4294967296 + t * y + c = x + 4294967296 * ((t * y + c) / 4294967296 + bor x ((t * y + c) % 4294967296) 0) := by
  have hm := mul_lt t y ht hy
  generalize t * y = m at hm
  unfold bor
  split <;> omega

set_option maxRecDepth 100000 in
set_option maxHeartbeats 400000 in
theorem minus1_any (x y c t : Nat) (a : Addr) (w : World) (hx : x < 4294967296) (hy : y < 4294967296) (hc : c < 4294967296) (ht : t < 4294967296) (hcell : w.cell? a = some (.int .u32 (t : Int))) :
    Calls Tryz.prog 142 #[.int .u32 (x : Int), .int .u32 (y : Int), .int .u32 (c : Int), .pointer (some a)] w fun e w' =>
      e = .returned (.tuple #[.int .u32 (((x + 4294967296 - (t * y + c) % 4294967296) % 4294967296 : Nat) : Int), .int .u32 (((t * y + c) / 4294967296 + bor x ((t * y + c) % 4294967296) 0 : Nat) : Int)]) ∧ w = w' := by
  have hw := minus_wide x y c t hx hy hc ht
  have hm := mul_lt t y ht hy
  have e1 : IntKind.u64.wrap (IntKind.u64.wrap ((t : Int) * y) + c) = ((t * y + c : Nat) : Int) := by rw [wide1 t y ht hy, wide2 _ c hm hc]
  have hM : t * y + c < 18446744073709551616 := by omega
  generalize t * y + c = M at hM e1 hw
  obtain ⟨l, hl⟩ : ∃ l : Nat, l = M % 4294967296 := ⟨_, rfl⟩
  obtain ⟨h, hh⟩ : ∃ h : Nat, h = M / 4294967296 := ⟨_, rfl⟩
  have e2 : (M : Int) % 4294967296 = (l : Int) := by omega
  have e3 : (M : Int) / 4294967296 = (h : Int) := by omega
  have hl' : l < 4294967296 := by omega
  have hh' : h < 4294967296 := by omega
  rw [← hl, ← hh] at hw ⊢
  have hb := bor_le x l 0
  have hs : (h : Int) + (bor x l 0 : Int) < 4294967296 := by omega
  have Hl := Lib.hid hl; clear hl
  have Hh := Lib.hid hh; clear hh
  have HM := Lib.hid hM; clear hM
  have Hm := Lib.hid hm; clear hm
  have Hw := Lib.hid hw; clear hw
  go_enter Tryz.func142, Tryz.ntmps142
  go_wp2_with fail
  refine (sub32_zero x l w hx hl').mono ?_
  rintro e w' ⟨rfl, rfl⟩
  go_wp2
  go_ret2
  exact ⟨ret_two rfl rfl, rfl⟩

end Go.Proofs.YtepacminjfeliaaGreatDoor

/-
  nat.Add: the sum of two lists is worth the sum of both, in short, in new memory. No condition but that each has at most ten thousand limbs.
-/
namespace Go.Proofs.YtepacminjfeliaaGreatDoor
open Go.RowKit

theorem Tryz.info36 : (Tryz.prog.info? 75).map (fun i => (i.zero, i.size, i.bytes)) = some (some (.int .u32 0), 1, 4) := by kernel_rfl

/-- A new row of n limbs 0. -/
theorem made_row {w w1 : World} {base n : Nat} (h : w1.ownsRow base 75 1 (.slice (some ⟨w.heap.size, 0, none⟩) n n) n (madeCells #[Value.int .u32 0] n).toList) : Blk w1 w.heap.size (List.replicate n 0) := by
  obtain ⟨h1, h2⟩ := h
  rcases h2 with ⟨h2, _⟩ | ⟨g, cap, cur, hv, _, hg, _, _, hs, ht⟩
  · cases h2
  · simp only [Value.slice.injEq, Option.some.injEq, Addr.mk.injEq, and_true, true_and] at hv
    obtain ⟨rfl, rfl⟩ := hv
    unfold Blk
    rw [hg]
    have e : cur = (List.map (fun (x : Nat) => Value.int .u32 (x : Int)) (List.replicate n 0)).toArray := by
      apply Array.ext'
      rw [List.take_of_length_le (by simp [hs])] at ht
      rw [ht]
      have := toList_madeCells_one (.int .u32 0) n
      simpa using this
    rw [e]

/-- What a call answers that makes a number: a list in short, worth N; nothing that was there has been written. -/
def Made (w : World) (N : Nat) (e : Ending) (w' : World) : Prop :=
  ∃ ad n cap l, e = .returned (.slice ad n cap) ∧ Rd w' (.slice ad n cap) l ∧ Can l ∧ val l = N ∧ Below w.heap.size w w'

theorem grown_below {w w1 w2 : World} {g : Nat} (h1 : w.grownBy w1 none) (h2 : w1.grownBy w2 (some g)) (hg : w.heap.size ≤ g) : Below w.heap.size w w2 :=
  ⟨h2.os.trans h1.os, h2.tape.trans h1.tape, h2.output.trans h1.output, Nat.le_trans h1.size h2.size,
    fun k hk => (h2.block k (Nat.lt_of_lt_of_le hk h1.size) (by simp; omega)).trans (h1.block k hk (by simp))⟩

theorem put_whole {M : Nat} {l : List Nat} (h : l.length = M) : put (List.replicate M 0) 0 l = l := by
  unfold put; simp [h]

/-- The row that along has written, read as a slice. -/
theorem Blk.rd {w : World} {g : Nat} {l : List Nat} (h : Blk w g l) (hl : Lim l) {n cap : Nat} (hn : l.length = n) (hcap : n ≤ cap) : Rd w (.slice (some ⟨g, 0, none⟩) n cap) l :=
  ⟨_, n, cap, rfl, hn.symm, hcap, hl, fun _ => ⟨g, 0, rfl, h.lt, fun i x hi => by rw [Nat.zero_add]; exact h.cell hi⟩⟩

theorem fresh_done {w w1 w2 : World} {M : Nat} {l : List Nat} (h1 : w.grownBy w1 none) (h2 : Sta w1 w.heap.size 0 (List.replicate M 0) l w2) (hl : l.length = M) (hL : Lim l) :
    Rd w2 (.slice (some ⟨w.heap.size, 0, none⟩) M M) l ∧ Below w.heap.size w w2 := by
  obtain ⟨h3, h4⟩ := h2
  rw [put_whole hl] at h4
  exact ⟨h4.rd hL hl (Nat.le_refl _), grown_below h1 h3 (Nat.le_refl _)⟩

/-- What has been summed up so far. -/
def InvAdd (a b : List Nat) (k : Nat) (l : List Nat) (c : Nat) : Prop := val l + pw k * c = sm (at0 a) k + sm (at0 b) k

theorem InvAdd.step {a b : List Nat} {k : Nat} {l : List Nat} {c : Nat} (h : InvAdd a b k l c) (hl : l.length = k) :
    InvAdd a b (k + 1) (l ++ [(at0 a k + at0 b k + c) % 4294967296]) ((at0 a k + at0 b k + c) / 4294967296) := by
  unfold InvAdd at h ⊢
  simp only [sm]
  rw [val_snoc, hl]
  have e : pw k * ((at0 a k + at0 b k + c) % 4294967296) + pw (k + 1) * ((at0 a k + at0 b k + c) / 4294967296) = pw k * (at0 a k + at0 b k + c) := by
    rw [pw_succ, Nat.mul_comm 4294967296 (pw k), Nat.mul_assoc, ← Nat.mul_add, Nat.mod_add_div]
  rw [Nat.mul_add, Nat.mul_add] at e
  omega

theorem add32_step (a b : List Nat) (ha : Lim a) (hb : Lim b) (k : Nat) (l : List Nat) (c : Nat) (w : World) (hl : l.length = k) (h : InvAdd a b k l c) (hc : c < 4294967296) :
    Calls Tryz.prog 103 (#[.int .u32 (at0 a k : Int), .int .u32 (at0 b k : Int), .int .u32 (c : Int)] ++ #[]) w (Stepped (InvAdd a b) k l w) := by
  have h1 := at0_lt ha k
  have h2 := at0_lt hb k
  refine (add32_any _ _ _ w h1 h2 hc).mono ?_
  rintro e w' ⟨rfl, rfl⟩
  exact ⟨⟨_, _, rfl, Nat.mod_lt _ (by decide), by omega, h.step hl⟩, rfl⟩

set_option maxRecDepth 100000 in
set_option maxHeartbeats 1000000 in
theorem add_any {w : World} {va vb : Value} {a b : List Nat} (ha : Rd w va a) (hb : Rd w vb b) (la : a.length ≤ 10000) (lb : b.length ≤ 10000) :
    Calls Tryz.prog 73 #[va, vb] w (Made w (val a + val b)) := by
  obtain ⟨i0, hi, hz0, hz1, hz2⟩ := info_parts Tryz.info36
  obtain ⟨ada, na, ca, rfl, hna, hca, hxa, -⟩ := id ha
  obtain ⟨adb, nb, cb, rfl, hnb, hcb, hxb, -⟩ := id hb
  have la' : na ≤ 10000 := by omega
  have lb' : nb ≤ 10000 := by omega
  have HA := Lib.hid hna; clear hna
  have HB := Lib.hid hnb; clear hnb
  have HXA := Lib.hid hxa; clear hxa
  have HXB := Lib.hid hxb; clear hxb
  have key : ∀ (M : Nat) (w1 : World), na < M → nb < M → M ≤ 10001 → w1.ownsRow w.heap.size 75 1 (.slice (some ⟨w.heap.size, 0, none⟩) M M) M (madeCells #[Value.int .u32 0] M).toList → w.grownBy w1 none →
      Calls Tryz.prog 86 #[.slice (some ⟨w.heap.size, 0, none⟩) M M, .slice ada na ca, .slice adb nb cb, .func (.func 103) #[] #[]] w1 fun e w2 => ∃ c l, e = .returned (.int .u32 c) ∧ Rd w2 (.slice (some ⟨w.heap.size, 0, none⟩) M M) l ∧ l.length = M ∧ val l = val a + val b ∧ Below w.heap.size w w2 := by
    intro M w1 h1 h2 h3 hown hgrow
    have hblk := made_row hown
    have hold : ∀ l w', Sta w1 w.heap.size 0 (List.replicate M 0) l w' → Below w.heap.size w w' := fun l w' h => grown_below hgrow h.1 (Nat.le_refl _)
    refine (along_any w1 w.heap.size 0 M M (List.replicate M 0) _ _ 103 #[] (at0 a) (at0 b) (InvAdd a b) (by simp) (Nat.le_refl _) hblk (by omega)
      (fun k l w' _ _ hs => limb_any (ha.below (hold l w' hs)) (by omega) k) (fun k l w' _ _ hs => limb_any (hb.below (hold l w' hs)) (by omega) k)
      (fun k l c w' _ hl _ hinv hc => add32_step a b HXA.out HXB.out k l c w' hl hinv hc) (by simp [InvAdd, val, sm]) (fun _ _ => by simp [go_sem])).mono ?_
    rintro e w2 ⟨l, c, rfl, hl, hc, hL, hinv, hsta⟩
    obtain ⟨hr, hbel⟩ := fresh_done hgrow hsta hl hL
    refine ⟨_, l, rfl, hr, hl, ?_, hbel⟩
    unfold InvAdd at hinv
    have e1 := HA.out
    have e2 := HB.out
    rw [sm_all a (by omega), sm_all b (by omega)] at hinv
    have p := pw_pos M
    have v1 := val_lt a HXA.out
    have v2 := val_lt b HXB.out
    obtain ⟨M', rfl⟩ : ∃ M', M = M' + 1 := ⟨M - 1, by omega⟩
    have q1 := pw_le (show a.length ≤ M' by omega)
    have q2 := pw_le (show b.length ≤ M' by omega)
    have : c = 0 := by
      rcases Nat.eq_zero_or_pos c with h | h
      · exact h
      · have := Nat.mul_le_mul_left (pw (M' + 1)) h
        have e3 : pw (M' + 1) = 4294967296 * pw M' := rfl
        omega
    subst this
    omega
  have KEY := Lib.hid key; clear key
  have HRA := Lib.hid ha; clear ha
  have HRB := Lib.hid hb; clear hb
  obtain ⟨M, hM1, hM2, hM3⟩ : ∃ M : Nat, na < M ∧ nb < M ∧ (M = na + 1 ∨ M = nb + 1) := ⟨max na nb + 1, by omega, by omega, by omega⟩
  have HM := Lib.hid hM3
  have hM4 : M ≤ 10001 := by omega
  clear hM3
  by_cases hlt : na < nb
  all_goals
    have hM5 := HM.out
    have hM6 : (if na < nb then nb else na) + 1 ≤ M := by split <;> omega
    have hM7 : M ≤ (if na < nb then nb else na) + 1 := by split <;> omega
    first | rw [if_pos hlt] at hM6 hM7 | rw [if_neg hlt] at hM6 hM7
    clear hM5
    go_enter Tryz.func73, Tryz.ntmps73
    go_wp2_with (at_make; refine wpList_make_full _ rfl _ _ 38 rfl w.heap.size 75 i0 (.int .u32 0) 1 Tryz.underlying38 hi hz0 hz1 _ _ _ _ M rfl rfl (by omega) (by omega) (by rw [hz2]; omega) (by unfold maxLen; omega) (Nat.le_refl _) ?_)
    intro w1 hown hgrow
    have HO := Lib.hid hown; clear hown
    have HG := Lib.hid hgrow; clear hgrow
    go_wp2_with fail
    refine (KEY.out M w1 hM1 hM2 hM4 HO.out HG.out).mono ?_
    rintro e w2 ⟨c, l, rfl, hr, hl, hv, hbel⟩
    have HL := Lib.hid hl; clear hl
    have HV := Lib.hid hv; clear hv
    go_wp2_with fail
    refine (short_any hr (by have := HL.out; omega)).mono ?_
    rintro e w3 ⟨⟨ad, k, cap, l', rfl, hr', hcan, hv'⟩, rfl⟩
    have HV' := Lib.hid hv'; clear hv'
    go_wp2
    go_ret
    exact ⟨ad, k, cap, l', rfl, hr', hcan, HV'.out.trans HV.out, hbel⟩

end Go.Proofs.YtepacminjfeliaaGreatDoor

/-
  nat.Of and nat.Norm: a number of 64 bits as a list in short; a list in short, in new memory.
-/
namespace Go.Proofs.YtepacminjfeliaaGreatDoor
open Go.RowKit

/-- The two limbs of a number of 64 bits. -/
theorem of_two (x : Int) (h0 : 0 ≤ x) (h1 : x < 18446744073709551616) : ∃ p q : Nat, x % 4294967296 = (p : Int) ∧ x / 4294967296 = (q : Int) ∧ p < 4294967296 ∧ q < 4294967296 ∧ val [p, q] = x.toNat :=
  ⟨(x % 4294967296).toNat, (x / 4294967296).toNat, by omega, by omega, by omega, by omega, by simp only [val]; omega⟩

theorem two_blk (w : World) (p q : Nat) : Blk (w.alloc (.cells #[.int .u32 (p : Int), .int .u32 (q : Int)] 75)) w.heap.size [p, q] := by
  unfold Blk
  exact heap_alloc_new w _

theorem lim_two {p q : Nat} (hp : p < 4294967296) (hq : q < 4294967296) : Lim [p, q] := by
  intro x hx
  simp at hx
  rcases hx with rfl | rfl <;> assumption

set_option maxRecDepth 100000 in
set_option maxHeartbeats 400000 in
theorem of_any (x : Int) (w : World) (h0 : 0 ≤ x) (h1 : x < 18446744073709551616) :
    Calls Tryz.prog 66 #[.int .u64 x] w (Made w x.toNat) := by
  obtain ⟨p, q, hp, hq, p1, q1, hv⟩ := of_two x h0 h1
  have HV := Lib.hid hv; clear hv
  go_enter Tryz.func66, Tryz.ntmps66
  go_wp2_with fail
  refine (short_any ((two_blk w p q).rd (lim_two p1 q1) (n := 2) (cap := 2) rfl (by decide)) (by simp)).mono ?_
  rintro e w3 ⟨⟨ad, k, cap, l', rfl, hr', hcan, hv'⟩, rfl⟩
  have HV' := Lib.hid hv'; clear hv'
  go_wp2
  go_ret
  exact ⟨ad, k, cap, l', rfl, hr', hcan, HV'.out.trans HV.out, (Below.refl _ _).alloc (Nat.le_refl _) _⟩

/-- An owned row of limbs, read as a slice. -/
theorem own_rd {w : World} {base : Nat} {v : Value} {n : Nat} {l : List Nat} (h : w.ownsRow base 75 1 v n (l.map fun (x : Nat) => Value.int .u32 (x : Int))) (hl : Lim l) : ∃ ad cap, v = .slice ad n cap ∧ Rd w (.slice ad n cap) l := by
  obtain ⟨h1, h2⟩ := h
  have hn : l.length = n := by simpa using h1
  rcases h2 with ⟨rfl, rfl⟩ | ⟨g, cap, cur, rfl, _, hg, hcap, _, hs, ht⟩
  · obtain rfl : l = [] := List.eq_nil_of_length_eq_zero hn
    exact ⟨_, _, rfl, Rd.nil w⟩
  · refine ⟨_, cap, rfl, _, n, cap, rfl, hn.symm, hcap, hl, fun _ => ⟨g, 0, rfl, (Array.getElem?_eq_some_iff.1 hg).1, fun i x hi => ?_⟩⟩
    have h3 : (cur.toList.take (n * 1))[i]? = some (.int .u32 (x : Int)) := by rw [ht, List.getElem?_map, hi]; rfl
    have hi' : i < n := by have := (List.getElem?_eq_some_iff.1 hi).1; omega
    rw [List.getElem?_take_of_lt (by omega)] at h3
    rw [Nat.zero_add]
    simp only [World.cell?, hg]
    simpa using h3

set_option maxRecDepth 100000 in
set_option maxHeartbeats 400000 in
theorem norm_any {w : World} {v : Value} {a : List Nat} (h : Rd w v a) (hl : a.length ≤ 1000000) :
    Calls Tryz.prog 74 #[v] w (Made w (val a)) := by
  obtain ⟨i0, hi, hz0, hz1, hz2⟩ := info_parts Tryz.info36
  go_enter Tryz.func74, Tryz.ntmps74
  go_wp2_with fail
  refine (short_any h hl).mono ?_
  rintro e w3 ⟨⟨ad, k, cap, l', rfl, hr', hcan, hv'⟩, rfl⟩
  have HV' := Lib.hid hv'; clear hv'
  obtain ⟨ad', k', cap', e', hk, hcap, hlim, hcells⟩ := id hr'
  simp only [Value.slice.injEq] at e'
  obtain ⟨rfl, rfl, rfl⟩ := e'
  have hk' : k ≤ 1000000 := by
    have h1 := val_lt a
    have h2 := hcan.len (k := a.length) (by rw [HV'.out]; exact val_lt a h.lim)
    omega
  have HK := Lib.hid hk; clear hk
  have HL := Lib.hid hlim; clear hlim
  have HC := Lib.hid hcells; clear hcells
  cases ad with
  | some a0 =>
    go_wp2_with (at_builtin; refine wpList_append_own _ rfl _ _ 38 rfl w.heap.size 75 i0 (.int .u32 0) 1 4 Tryz.underlying38 hi hz0 hz1 hz2 rfl (by decide) _ _ _ rfl (World.ownsRow_nil _ _ _ _) a0 k cap (l'.map fun (x : Nat) => Value.int .u32 (x : Int)) rfl (by simp [HK.out]) ?c1 ?c2 ?c3 ?c4 ?c5 ?_)
    case c1 =>
      intro j u hu
      rw [List.getElem?_map] at hu
      obtain ⟨x, hx, rfl⟩ := Option.map_eq_some_iff.1 hu
      have : 0 < k := by have := (List.getElem?_eq_some_iff.1 hx).1; have := HK.out; omega
      obtain ⟨b, o, e, _, hc⟩ := HC.out this
      simp only [Option.some.injEq] at e
      subst e
      rw [Addr.add_lit]
      exact hc j x hx
    case c2 => intro u hu; obtain ⟨x, _, rfl⟩ := List.mem_map.1 hu; rfl
    case c3 => unfold maxLen; omega
    case c4 => omega
    case c5 => exact Nat.le_refl _
    intro v' w1 hown hgrow _
    obtain ⟨ad1, cap1, rfl, hr1⟩ := own_rd hown HL.out
    clear hown
    go_wp2
    go_ret
    exact ⟨_, _, _, l', rfl, hr1, hcan, HV'.out, (Below.refl _ _).grown hgrow (Nat.le_refl _) (by simp [Value.ownBlock])⟩
  | none =>
    obtain rfl : k = 0 := by
      rcases Nat.eq_zero_or_pos k with h0 | h0
      · exact h0
      · obtain ⟨b, o, e, _⟩ := HC.out h0
        exact absurd e (by simp)
    go_wp2
    go_ret
    obtain rfl : l' = [] := List.eq_nil_of_length_eq_zero HK.out.symm
    exact ⟨_, _, _, [], rfl, Rd.nil w, Can.nil, HV'.out, Below.refl _ _⟩

end Go.Proofs.YtepacminjfeliaaGreatDoor

/-
  cmp.Compare of two numbers, nat.Cmp of two lists, and the document's Same: is it less, the same, greater; are two lists alike. Lists of at most a million limbs.
-/
namespace Go.Proofs.YtepacminjfeliaaGreatDoor
open Go.RowKit

/-- -1, 0 or 1. -/
def tell (m n : Nat) : Int := if m < n then -1 else if n < m then 1 else 0

set_option maxRecDepth 100000 in
set_option maxHeartbeats 400000 in
theorem compare_int (m n : Nat) (w : World) (_hm : m ≤ 1000000) (hn : n ≤ 1000000) :
    Calls Tryz.prog 89 #[.int .i64 (m : Int), .int .i64 (n : Int)] w fun e w' => e = .returned (.int .i64 (tell m n)) ∧ w = w' := by
  rcases Nat.lt_trichotomy m n with h | h | h
  · have e : tell m n = -1 := by unfold tell; rw [if_pos h]
    rw [e]
    go_enter Tryz.func89, Tryz.ntmps89
    go_wp2
    go_ret
    exact ⟨rfl, rfl⟩
  · have e : tell m n = 0 := by unfold tell; rw [if_neg (by omega), if_neg (by omega)]
    rw [e]
    subst h
    go_enter Tryz.func89, Tryz.ntmps89
    go_wp2
    go_ret
    exact ⟨rfl, rfl⟩
  · have e : tell m n = 1 := by unfold tell; rw [if_neg (by omega), if_pos h]
    rw [e]
    go_enter Tryz.func89, Tryz.ntmps89
    go_wp2
    go_ret
    exact ⟨rfl, rfl⟩

set_option maxRecDepth 100000 in
set_option maxHeartbeats 400000 in
theorem compare_u32 (m n : Nat) (w : World) (_hm : m < 4294967296) (hn : n < 4294967296) :
    Calls Tryz.prog 90 #[.int .u32 (m : Int), .int .u32 (n : Int)] w fun e w' => e = .returned (.int .i64 (tell m n)) ∧ w' = w := by
  rcases Nat.lt_trichotomy m n with h | h | h
  · have e : tell m n = -1 := by unfold tell; rw [if_pos h]
    rw [e]
    go_enter Tryz.func90, Tryz.ntmps90
    go_wp2
    go_ret
    exact ⟨rfl, rfl⟩
  · have e : tell m n = 0 := by unfold tell; rw [if_neg (by omega), if_neg (by omega)]
    rw [e]
    subst h
    go_enter Tryz.func90, Tryz.ntmps90
    go_wp2
    go_ret
    exact ⟨rfl, rfl⟩
  · have e : tell m n = 1 := by unfold tell; rw [if_neg (by omega), if_pos h]
    rw [e]
    go_enter Tryz.func90, Tryz.ntmps90
    go_wp2
    go_ret
    exact ⟨rfl, rfl⟩

theorem compare_u32' (m n : Nat) (t : Int) (h : tell m n = t) (w : World) (hm : m < 4294967296) (hn : n < 4294967296) :
    Calls Tryz.prog 90 #[.int .u32 (m : Int), .int .u32 (n : Int)] w fun e w' => e = .returned (.int .i64 t) ∧ w' = w := h ▸ compare_u32 m n w hm hn

theorem Rd.drewN {w : World} {v : Value} {l : List Nat} (h : Rd w v l) (n : Nat) : Rd (w.drewN n) v l := h

theorem drewN_below (w : World) (n : Nat) : Below w.heap.size w (w.drewN n) := ⟨rfl, rfl, rfl, Nat.le_refl _, fun _ _ => rfl⟩

theorem drewN_add (w : World) (m n : Nat) : (w.drewN m).drewN n = w.drewN (m + n) := by simp [World.drewN, Nat.add_assoc]

theorem Rd.open {w : World} {ad : Option Addr} {n cap : Nat} {l : List Nat} (h : Rd w (.slice ad n cap) l) :
    n = l.length ∧ n ≤ cap ∧ Lim l ∧ (0 < n → ∃ b o, ad = some ⟨b, o, none⟩ ∧ b < w.heap.size ∧ ∀ i, i < n → w.cell? ⟨b, o + i, none⟩ = some (.int .u32 (at0 l i : Int))) := by
  obtain ⟨ad', n', cap', e, hn, hcap, hlim, hc⟩ := h
  simp only [Value.slice.injEq] at e
  obtain ⟨rfl, rfl, rfl⟩ := e
  refine ⟨hn, hcap, hlim, fun h0 => ?_⟩
  obtain ⟨b, o, e, hb, hc⟩ := hc h0
  refine ⟨b, o, e, hb, fun i hi => hc i _ ?_⟩
  unfold at0; rw [List.getD_eq_getElem?_getD, List.getElem?_eq_getElem (by omega)]; rfl

theorem draw_below {B : Nat} {a w : World} (h : Below B a w) (n : Nat) : Below B a (w.drewN n) := h.trans ⟨rfl, rfl, rfl, Nat.le_refl _, fun _ _ => rfl⟩

/-- What Cmp answers of numbers worth A and B. -/
def Told (w : World) (A B : Nat) (e : Ending) (w' : World) : Prop := e = .returned (.int .i64 (tell A B)) ∧ Below w.heap.size w w'

theorem can_less {a b : List Nat} (ha : Can a) (hb : Can b) (h : a.length < b.length) : val a < val b := by
  have h1 := val_lt a ha.1
  have h2 := hb.le (by omega)
  have h3 := pw_le (show a.length ≤ b.length - 1 by omega)
  omega

theorem tell_lt {m n : Nat} (h : m < n) : tell m n = -1 := by unfold tell; rw [if_pos h]
theorem tell_eq {m n : Nat} (h : m = n) : tell m n = 0 := by unfold tell; rw [if_neg (by omega), if_neg (by omega)]
theorem tell_gt {m n : Nat} (h : n < m) : tell m n = 1 := by unfold tell; rw [if_neg (by omega), if_pos h]

/-- The two rows agree from place i on. -/
def Agree (a b : List Nat) (i n : Int) : Prop := ∀ j : Nat, i < j → (j : Int) < n → at0 a j = at0 b j

theorem agree_less {a b : List Nat} (ha : Lim a) {k n : Nat} (h : Agree a b k n) (hk : k < n) (hna : a.length = n) (hnb : b.length = n) (hl : at0 a k < at0 b k) : val a < val b := by
  rw [← sm_all a (k := n) (by omega), ← sm_all b (k := n) (by omega)]
  exact sm_less (fun j => at0_lt ha j) hk (fun j h1 h2 => h j (by omega) (by omega)) hl

theorem agree_same {a b : List Nat} {n : Nat} (h : Agree a b (-1) n) (hna : a.length = n) (hnb : b.length = n) : a = b := by
  apply List.ext_getElem (by omega)
  intro i h1 h2
  have := h i (by omega) (by omega)
  unfold at0 at this
  simpa [h1, h2] using this

theorem agree_sym {a b : List Nat} {i n : Int} (h : Agree a b i n) : Agree b a i n := fun j h1 h2 => (h j h1 h2).symm

theorem agree_down {a b : List Nat} {k : Nat} {n : Int} (h : Agree a b k n) (e : at0 a k = at0 b k) : Agree a b ((k : Int) - 1) n := by
  intro j h1 h2
  by_cases hj : j = k
  · subst hj; exact e
  · exact h j (by omega) h2

set_option maxRecDepth 100000 in
set_option maxHeartbeats 1000000 in
theorem cmp_any {w : World} {va vb : Value} {a b : List Nat} (ha : Rd w va a) (hb : Rd w vb b) (la : a.length ≤ 10000) (lb : b.length ≤ 10000) :
    Calls Tryz.prog 65 #[va, vb] w (Told w (val a) (val b)) := by
  go_enter Tryz.func65, Tryz.ntmps65
  go_wp2_with fail
  refine (short_any ha (by omega)).mono ?_
  rintro e w1 ⟨⟨ada, na, ca, a', rfl, hra, hcana, hva⟩, rfl⟩
  go_wp2_with fail
  refine (short_any hb (by omega)).mono ?_
  rintro e w1 ⟨⟨adb, nb, cb, b', rfl, hrb, hcanb, hvb⟩, rfl⟩
  have la' : a'.length ≤ a.length := hcana.len (by rw [hva]; exact val_lt a ha.lim)
  have lb' : b'.length ≤ b.length := hcanb.len (by rw [hvb]; exact val_lt b hb.lim)
  obtain ⟨hna, hca, -, hcella⟩ := hra.open
  obtain ⟨hnb, hcb, -, hcellb⟩ := hrb.open
  have la2 : na ≤ 10000 := by omega
  have lb2 : nb ≤ 10000 := by omega
  clear la' lb' la lb
  have HVA := Lib.hid hva; clear hva
  have HVB := Lib.hid hvb; clear hvb
  have HNA := Lib.hid hna; clear hna
  have HNB := Lib.hid hnb; clear hnb
  have HCA := Lib.hid hcella; clear hcella
  have HCB := Lib.hid hcellb; clear hcellb
  go_wp2_with fail
  refine (compare_int na nb w (by omega) (by omega)).mono ?_
  rintro e w1 ⟨rfl, rfl⟩
  rcases Nat.lt_trichotomy na nb with h | h | h
  · rw [tell_lt h]
    go_wp2
    go_ret
    have e1 := HNA.out
    have e2 := HNB.out
    exact ⟨by rw [← HVA.out, ← HVB.out, tell_lt (can_less hcana hcanb (by omega))]; rfl, Below.refl _ _⟩
  · rw [tell_eq h]
    subst h
    go_wp2
    go_loopw [6] (fun s wr => ∃ i : Int, s = .int .i64 i ∧ -1 ≤ i ∧ i < na ∧ Agree a' b' i na ∧ Below w.heap.size w wr) (fun s _ => (intOf s + 1).toNat)
    case atStart => exact ⟨(na : Int) - 1, rfl, by omega, by omega, fun j h1 h2 => absurd h2 (by omega), Below.refl _ _⟩
    case round =>
      obtain ⟨i, rfl, hi1, hi2, hag, hbel⟩ := hrel
      by_cases h0 : 0 ≤ i
      · obtain ⟨k, rfl⟩ := Int.eq_ofNat_of_zero_le h0
        have hk : k < na := by omega
        obtain ⟨b1, o1, rfl, hb1, hc1⟩ := HCA.out (by omega)
        obtain ⟨b2, o2, rfl, hb2, hc2⟩ := HCB.out (by omega)
        have hd1 : wr.cell? ⟨b1, o1 + k, none⟩ = some (.int .u32 (at0 a' k : Int)) := (hbel.cell (p := ⟨b1, o1 + k, none⟩) hb1).trans (hc1 k hk)
        have hd2 : wr.cell? ⟨b2, o2 + k, none⟩ = some (.int .u32 (at0 b' k : Int)) := (hbel.cell (p := ⟨b2, o2 + k, none⟩) hb2).trans (hc2 k hk)
        clear hc1 hc2
        have l1 := at0_lt hcana.1 k
        have l2 := at0_lt hcanb.1 k
        obtain ⟨x, hx⟩ : ∃ x : Nat, x = at0 a' k := ⟨_, rfl⟩
        obtain ⟨y, hy⟩ : ∃ y : Nat, y = at0 b' k := ⟨_, rfl⟩
        rw [← hx] at hd1 l1
        rw [← hy] at hd2 l2
        have HX := Lib.hid hx; clear hx
        have HY := Lib.hid hy; clear hy
        have HAG := Lib.hid hag; clear hag
        have HNA2 := Lib.hid hk; clear hk
        rcases Nat.lt_trichotomy x y with h | h | h
        · have e1 := Lib.hid (tell_lt h)
          go_wp2_with fail
          go_quiet ((go_at_call 90; exact Calls.quiet_of_same (compare_u32' x y (-1) e1.out _ l1 l2)))
          go_wp2
          go_ret
          refine ⟨?_, draw_below hbel _⟩
          rw [← HVA.out, ← HVB.out, tell_lt (agree_less hcana.1 HAG.out HNA2.out HNA.out.symm HNB.out.symm (by rw [← HX.out, ← HY.out]; exact h))]
          rfl
        · have e1 := Lib.hid (tell_eq h)
          have HD := Lib.hid (agree_down HAG.out (by rw [← HX.out, ← HY.out]; exact h))
          have b1 : -1 ≤ (k : Int) - 1 := by omega
          have b2 : (k : Int) - 1 < na := by omega
          have HE := Lib.hid h
          clear h
          go_wp2_with fail
          go_quiet ((go_at_call 90; exact Calls.quiet_of_same (compare_u32' x y 0 e1.out _ l1 l2)))
          go_wp2
          go_roundw
          case rel => exact ⟨(k : Int) - 1, rfl, b1, b2, HD.out, draw_below hbel _⟩
          case measure => simp [intOf]
        · have e1 := Lib.hid (tell_gt h)
          go_wp2_with fail
          go_quiet ((go_at_call 90; exact Calls.quiet_of_same (compare_u32' x y 1 e1.out _ l1 l2)))
          go_wp2
          go_ret
          refine ⟨?_, draw_below hbel _⟩
          rw [← HVA.out, ← HVB.out, tell_gt (agree_less hcanb.1 (agree_sym HAG.out) HNA2.out HNB.out.symm HNA.out.symm (by rw [← HX.out, ← HY.out]; exact h))]
          rfl
      · have e1 : i = -1 := by omega
        subst e1
        have HAG := Lib.hid hag; clear hag
        go_wp2
        go_ret
        refine ⟨?_, hbel⟩
        rw [← HVA.out, ← HVB.out, tell_eq (congrArg val (agree_same HAG.out HNA.out.symm HNB.out.symm))]
        rfl
  · rw [tell_gt h]
    go_wp2
    go_ret
    have e1 := HNA.out
    have e2 := HNB.out
    exact ⟨by rw [← HVA.out, ← HVB.out, tell_gt (can_less hcanb hcana (by omega))]; rfl, Below.refl _ _⟩

end Go.Proofs.YtepacminjfeliaaGreatDoor
