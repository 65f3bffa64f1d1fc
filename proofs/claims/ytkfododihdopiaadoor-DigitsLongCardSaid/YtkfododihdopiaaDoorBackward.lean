/-
  slices.Backward over numbers of 32 bits and over bytes, as a range over it meets it: each index from the last on, with what the slice holds there then. The slice has a million elements at most.
-/
import Derived.Test.YtkfododihdopiaaDoorTrim
import Derived.RangeFuncNested
import Derived.RangeFuncBound
import Derived.RangeFuncCalls
import Derived.RangeFuncLeaves
import Derived.RangeFuncBox
import Derived.Shelf.Abstract
import Derived.OwnWalkIn
import Derived.TacticsInMore
import Derived.LoopNIn
import Derived.LoopIn
namespace Go.Proofs.YtkfododihdopiaaDoor
open Go.RowKit Go.Shelf

attribute [local go_sem] Oper.semAt_some

/-- What comes out: an index below n, a number below M. -/
abbrev Down (n M : Nat) := { p : Nat × Nat // p.1 < n ∧ p.2 < M }

/-- These have come out: from the last index on, each with a number that P lets be there. -/
def Came (n M : Nat) (P : Nat → Nat → Prop) (ys : List (Down n M)) : Prop := ys.length ≤ n ∧ ∀ (k : Nat) (p : Down n M), ys[k]? = some p → p.1.1 + k + 1 = n ∧ P p.1.1 p.1.2

theorem Came.nil (n M : Nat) (P : Nat → Nat → Prop) : Came n M P [] := ⟨Nat.zero_le _, fun k p h => by simp at h⟩

theorem Came.more {n M : Nat} {P : Nat → Nat → Prop} {ys : List (Down n M)} (h : Came n M P ys) {i x : Nat} (hi : i + ys.length + 1 = n) (hx : x < M) (hP : P i x) : Came n M P (ys ++ [⟨(i, x), by omega, hx⟩]) := by
  refine ⟨by rw [List.length_append, List.length_singleton]; omega, fun k p hk => ?_⟩
  rcases Nat.lt_trichotomy k ys.length with h1 | h1 | h1
  · rw [List.getElem?_append_left h1] at hk
    exact h.2 k p hk
  · subst h1
    rw [List.getElem?_append_right (Nat.le_refl _), Nat.sub_self] at hk
    have e := (Option.some.inj hk).symm
    subst e
    exact ⟨hi, hP⟩
  · rw [List.getElem?_eq_none (by rw [List.length_append, List.length_singleton]; omega)] at hk
    cases hk

/-- In world W the box Bs holds a slice of n numbers, each below M and such as P lets be there. -/
def Lies (k : IntKind) (n M Bs : Nat) (ad : Option Addr) (cap : Nat) (P : Nat → Nat → Prop) (W : World) : Prop :=
  W.cell? ⟨Bs, 0, none⟩ = some (.slice ad n cap) ∧ ∀ j, j < n → ∃ b off x, ad = some ⟨b, off, none⟩ ∧ x < M ∧ P j x ∧ W.cell? ⟨b, off + j, none⟩ = some (.int k (x : Int))

set_option maxRecDepth 100000 in
set_option maxHeartbeats 2000000 in
theorem back32_in (M : Nat) (F : Fence) (n : Nat) (hf : F.fn 37) (hro : F.round = none) (hn : 1 ≤ n) (l Bs len cap : Nat) (ad : Option Addr) (P : Nat → Nat → Prop) (hlen : len ≤ 1000000) (G : World → Prop) (hG : ∀ W, G W → Lies .u32 len M Bs ad cap P W)
    (J Jx : List (Down len M) → World → Prop)
    (hY : ∀ pre x W, J pre W → pre.length < len → YieldAt F (n - 1) Tryd.prog l #[.int .i64 (x.1.1 : Int), .int .u32 (x.1.2 : Int)] W fun e W' =>
      (e = .returned (.bool true) ∧ J (pre ++ [x]) W' ∧ (G W → G W')) ∨ (e = .returned (.bool false) ∧ Jx (pre ++ [x]) W'))
    (W : World) (hGW : G W) (h0 : J [] W) :
    CallsIn F n Tryd.prog 37 #[.func (.yield l) #[] #[], .pointer (some ⟨Bs, 0, none⟩)] W fun e W' => (∃ v, e = .returned v) ∧
      ((∃ ys, (Came len M P ys ∧ ys.length = len) ∧ J ys W') ∨ (∃ pre, Came len M P pre ∧ Jx pre W')) := by
  have hb0 := (hG W hGW).1
  refine callsIn_of_wp Tryd.func37 rfl hf ?_ hro
  simp only [Tryd.ntmps37, List.size_toArray, List.length_cons, List.length_nil, Nat.reduceAdd, Nat.reduceSub, Array.replicate_succ, Array.replicate_zero, List.push_toArray, List.append_toArray, List.nil_append, List.cons_append]
  gi_wp2
  gi_loopw [3] (fun i wr => ∃ (m : Nat) (ys : List (Down len M)), m + ys.length = len ∧ i = .int .i64 ((m : Int) - 1) ∧ Came len M P ys ∧ J ys wr ∧ G wr) (fun i _ => (intOf i + 1).toNat)
  case atStart => exact ⟨len, [], by simp, rfl, Came.nil _ _ _, h0, hGW⟩
  case round =>
    obtain ⟨m0, ys, hm, rfl, hcame, hJs, hGr⟩ := hrel
    clear hb0
    by_cases h0 : m0 = 0
    · subst h0
      gi_wp2
      go_end0
      exact ⟨⟨_, rfl⟩, .inl ⟨ys, ⟨hcame, by omega⟩, hJs⟩⟩
    · obtain ⟨m, rfl⟩ : ∃ m, m0 = m + 1 := ⟨m0 - 1, by omega⟩
      clear h0
      have e0 : ((m + 1 : Nat) : Int) - 1 = (m : Int) := by omega
      rw [e0]
      obtain ⟨hbx, hcs⟩ := hG _ hGr
      obtain ⟨b, off, x, rfl, hx, hP, hcx⟩ := hcs m (by omega)
      obtain ⟨fn, tmps, assign, body, hy, hR⟩ := hY ys ⟨(m, x), by omega, hx⟩ wr hJs (by omega)
      dsimp only at hy
      have hmore := hcame.more (i := m) (by omega) hx hP
      have HM := Lib.hid hmore
      clear hmore hcs hcame
      gi_wp2
      refine hR.mono ?_
      rintro e W3 (⟨rfl, hJ3, hk3⟩ | ⟨rfl, hJx3⟩)
      · gi_wp2
        go_roundw
        case rel => exact ⟨m, _, by rw [List.length_append, List.length_singleton]; omega, rfl, HM.out, hJ3, hk3 hGr⟩
        case measure => simp [intOf]
      · gi_wp2
        refine bodyPost_ret (results_none rfl _ _ _) rfl ?_
        exact ⟨⟨_, rfl⟩, .inr ⟨_, HM.out, hJx3⟩⟩

set_option maxHeartbeats 1000000 in
theorem back32_made (F : Fence) (n : Nat) (hf : F.fn 25) (hro : F.round = none) (a : Option Addr) (len cap : Nat) (w : World) :
    CallsIn F n Tryd.prog 25 #[.slice a len cap] w fun e w' => e = .returned (.func (.func 37) #[] #[.pointer (some ⟨w.heap.size, 0, none⟩)]) ∧ w' = w.alloc (.cells #[.slice a len cap] 22) := by
  refine callsIn_of_wp Tryd.func25 rfl hf ?_ hro
  simp only [Tryd.ntmps25, List.size_toArray, List.length_cons, List.length_nil, Nat.reduceAdd, Nat.reduceSub, Array.replicate_succ, Array.replicate_zero, List.push_toArray, List.append_toArray, List.nil_append, List.cons_append]
  gi_wp2
  go_ret
  exact ⟨rfl, rfl⟩

theorem back32_stops (M : Nat) (F : Fence) (n : Nat) (hf : F.fn 37) (hro : F.round = none) (hn : 1 ≤ n) (Bs len cap : Nat) (ad : Option Addr) (P : Nat → Nat → Prop) (hlen : len ≤ 1000000) (G : World → Prop) (hG : ∀ W, G W → Lies .u32 len M Bs ad cap P W) (w : World)
    (hGw : ∀ W, Below w.heap.size w W → G W) :
    SeqStopsK F n Tryd.prog 37 #[.pointer (some ⟨Bs, 0, none⟩)] (fun x : Down len M => #[Value.int .i64 (x.1.1 : Int), Value.int .u32 (x.1.2 : Int)]) (fun A B => G A → G B) (fun ys => Came len M P ys ∧ ys.length = len) (Came len M P) len w :=
  fun l J Jx W hW _ _ hY h0 => back32_in M F n hf hro hn l Bs len cap ad P hlen G hG J Jx hY W (hGw W hW) h0

set_option maxRecDepth 100000 in
set_option maxHeartbeats 2000000 in
theorem back8_in (M : Nat) (F : Fence) (n : Nat) (hf : F.fn 50) (hro : F.round = none) (hn : 1 ≤ n) (l Bs len cap : Nat) (ad : Option Addr) (P : Nat → Nat → Prop) (hlen : len ≤ 1000000) (G : World → Prop) (hG : ∀ W, G W → Lies .u8 len M Bs ad cap P W)
    (J Jx : List (Down len M) → World → Prop)
    (hY : ∀ pre x W, J pre W → pre.length < len → YieldAt F (n - 1) Tryd.prog l #[.int .i64 (x.1.1 : Int), .int .u8 (x.1.2 : Int)] W fun e W' =>
      (e = .returned (.bool true) ∧ J (pre ++ [x]) W' ∧ (G W → G W')) ∨ (e = .returned (.bool false) ∧ Jx (pre ++ [x]) W'))
    (W : World) (hGW : G W) (h0 : J [] W) :
    CallsIn F n Tryd.prog 50 #[.func (.yield l) #[] #[], .pointer (some ⟨Bs, 0, none⟩)] W fun e W' => (∃ v, e = .returned v) ∧
      ((∃ ys, (Came len M P ys ∧ ys.length = len) ∧ J ys W') ∨ (∃ pre, Came len M P pre ∧ Jx pre W')) := by
  have hb0 := (hG W hGW).1
  refine callsIn_of_wp Tryd.func50 rfl hf ?_ hro
  simp only [Tryd.ntmps50, List.size_toArray, List.length_cons, List.length_nil, Nat.reduceAdd, Nat.reduceSub, Array.replicate_succ, Array.replicate_zero, List.push_toArray, List.append_toArray, List.nil_append, List.cons_append]
  gi_wp2
  gi_loopw [3] (fun i wr => ∃ (m : Nat) (ys : List (Down len M)), m + ys.length = len ∧ i = .int .i64 ((m : Int) - 1) ∧ Came len M P ys ∧ J ys wr ∧ G wr) (fun i _ => (intOf i + 1).toNat)
  case atStart => exact ⟨len, [], by simp, rfl, Came.nil _ _ _, h0, hGW⟩
  case round =>
    obtain ⟨m0, ys, hm, rfl, hcame, hJs, hGr⟩ := hrel
    clear hb0
    by_cases h0 : m0 = 0
    · subst h0
      gi_wp2
      go_end0
      exact ⟨⟨_, rfl⟩, .inl ⟨ys, ⟨hcame, by omega⟩, hJs⟩⟩
    · obtain ⟨m, rfl⟩ : ∃ m, m0 = m + 1 := ⟨m0 - 1, by omega⟩
      clear h0
      have e0 : ((m + 1 : Nat) : Int) - 1 = (m : Int) := by omega
      rw [e0]
      obtain ⟨hbx, hcs⟩ := hG _ hGr
      obtain ⟨b, off, x, rfl, hx, hP, hcx⟩ := hcs m (by omega)
      obtain ⟨fn, tmps, assign, body, hy, hR⟩ := hY ys ⟨(m, x), by omega, hx⟩ wr hJs (by omega)
      dsimp only at hy
      have hmore := hcame.more (i := m) (by omega) hx hP
      have HM := Lib.hid hmore
      clear hmore hcs hcame
      gi_wp2
      refine hR.mono ?_
      rintro e W3 (⟨rfl, hJ3, hk3⟩ | ⟨rfl, hJx3⟩)
      · gi_wp2
        go_roundw
        case rel => exact ⟨m, _, by rw [List.length_append, List.length_singleton]; omega, rfl, HM.out, hJ3, hk3 hGr⟩
        case measure => simp [intOf]
      · gi_wp2
        refine bodyPost_ret (results_none rfl _ _ _) rfl ?_
        exact ⟨⟨_, rfl⟩, .inr ⟨_, HM.out, hJx3⟩⟩

set_option maxHeartbeats 1000000 in
theorem back8_made (F : Fence) (n : Nat) (hf : F.fn 40) (hro : F.round = none) (a : Option Addr) (len cap : Nat) (w : World) :
    CallsIn F n Tryd.prog 40 #[.slice a len cap] w fun e w' => e = .returned (.func (.func 50) #[] #[.pointer (some ⟨w.heap.size, 0, none⟩)]) ∧ w' = w.alloc (.cells #[.slice a len cap] 33) := by
  refine callsIn_of_wp Tryd.func40 rfl hf ?_ hro
  simp only [Tryd.ntmps40, List.size_toArray, List.length_cons, List.length_nil, Nat.reduceAdd, Nat.reduceSub, Array.replicate_succ, Array.replicate_zero, List.push_toArray, List.append_toArray, List.nil_append, List.cons_append]
  gi_wp2
  go_ret
  exact ⟨rfl, rfl⟩

theorem back8_stops (M : Nat) (F : Fence) (n : Nat) (hf : F.fn 50) (hro : F.round = none) (hn : 1 ≤ n) (Bs len cap : Nat) (ad : Option Addr) (P : Nat → Nat → Prop) (hlen : len ≤ 1000000) (G : World → Prop) (hG : ∀ W, G W → Lies .u8 len M Bs ad cap P W) (w : World)
    (hGw : ∀ W, Below w.heap.size w W → G W) :
    SeqStopsK F n Tryd.prog 50 #[.pointer (some ⟨Bs, 0, none⟩)] (fun x : Down len M => #[Value.int .i64 (x.1.1 : Int), Value.int .u8 (x.1.2 : Int)]) (fun A B => G A → G B) (fun ys => Came len M P ys ∧ ys.length = len) (Came len M P) len w :=
  fun l J Jx W hW _ _ hY h0 => back8_in M F n hf hro hn l Bs len cap ad P hlen G hG J Jx hY W (hGw W hW) h0

end Go.Proofs.YtkfododihdopiaaDoor
