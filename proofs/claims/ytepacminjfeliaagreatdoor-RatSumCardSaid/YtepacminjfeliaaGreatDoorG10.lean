/-
  A part of the proof: QRead.
-/
import Derived.Test.YtepacminjfeliaaGreatDoorG9
/-
  rat's read: the number of a text; is it right? The text has 1000000 bytes at most.
-/
namespace Go.Proofs.YtepacminjfeliaaGreatDoor
open Go.RowKit

/-- What stays as it was while a text is read: the number's box, and its parts'. -/
def HoldP (w0 : World) (k gp : Nat) (n : Bool) (vp vq a b d : Value) (c : Bool) (rs : List (Value × List Nat)) (W : World) : Prop :=
  Hold w0 k k n n vp vq vp vq rs W ∧ Bx4 W gp a b (.bool c) d

section
variable {w0 : World} {k gp : Nat} {n c : Bool} {vp vq a b d : Value} {rs : List (Value × List Nat)} {W : World} (h : HoldP w0 k gp n vp vq a b d c rs W)
include h
theorem HoldP.rd {v : Value} {l : List Nat} (hm : (v, l) ∈ rs) : Rd W v l := h.1.rd hm
theorem HoldP.below {W' : World} (hb : Below W.heap.size W W') : HoldP w0 k gp n vp vq a b d c rs W' := ⟨h.1.below hb, h.2.below hb⟩
theorem HoldP.held : (W.cell? ⟨k, 0, none⟩ = some (.bool n) ∧ W.cell? ⟨k, 1, none⟩ = some vp ∧ W.cell? ⟨k, 2, none⟩ = some vq ∧ W.cell? ⟨gp, 2, none⟩ = some (.bool c)) ∧ HoldP w0 k gp n vp vq a b d c rs W :=
  ⟨⟨h.1.1.1.cells.1, h.1.1.1.cells.2.1, h.1.1.1.cells.2.2, h.2.cells.2.2.1⟩, h⟩
end

theorem Bx4.other {W : World} {g z : Nat} {a b c d : Value} (h : Bx4 W g a b c d) (hne : g ≠ z) (x y u : Value) : Bx4 (set3 W z x y u) g a b c d := by
  unfold Bx4 at h ⊢
  simp [World.setCell, Array.getElem?_modify, h, Ne.symm hne]

theorem HoldP.put {w0 : World} {k gp z : Nat} {n c nz : Bool} {vp vq a b d : Value} {a1 a2 : Option Addr} {m1 m2 i1 i2 : Nat} {rs : List (Value × List Nat)} {W : World}
    (h : HoldP w0 k gp n vp vq a b d c rs W) (bz : Bx3 W z nz (.slice a1 m1 i1) (.slice a2 m2 i2)) (h1 : k ≠ z) (h2 : gp ≠ z) (h3 : w0.heap.size ≤ z) (x y u : Value) : HoldP w0 k gp n vp vq a b d c rs (set3 W z x y u) :=
  ⟨h.1.put bz h1 h1 h3 x y u, h.2.other h2 x y u⟩

/-- A number and whether it is right, answered. -/
def ReadQ (w : World) (ok n : Bool) (A B : Nat) (e : Ending) (w' : World) : Prop :=
  ∃ adp np cp adq nq cq P Q, e = .returned (.tuple #[numV n (.slice adp np cp) (.slice adq nq cq), .bool ok]) ∧ Rd w' (.slice adp np cp) P ∧ Rd w' (.slice adq nq cq) Q ∧ Can P ∧ Can Q ∧ val P = A ∧ val Q = B ∧ Below w.heap.size w w'

/-- What is no number's text. -/
def ReadNo (w : World) (e : Ending) (w' : World) : Prop :=
  ∃ n adp np cp adq nq cq, e = .returned (.tuple #[numV n (.slice adp np cp) (.slice adq nq cq), .bool false]) ∧ Below w.heap.size w w'

theorem ReadQ.no {w w' : World} {n : Bool} {A B : Nat} {e : Ending} (h : ReadQ w false n A B e w') : ReadNo w e w' := by
  obtain ⟨adp, np, cp, adq, nq, cq, P, Q, he, -, -, -, -, -, -, hb⟩ := h
  exact ⟨n, adp, np, cp, adq, nq, cq, he, hb⟩

set_option maxRecDepth 100000 in
set_option maxHeartbeats 8000000 in
theorem read_long (s : ByteArray) (w : World) (hs : 1900 < s.size) :
    Calls Tryz.prog 38 #[.string s] w (ReadNo w) := by
  have z : decide ((1900 : Int) < (s.size : Int)) = true := decide_eq_true (by omega)
  have HB := alb w (.cells #[.bool false, .slice none 0 0, .slice none 0 0] 40)
  go_enter Tryz.func38, Tryz.ntmps38
  go_wp2
  try simp only [Exit.inBlock, Exit.then]
  refine bodyPost_ret (v := .tuple #[numV false (.slice none 0 0) (.slice none 0 0), .bool false]) (by simp [results, Tryz.results38, go_sem]) rfl ?_
  exact ⟨false, none, 0, 0, none, 0, 0, rfl, HB⟩

set_option maxRecDepth 100000 in
set_option maxHeartbeats 8000000 in
theorem read_form_ff (s U D : ByteArray) (w : World) (hs : s.size ≤ 1900)
    (hsp : ∀ w : World, Calls Tryz.prog 25 #[.string s] w fun e w' => e = .returned (.tuple #[.agg #[.bool false, .string U, .bool false, .string D], .bool false]) ∧ Below w.heap.size w w') :
    Calls Tryz.prog 38 #[.string s] w (ReadNo w) := by
  have z : decide ((1900 : Int) < (s.size : Int)) = false := decide_eq_false (by omega)
  have HB := alb w (.cells #[.bool false, .slice none 0 0, .slice none 0 0] 40)
  have bz : Bx3 (w.alloc (.cells #[.bool false, .slice none 0 0, .slice none 0 0] 40)) w.heap.size false (.slice none 0 0) (.slice none 0 0) := heap_alloc_new w _
  go_enter Tryz.func38, Tryz.ntmps38
  go_wp2_with fail
  refine (hsp _).mono ?_
  rintro e w1 ⟨rfl, hb⟩
  replace bz := bz.below hb
  replace HB := onto HB hb
  clear hb
  have hal := alb w1 (.cells #[.bool false, .string U, .bool false, .string D] 35)
  replace bz := bz.below hal
  replace HB := onto HB hal
  clear hal
  obtain ⟨q0, q1, q2⟩ := bz.cells
  have f0 := bz.free 0
  have f1 := bz.free 1
  have f2 := bz.free 2
  have bz2 := bz.put false (.slice none 0 0) (.slice none 0 0)
  obtain ⟨d0, d1, d2⟩ := bz2.cells
  have hB := set3_below HB (Nat.le_refl w.heap.size) (.bool false) (.slice none 0 0) (.slice none 0 0)
  go_wp2
  try simp only [Exit.inBlock, Exit.then]
  refine bodyPost_ret (v := .tuple #[numV false (.slice none 0 0) (.slice none 0 0), .bool false]) (by simp [results, Tryz.results38, go_sem, d0, d1, d2]) rfl ?_
  exact ⟨false, none, 0, 0, none, 0, 0, rfl, hB⟩

set_option maxRecDepth 100000 in
set_option maxHeartbeats 8000000 in
theorem read_form_ft (s U D : ByteArray) (w : World) (hs : s.size ≤ 1900)
    (hsp : ∀ w : World, Calls Tryz.prog 25 #[.string s] w fun e w' => e = .returned (.tuple #[.agg #[.bool false, .string U, .bool true, .string D], .bool false]) ∧ Below w.heap.size w w') :
    Calls Tryz.prog 38 #[.string s] w (ReadNo w) := by
  have z : decide ((1900 : Int) < (s.size : Int)) = false := decide_eq_false (by omega)
  have HB := alb w (.cells #[.bool false, .slice none 0 0, .slice none 0 0] 40)
  have bz : Bx3 (w.alloc (.cells #[.bool false, .slice none 0 0, .slice none 0 0] 40)) w.heap.size false (.slice none 0 0) (.slice none 0 0) := heap_alloc_new w _
  go_enter Tryz.func38, Tryz.ntmps38
  go_wp2_with fail
  refine (hsp _).mono ?_
  rintro e w1 ⟨rfl, hb⟩
  replace bz := bz.below hb
  replace HB := onto HB hb
  clear hb
  have hal := alb w1 (.cells #[.bool false, .string U, .bool true, .string D] 35)
  replace bz := bz.below hal
  replace HB := onto HB hal
  clear hal
  obtain ⟨q0, q1, q2⟩ := bz.cells
  have f0 := bz.free 0
  have f1 := bz.free 1
  have f2 := bz.free 2
  have bz2 := bz.put false (.slice none 0 0) (.slice none 0 0)
  obtain ⟨d0, d1, d2⟩ := bz2.cells
  have hB := set3_below HB (Nat.le_refl w.heap.size) (.bool false) (.slice none 0 0) (.slice none 0 0)
  go_wp2
  try simp only [Exit.inBlock, Exit.then]
  refine bodyPost_ret (v := .tuple #[numV false (.slice none 0 0) (.slice none 0 0), .bool false]) (by simp [results, Tryz.results38, go_sem, d0, d1, d2]) rfl ?_
  exact ⟨false, none, 0, 0, none, 0, 0, rfl, hB⟩

set_option maxRecDepth 100000 in
set_option maxHeartbeats 8000000 in
theorem read_form_tf (s U D : ByteArray) (w : World) (hs : s.size ≤ 1900)
    (hsp : ∀ w : World, Calls Tryz.prog 25 #[.string s] w fun e w' => e = .returned (.tuple #[.agg #[.bool true, .string U, .bool false, .string D], .bool false]) ∧ Below w.heap.size w w') :
    Calls Tryz.prog 38 #[.string s] w (ReadNo w) := by
  have z : decide ((1900 : Int) < (s.size : Int)) = false := decide_eq_false (by omega)
  have HB := alb w (.cells #[.bool false, .slice none 0 0, .slice none 0 0] 40)
  have bz : Bx3 (w.alloc (.cells #[.bool false, .slice none 0 0, .slice none 0 0] 40)) w.heap.size false (.slice none 0 0) (.slice none 0 0) := heap_alloc_new w _
  go_enter Tryz.func38, Tryz.ntmps38
  go_wp2_with fail
  refine (hsp _).mono ?_
  rintro e w1 ⟨rfl, hb⟩
  replace bz := bz.below hb
  replace HB := onto HB hb
  clear hb
  have hal := alb w1 (.cells #[.bool true, .string U, .bool false, .string D] 35)
  replace bz := bz.below hal
  replace HB := onto HB hal
  clear hal
  obtain ⟨q0, q1, q2⟩ := bz.cells
  have f0 := bz.free 0
  have f1 := bz.free 1
  have f2 := bz.free 2
  have bz2 := bz.put false (.slice none 0 0) (.slice none 0 0)
  obtain ⟨d0, d1, d2⟩ := bz2.cells
  have hB := set3_below HB (Nat.le_refl w.heap.size) (.bool false) (.slice none 0 0) (.slice none 0 0)
  go_wp2
  try simp only [Exit.inBlock, Exit.then]
  refine bodyPost_ret (v := .tuple #[numV false (.slice none 0 0) (.slice none 0 0), .bool false]) (by simp [results, Tryz.results38, go_sem, d0, d1, d2]) rfl ?_
  exact ⟨false, none, 0, 0, none, 0, 0, rfl, hB⟩

set_option maxRecDepth 100000 in
set_option maxHeartbeats 8000000 in
theorem read_form_tt (s U D : ByteArray) (w : World) (hs : s.size ≤ 1900)
    (hsp : ∀ w : World, Calls Tryz.prog 25 #[.string s] w fun e w' => e = .returned (.tuple #[.agg #[.bool true, .string U, .bool true, .string D], .bool false]) ∧ Below w.heap.size w w') :
    Calls Tryz.prog 38 #[.string s] w (ReadNo w) := by
  have z : decide ((1900 : Int) < (s.size : Int)) = false := decide_eq_false (by omega)
  have HB := alb w (.cells #[.bool false, .slice none 0 0, .slice none 0 0] 40)
  have bz : Bx3 (w.alloc (.cells #[.bool false, .slice none 0 0, .slice none 0 0] 40)) w.heap.size false (.slice none 0 0) (.slice none 0 0) := heap_alloc_new w _
  go_enter Tryz.func38, Tryz.ntmps38
  go_wp2_with fail
  refine (hsp _).mono ?_
  rintro e w1 ⟨rfl, hb⟩
  replace bz := bz.below hb
  replace HB := onto HB hb
  clear hb
  have hal := alb w1 (.cells #[.bool true, .string U, .bool true, .string D] 35)
  replace bz := bz.below hal
  replace HB := onto HB hal
  clear hal
  obtain ⟨q0, q1, q2⟩ := bz.cells
  have f0 := bz.free 0
  have f1 := bz.free 1
  have f2 := bz.free 2
  have bz2 := bz.put false (.slice none 0 0) (.slice none 0 0)
  obtain ⟨d0, d1, d2⟩ := bz2.cells
  have hB := set3_below HB (Nat.le_refl w.heap.size) (.bool false) (.slice none 0 0) (.slice none 0 0)
  go_wp2
  try simp only [Exit.inBlock, Exit.then]
  refine bodyPost_ret (v := .tuple #[numV false (.slice none 0 0) (.slice none 0 0), .bool false]) (by simp [results, Tryz.results38, go_sem, d0, d1, d2]) rfl ?_
  exact ⟨false, none, 0, 0, none, 0, 0, rfl, hB⟩

set_option maxRecDepth 100000 in
set_option maxHeartbeats 8000000 in
theorem read_minus_f (s U D : ByteArray) (w : World) (hs : s.size ≤ 1900)
    (hsp : ∀ w : World, Calls Tryz.prog 25 #[.string s] w fun e w' => e = .returned (.tuple #[.agg #[.bool true, .string U, .bool false, .string D], .bool true]) ∧ Below w.heap.size w w') (hu : (U.toList == [48]) = true) :
    Calls Tryz.prog 38 #[.string s] w (ReadNo w) := by
  have z : decide ((1900 : Int) < (s.size : Int)) = false := decide_eq_false (by omega)
  have HB := alb w (.cells #[.bool false, .slice none 0 0, .slice none 0 0] 40)
  have bz : Bx3 (w.alloc (.cells #[.bool false, .slice none 0 0, .slice none 0 0] 40)) w.heap.size false (.slice none 0 0) (.slice none 0 0) := heap_alloc_new w _
  go_enter Tryz.func38, Tryz.ntmps38
  go_wp2_with fail
  refine (hsp _).mono ?_
  rintro e w1 ⟨rfl, hb⟩
  replace bz := bz.below hb
  replace HB := onto HB hb
  clear hb
  have hal := alb w1 (.cells #[.bool true, .string U, .bool false, .string D] 35)
  replace bz := bz.below hal
  replace HB := onto HB hal
  clear hal
  obtain ⟨q0, q1, q2⟩ := bz.cells
  have f0 := bz.free 0
  have f1 := bz.free 1
  have f2 := bz.free 2
  have bz2 := bz.put false (.slice none 0 0) (.slice none 0 0)
  obtain ⟨d0, d1, d2⟩ := bz2.cells
  have hB := set3_below HB (Nat.le_refl w.heap.size) (.bool false) (.slice none 0 0) (.slice none 0 0)
  go_wp2
  try simp only [Exit.inBlock, Exit.then]
  refine bodyPost_ret (v := .tuple #[numV false (.slice none 0 0) (.slice none 0 0), .bool false]) (by simp [results, Tryz.results38, go_sem, d0, d1, d2]) rfl ?_
  exact ⟨false, none, 0, 0, none, 0, 0, rfl, hB⟩

set_option maxRecDepth 100000 in
set_option maxHeartbeats 8000000 in
theorem read_minus_t (s U D : ByteArray) (w : World) (hs : s.size ≤ 1900)
    (hsp : ∀ w : World, Calls Tryz.prog 25 #[.string s] w fun e w' => e = .returned (.tuple #[.agg #[.bool true, .string U, .bool true, .string D], .bool true]) ∧ Below w.heap.size w w') (hu : (U.toList == [48]) = true) :
    Calls Tryz.prog 38 #[.string s] w (ReadNo w) := by
  have z : decide ((1900 : Int) < (s.size : Int)) = false := decide_eq_false (by omega)
  have HB := alb w (.cells #[.bool false, .slice none 0 0, .slice none 0 0] 40)
  have bz : Bx3 (w.alloc (.cells #[.bool false, .slice none 0 0, .slice none 0 0] 40)) w.heap.size false (.slice none 0 0) (.slice none 0 0) := heap_alloc_new w _
  go_enter Tryz.func38, Tryz.ntmps38
  go_wp2_with fail
  refine (hsp _).mono ?_
  rintro e w1 ⟨rfl, hb⟩
  replace bz := bz.below hb
  replace HB := onto HB hb
  clear hb
  have hal := alb w1 (.cells #[.bool true, .string U, .bool true, .string D] 35)
  replace bz := bz.below hal
  replace HB := onto HB hal
  clear hal
  obtain ⟨q0, q1, q2⟩ := bz.cells
  have f0 := bz.free 0
  have f1 := bz.free 1
  have f2 := bz.free 2
  have bz2 := bz.put false (.slice none 0 0) (.slice none 0 0)
  obtain ⟨d0, d1, d2⟩ := bz2.cells
  have hB := set3_below HB (Nat.le_refl w.heap.size) (.bool false) (.slice none 0 0) (.slice none 0 0)
  go_wp2
  try simp only [Exit.inBlock, Exit.then]
  refine bodyPost_ret (v := .tuple #[numV false (.slice none 0 0) (.slice none 0 0), .bool false]) (by simp [results, Tryz.results38, go_sem, d0, d1, d2]) rfl ?_
  exact ⟨false, none, 0, 0, none, 0, 0, rfl, hB⟩

set_option maxRecDepth 100000 in
set_option maxHeartbeats 8000000 in
theorem read_zero_f (s U D : ByteArray) (w : World) (hs : s.size ≤ 1900)
    (hsp : ∀ w : World, Calls Tryz.prog 25 #[.string s] w fun e w' => e = .returned (.tuple #[.agg #[.bool false, .string U, .bool true, .string D], .bool true]) ∧ Below w.heap.size w w') (hd : (D.toList == [48]) = true) :
    Calls Tryz.prog 38 #[.string s] w (ReadNo w) := by
  have z : decide ((1900 : Int) < (s.size : Int)) = false := decide_eq_false (by omega)
  have HB := alb w (.cells #[.bool false, .slice none 0 0, .slice none 0 0] 40)
  have bz : Bx3 (w.alloc (.cells #[.bool false, .slice none 0 0, .slice none 0 0] 40)) w.heap.size false (.slice none 0 0) (.slice none 0 0) := heap_alloc_new w _
  go_enter Tryz.func38, Tryz.ntmps38
  go_wp2_with fail
  refine (hsp _).mono ?_
  rintro e w1 ⟨rfl, hb⟩
  replace bz := bz.below hb
  replace HB := onto HB hb
  clear hb
  have hal := alb w1 (.cells #[.bool false, .string U, .bool true, .string D] 35)
  replace bz := bz.below hal
  replace HB := onto HB hal
  clear hal
  obtain ⟨q0, q1, q2⟩ := bz.cells
  have f0 := bz.free 0
  have f1 := bz.free 1
  have f2 := bz.free 2
  have bz2 := bz.put false (.slice none 0 0) (.slice none 0 0)
  obtain ⟨d0, d1, d2⟩ := bz2.cells
  have hB := set3_below HB (Nat.le_refl w.heap.size) (.bool false) (.slice none 0 0) (.slice none 0 0)
  go_wp2
  try simp only [Exit.inBlock, Exit.then]
  refine bodyPost_ret (v := .tuple #[numV false (.slice none 0 0) (.slice none 0 0), .bool false]) (by simp [results, Tryz.results38, go_sem, d0, d1, d2]) rfl ?_
  exact ⟨false, none, 0, 0, none, 0, 0, rfl, hB⟩

set_option maxRecDepth 100000 in
set_option maxHeartbeats 8000000 in
theorem read_one_f (s U D : ByteArray) (w : World) (hs : s.size ≤ 1900)
    (hsp : ∀ w : World, Calls Tryz.prog 25 #[.string s] w fun e w' => e = .returned (.tuple #[.agg #[.bool false, .string U, .bool true, .string D], .bool true]) ∧ Below w.heap.size w w') (hd : (D.toList == [48]) = false) (hd1 : (D.toList == [49]) = true) :
    Calls Tryz.prog 38 #[.string s] w (ReadNo w) := by
  have z : decide ((1900 : Int) < (s.size : Int)) = false := decide_eq_false (by omega)
  have HB := alb w (.cells #[.bool false, .slice none 0 0, .slice none 0 0] 40)
  have bz : Bx3 (w.alloc (.cells #[.bool false, .slice none 0 0, .slice none 0 0] 40)) w.heap.size false (.slice none 0 0) (.slice none 0 0) := heap_alloc_new w _
  go_enter Tryz.func38, Tryz.ntmps38
  go_wp2_with fail
  refine (hsp _).mono ?_
  rintro e w1 ⟨rfl, hb⟩
  replace bz := bz.below hb
  replace HB := onto HB hb
  clear hb
  have hal := alb w1 (.cells #[.bool false, .string U, .bool true, .string D] 35)
  replace bz := bz.below hal
  replace HB := onto HB hal
  clear hal
  obtain ⟨q0, q1, q2⟩ := bz.cells
  have f0 := bz.free 0
  have f1 := bz.free 1
  have f2 := bz.free 2
  have bz2 := bz.put false (.slice none 0 0) (.slice none 0 0)
  obtain ⟨d0, d1, d2⟩ := bz2.cells
  have hB := set3_below HB (Nat.le_refl w.heap.size) (.bool false) (.slice none 0 0) (.slice none 0 0)
  go_wp2
  try simp only [Exit.inBlock, Exit.then]
  refine bodyPost_ret (v := .tuple #[numV false (.slice none 0 0) (.slice none 0 0), .bool false]) (by simp [results, Tryz.results38, go_sem, d0, d1, d2]) rfl ?_
  exact ⟨false, none, 0, 0, none, 0, 0, rfl, hB⟩

set_option maxRecDepth 100000 in
set_option maxHeartbeats 8000000 in
theorem read_zero_t (s U D : ByteArray) (w : World) (hs : s.size ≤ 1900)
    (hsp : ∀ w : World, Calls Tryz.prog 25 #[.string s] w fun e w' => e = .returned (.tuple #[.agg #[.bool true, .string U, .bool true, .string D], .bool true]) ∧ Below w.heap.size w w') (hu : (U.toList == [48]) = false) (hd : (D.toList == [48]) = true) :
    Calls Tryz.prog 38 #[.string s] w (ReadNo w) := by
  have z : decide ((1900 : Int) < (s.size : Int)) = false := decide_eq_false (by omega)
  have HB := alb w (.cells #[.bool false, .slice none 0 0, .slice none 0 0] 40)
  have bz : Bx3 (w.alloc (.cells #[.bool false, .slice none 0 0, .slice none 0 0] 40)) w.heap.size false (.slice none 0 0) (.slice none 0 0) := heap_alloc_new w _
  go_enter Tryz.func38, Tryz.ntmps38
  go_wp2_with fail
  refine (hsp _).mono ?_
  rintro e w1 ⟨rfl, hb⟩
  replace bz := bz.below hb
  replace HB := onto HB hb
  clear hb
  have hal := alb w1 (.cells #[.bool true, .string U, .bool true, .string D] 35)
  replace bz := bz.below hal
  replace HB := onto HB hal
  clear hal
  obtain ⟨q0, q1, q2⟩ := bz.cells
  have f0 := bz.free 0
  have f1 := bz.free 1
  have f2 := bz.free 2
  have bz2 := bz.put false (.slice none 0 0) (.slice none 0 0)
  obtain ⟨d0, d1, d2⟩ := bz2.cells
  have hB := set3_below HB (Nat.le_refl w.heap.size) (.bool false) (.slice none 0 0) (.slice none 0 0)
  go_wp2
  try simp only [Exit.inBlock, Exit.then]
  refine bodyPost_ret (v := .tuple #[numV false (.slice none 0 0) (.slice none 0 0), .bool false]) (by simp [results, Tryz.results38, go_sem, d0, d1, d2]) rfl ?_
  exact ⟨false, none, 0, 0, none, 0, 0, rfl, hB⟩

set_option maxRecDepth 100000 in
set_option maxHeartbeats 8000000 in
theorem read_one_t (s U D : ByteArray) (w : World) (hs : s.size ≤ 1900)
    (hsp : ∀ w : World, Calls Tryz.prog 25 #[.string s] w fun e w' => e = .returned (.tuple #[.agg #[.bool true, .string U, .bool true, .string D], .bool true]) ∧ Below w.heap.size w w') (hu : (U.toList == [48]) = false) (hd : (D.toList == [48]) = false) (hd1 : (D.toList == [49]) = true) :
    Calls Tryz.prog 38 #[.string s] w (ReadNo w) := by
  have z : decide ((1900 : Int) < (s.size : Int)) = false := decide_eq_false (by omega)
  have HB := alb w (.cells #[.bool false, .slice none 0 0, .slice none 0 0] 40)
  have bz : Bx3 (w.alloc (.cells #[.bool false, .slice none 0 0, .slice none 0 0] 40)) w.heap.size false (.slice none 0 0) (.slice none 0 0) := heap_alloc_new w _
  go_enter Tryz.func38, Tryz.ntmps38
  go_wp2_with fail
  refine (hsp _).mono ?_
  rintro e w1 ⟨rfl, hb⟩
  replace bz := bz.below hb
  replace HB := onto HB hb
  clear hb
  have hal := alb w1 (.cells #[.bool true, .string U, .bool true, .string D] 35)
  replace bz := bz.below hal
  replace HB := onto HB hal
  clear hal
  obtain ⟨q0, q1, q2⟩ := bz.cells
  have f0 := bz.free 0
  have f1 := bz.free 1
  have f2 := bz.free 2
  have bz2 := bz.put false (.slice none 0 0) (.slice none 0 0)
  obtain ⟨d0, d1, d2⟩ := bz2.cells
  have hB := set3_below HB (Nat.le_refl w.heap.size) (.bool false) (.slice none 0 0) (.slice none 0 0)
  go_wp2
  try simp only [Exit.inBlock, Exit.then]
  refine bodyPost_ret (v := .tuple #[numV false (.slice none 0 0) (.slice none 0 0), .bool false]) (by simp [results, Tryz.results38, go_sem, d0, d1, d2]) rfl ?_
  exact ⟨false, none, 0, 0, none, 0, 0, rfl, hB⟩

set_option maxRecDepth 100000 in
set_option maxHeartbeats 8000000 in
theorem read_whole_f_t (s U D : ByteArray) {A B : Nat} (w : World) (hs : s.size ≤ 1900)
    (hsp : ∀ w : World, Calls Tryz.prog 25 #[.string s] w fun e w' => e = .returned (.tuple #[.agg #[.bool false, .string U, .bool false, .string D], .bool true]) ∧ Below w.heap.size w w')
    (hnu : ∀ w : World, Calls Tryz.prog 26 #[.agg #[.bool false, .string U, .bool false, .string D]] w (Numb w false A B)) :
    Calls Tryz.prog 38 #[.string s] w (ReadQ w true false A B) := by
  have z : decide ((1900 : Int) < (s.size : Int)) = false := decide_eq_false (by omega)
  have HB := alb w (.cells #[.bool false, .slice none 0 0, .slice none 0 0] 40)
  have bz : Bx3 (w.alloc (.cells #[.bool false, .slice none 0 0, .slice none 0 0] 40)) w.heap.size false (.slice none 0 0) (.slice none 0 0) := heap_alloc_new w _
  go_enter Tryz.func38, Tryz.ntmps38
  go_wp2_with fail
  refine (hsp _).mono ?_
  rintro e w1 ⟨rfl, hb⟩
  replace bz := bz.below hb
  replace HB := onto HB hb
  clear hb
  have bp : Bx4 (w1.alloc (.cells #[.bool false, .string U, .bool false, .string D] 35)) w1.heap.size (.bool false) (.string U) (.bool false) (.string D) := heap_alloc_new w1 _
  have hal := alb w1 (.cells #[.bool false, .string U, .bool false, .string D] 35)
  have hgz := lt_heap bz
  replace bz := bz.below hal
  replace HB := onto HB hal
  clear hal
  go_wp2_with fail
  refine (hnu _).mono ?_
  rintro e w2 ⟨adp, np, cp, adq, nq, cq, P, Q, rfl, rp, rq, kp, kq, vp, vq, hb⟩
  have hpz := lt_heap bp
  have hpz2 := hb.size
  replace bz := bz.below hb
  replace bp := bp.below hb
  replace HB := onto HB hb
  clear hb
  have bn : Bx3 (w2.alloc (.cells #[.bool false, .slice adp np cp, .slice adq nq cq] 40)) w2.heap.size false (.slice adp np cp) (.slice adq nq cq) := heap_alloc_new w2 _
  have hal := alb w2 (.cells #[.bool false, .slice adp np cp, .slice adq nq cq] 40)
  replace bz := bz.below hal
  replace bp := bp.below hal
  replace rp := rp.below hal
  replace rq := rq.below hal
  replace HB := onto HB hal
  clear hal
  obtain ⟨q0, q1, q2⟩ := bz.cells
  have f0 := bz.free 0
  have f1 := bz.free 1
  have f2 := bz.free 2
  have bz2 := bz.put false (.slice adp np cp) (.slice adq nq cq)
  obtain ⟨d0, d1, d2⟩ := bz2.cells
  have hB := set3_below HB (Nat.le_refl w.heap.size) (.bool false) (.slice adp np cp) (.slice adq nq cq)
  have rp2 := rp.put3 bz.boxed (.bool false) (.slice adp np cp) (.slice adq nq cq)
  have rq2 := rq.put3 bz.boxed (.bool false) (.slice adp np cp) (.slice adq nq cq)
  obtain ⟨c0, c1, c2, c3⟩ := bp.cells
  obtain ⟨e0, e1, e2⟩ := bn.cells
  go_wp2_with fail
  go_region
  go_wp2
  try simp only [Exit.inBlock, Exit.then]
  refine bodyPost_ret (v := .tuple #[numV false (.slice adp np cp) (.slice adq nq cq), .bool true]) (by simp [results, Tryz.results38, go_sem, d0, d1, d2]) rfl ?_
  exact ⟨adp, np, cp, adq, nq, cq, P, Q, rfl, rp2.below (bel_drew (Below.refl _ _)), rq2.below (bel_drew (Below.refl _ _)), kp, kq, vp, vq, bel_drew hB⟩

set_option maxRecDepth 100000 in
set_option maxHeartbeats 8000000 in
theorem read_frac_f_t (s U D : ByteArray) {A B : Nat} (w : World) (hs : s.size ≤ 1900)
    (hsp : ∀ w : World, Calls Tryz.prog 25 #[.string s] w fun e w' => e = .returned (.tuple #[.agg #[.bool false, .string U, .bool true, .string D], .bool true]) ∧ Below w.heap.size w w')
    (hnu : ∀ w : World, Calls Tryz.prog 26 #[.agg #[.bool false, .string U, .bool true, .string D]] w (Numb w false A B)) (hd : (D.toList == [48]) = false) (hd1 : (D.toList == [49]) = false) (hg : Nat.gcd A B = 1) (hB0 : 0 < B) (lA : ∀ l, Can l → val l = A → l.length ≤ 200) (lB : ∀ l, Can l → val l = B → l.length ≤ 200) :
    Calls Tryz.prog 38 #[.string s] w (ReadQ w true false A B) := by
  have z : decide ((1900 : Int) < (s.size : Int)) = false := decide_eq_false (by omega)
  have HB := alb w (.cells #[.bool false, .slice none 0 0, .slice none 0 0] 40)
  have bz : Bx3 (w.alloc (.cells #[.bool false, .slice none 0 0, .slice none 0 0] 40)) w.heap.size false (.slice none 0 0) (.slice none 0 0) := heap_alloc_new w _
  go_enter Tryz.func38, Tryz.ntmps38
  go_wp2_with fail
  refine (hsp _).mono ?_
  rintro e w1 ⟨rfl, hb⟩
  replace bz := bz.below hb
  replace HB := onto HB hb
  clear hb
  have bp : Bx4 (w1.alloc (.cells #[.bool false, .string U, .bool true, .string D] 35)) w1.heap.size (.bool false) (.string U) (.bool true) (.string D) := heap_alloc_new w1 _
  have hal := alb w1 (.cells #[.bool false, .string U, .bool true, .string D] 35)
  have hgz := lt_heap bz
  replace bz := bz.below hal
  replace HB := onto HB hal
  clear hal
  go_wp2_with fail
  refine (hnu _).mono ?_
  rintro e w2 ⟨adp, np, cp, adq, nq, cq, P, Q, rfl, rp, rq, kp, kq, vp, vq, hb⟩
  have hpz := lt_heap bp
  have hpz2 := hb.size
  replace bz := bz.below hb
  replace bp := bp.below hb
  replace HB := onto HB hb
  clear hb
  have bn : Bx3 (w2.alloc (.cells #[.bool false, .slice adp np cp, .slice adq nq cq] 40)) w2.heap.size false (.slice adp np cp) (.slice adq nq cq) := heap_alloc_new w2 _
  have hal := alb w2 (.cells #[.bool false, .slice adp np cp, .slice adq nq cq] 40)
  replace bz := bz.below hal
  replace bp := bp.below hal
  replace rp := rp.below hal
  replace rq := rq.below hal
  replace HB := onto HB hal
  clear hal
  have hT := Lib.hid (show tell (Nat.gcd A B) 1 = 0 from by rw [hg]; rfl)
  have lp := lA P kp vp
  have lq := lB Q kq vq
  have hgl := Lib.hid (show Nat.gcd A B ≤ B from Nat.le_of_dvd hB0 (Nat.gcd_dvd_right _ _))
  clear hg hB0 lA lB
  have hS0 : HoldP w w2.heap.size w1.heap.size false (.slice adp np cp) (.slice adq nq cq) (.bool false) (.string U) (.string D) true [(.slice adp np cp, P), (.slice adq nq cq, Q)] (w2.alloc (.cells #[.bool false, .slice adp np cp, .slice adq nq cq] 40)) := by
    refine ⟨⟨⟨bn, bn⟩, fun r hr => ?_, HB⟩, bp⟩
    simp only [List.mem_cons, List.not_mem_nil, or_false] at hr
    rcases hr with rfl | rfl
    · exact rp
    · exact rq
  have mq := rq.lim
  clear rp rq bn bp
  replace hS0 := hS0.below (bel_drew (Below.refl _ _))
  replace bz := bz.below (bel_drew (Below.refl _ _))
  go_wp2_with fail
  go_region_held3 (fun W => (W.cell? ⟨w2.heap.size, 0, none⟩ = some (.bool false) ∧ W.cell? ⟨w2.heap.size, 1, none⟩ = some (.slice adp np cp) ∧ W.cell? ⟨w2.heap.size, 2, none⟩ = some (.slice adq nq cq) ∧ W.cell? ⟨w1.heap.size, 2, none⟩ = some (.bool true)) ∧ HoldP w w2.heap.size w1.heap.size false (.slice adp np cp) (.slice adq nq cq) (.bool false) (.string U) (.string D) true [(.slice adp np cp, P), (.slice adq nq cq, Q)] W)
    ((first | exact HoldP.held (by assumption) | exact HoldP.held (HoldP.put (by assumption) bz (by omega) (by omega) (by omega) _ _ _)))
    ((first
      | ((go_split_ands; go_at_call 54; refine (gcd_any (va := .slice adp np cp) (vb := .slice adq nq cq) (a := P) (b := Q) (HoldP.rd (by assumption) (by simp)) (HoldP.rd (by assumption) (by simp)) (by omega) (by omega)).mono ?_; rintro e u6 ⟨ad6, n6, i6, l6, rfl, r6, k6, v6, b6⟩; (replace bz := bz.below (b6)); have hS7 : HoldP w w2.heap.size w1.heap.size false (.slice adp np cp) (.slice adq nq cq) (.bool false) (.string U) (.string D) true [(.slice adp np cp, P), (.slice adq nq cq, Q)] u6 := HoldP.below (by assumption) b6; have j6 : l6.length ≤ 200 := can_small k6 mq lq (by rw [v6, vp, vq]; exact hgl.out); (try clear q0 q1 q2 f0 f1 f2); obtain ⟨q0, q1, q2⟩ := bz.cells; have f0 := bz.free 0; have f1 := bz.free 1; have f2 := bz.free 2))
      | ((go_split_ands; go_at_call 66; refine (of_any 1 _ (by decide) (by decide)).mono ?_; rintro e u7 ⟨ad7, n7, i7, l7, rfl, r7, k7, v7, b7⟩; (replace r6 := r6.below b7); (replace bz := bz.below (b7)); have hS8 : HoldP w w2.heap.size w1.heap.size false (.slice adp np cp) (.slice adq nq cq) (.bool false) (.string U) (.string D) true [(.slice adp np cp, P), (.slice adq nq cq, Q)] u7 := HoldP.below (by assumption) b7; have j7 : l7.length ≤ 1 := k7.len (by rw [v7]; decide); (try clear q0 q1 q2 f0 f1 f2); obtain ⟨q0, q1, q2⟩ := bz.cells; have f0 := bz.free 0; have f1 := bz.free 1; have f2 := bz.free 2))
      | ((go_split_ands; go_at_call 65; refine (cmp_at r6 r7 (by omega) (by omega) (t := 0) (by rw [v6, v7, vp, vq]; exact hT.out)).mono ?_; rintro e u8 ⟨rfl, b8⟩; (replace bz := bz.below (b8)); have hS9 : HoldP w w2.heap.size w1.heap.size false (.slice adp np cp) (.slice adq nq cq) (.bool false) (.string U) (.string D) true [(.slice adp np cp, P), (.slice adq nq cq, Q)] u8 := HoldP.below (by assumption) b8; (try clear q0 q1 q2 f0 f1 f2); obtain ⟨q0, q1, q2⟩ := bz.cells; have f0 := bz.free 0; have f1 := bz.free 1; have f2 := bz.free 2))))
  all_goals
    have HB := hS9.1.bel
    have rp := hS9.rd (v := .slice adp np cp) (l := P) (by simp)
    have rq := hS9.rd (v := .slice adq nq cq) (l := Q) (by simp)
    have bz2 := bz.put false (.slice adp np cp) (.slice adq nq cq)
    obtain ⟨d0, d1, d2⟩ := bz2.cells
    have hB := set3_below HB (Nat.le_refl w.heap.size) (.bool false) (.slice adp np cp) (.slice adq nq cq)
    have rp2 := rp.put3 bz.boxed (.bool false) (.slice adp np cp) (.slice adq nq cq)
    have rq2 := rq.put3 bz.boxed (.bool false) (.slice adp np cp) (.slice adq nq cq)
    go_wp2
    try simp only [Exit.inBlock, Exit.then]
    refine bodyPost_ret (v := .tuple #[numV false (.slice adp np cp) (.slice adq nq cq), .bool true]) (by simp [results, Tryz.results38, go_sem, d0, d1, d2]) rfl ?_
    exact ⟨adp, np, cp, adq, nq, cq, P, Q, rfl, rp2, rq2, kp, kq, vp, vq, hB⟩

set_option maxRecDepth 100000 in
set_option maxHeartbeats 8000000 in
theorem read_frac_f_f (s U D : ByteArray) {A B : Nat} (w : World) (hs : s.size ≤ 1900)
    (hsp : ∀ w : World, Calls Tryz.prog 25 #[.string s] w fun e w' => e = .returned (.tuple #[.agg #[.bool false, .string U, .bool true, .string D], .bool true]) ∧ Below w.heap.size w w')
    (hnu : ∀ w : World, Calls Tryz.prog 26 #[.agg #[.bool false, .string U, .bool true, .string D]] w (Numb w false A B)) (hd : (D.toList == [48]) = false) (hd1 : (D.toList == [49]) = false) (hg : Nat.gcd A B ≠ 1) (hB0 : 0 < B) (lA : ∀ l, Can l → val l = A → l.length ≤ 200) (lB : ∀ l, Can l → val l = B → l.length ≤ 200) :
    Calls Tryz.prog 38 #[.string s] w (ReadQ w false false A B) := by
  have z : decide ((1900 : Int) < (s.size : Int)) = false := decide_eq_false (by omega)
  have HB := alb w (.cells #[.bool false, .slice none 0 0, .slice none 0 0] 40)
  have bz : Bx3 (w.alloc (.cells #[.bool false, .slice none 0 0, .slice none 0 0] 40)) w.heap.size false (.slice none 0 0) (.slice none 0 0) := heap_alloc_new w _
  go_enter Tryz.func38, Tryz.ntmps38
  go_wp2_with fail
  refine (hsp _).mono ?_
  rintro e w1 ⟨rfl, hb⟩
  replace bz := bz.below hb
  replace HB := onto HB hb
  clear hb
  have bp : Bx4 (w1.alloc (.cells #[.bool false, .string U, .bool true, .string D] 35)) w1.heap.size (.bool false) (.string U) (.bool true) (.string D) := heap_alloc_new w1 _
  have hal := alb w1 (.cells #[.bool false, .string U, .bool true, .string D] 35)
  have hgz := lt_heap bz
  replace bz := bz.below hal
  replace HB := onto HB hal
  clear hal
  go_wp2_with fail
  refine (hnu _).mono ?_
  rintro e w2 ⟨adp, np, cp, adq, nq, cq, P, Q, rfl, rp, rq, kp, kq, vp, vq, hb⟩
  have hpz := lt_heap bp
  have hpz2 := hb.size
  replace bz := bz.below hb
  replace bp := bp.below hb
  replace HB := onto HB hb
  clear hb
  have bn : Bx3 (w2.alloc (.cells #[.bool false, .slice adp np cp, .slice adq nq cq] 40)) w2.heap.size false (.slice adp np cp) (.slice adq nq cq) := heap_alloc_new w2 _
  have hal := alb w2 (.cells #[.bool false, .slice adp np cp, .slice adq nq cq] 40)
  replace bz := bz.below hal
  replace bp := bp.below hal
  replace rp := rp.below hal
  replace rq := rq.below hal
  replace HB := onto HB hal
  clear hal
  have hT := Lib.hid (show tell (Nat.gcd A B) 1 = 1 from tell_gt (by have := Nat.gcd_pos_of_pos_right A hB0; omega))
  have lp := lA P kp vp
  have lq := lB Q kq vq
  have hgl := Lib.hid (show Nat.gcd A B ≤ B from Nat.le_of_dvd hB0 (Nat.gcd_dvd_right _ _))
  clear hg hB0 lA lB
  have hS0 : HoldP w w2.heap.size w1.heap.size false (.slice adp np cp) (.slice adq nq cq) (.bool false) (.string U) (.string D) true [(.slice adp np cp, P), (.slice adq nq cq, Q)] (w2.alloc (.cells #[.bool false, .slice adp np cp, .slice adq nq cq] 40)) := by
    refine ⟨⟨⟨bn, bn⟩, fun r hr => ?_, HB⟩, bp⟩
    simp only [List.mem_cons, List.not_mem_nil, or_false] at hr
    rcases hr with rfl | rfl
    · exact rp
    · exact rq
  have mq := rq.lim
  clear rp rq bn bp
  replace hS0 := hS0.below (bel_drew (Below.refl _ _))
  replace bz := bz.below (bel_drew (Below.refl _ _))
  go_wp2_with fail
  go_region_held3 (fun W => (W.cell? ⟨w2.heap.size, 0, none⟩ = some (.bool false) ∧ W.cell? ⟨w2.heap.size, 1, none⟩ = some (.slice adp np cp) ∧ W.cell? ⟨w2.heap.size, 2, none⟩ = some (.slice adq nq cq) ∧ W.cell? ⟨w1.heap.size, 2, none⟩ = some (.bool true)) ∧ HoldP w w2.heap.size w1.heap.size false (.slice adp np cp) (.slice adq nq cq) (.bool false) (.string U) (.string D) true [(.slice adp np cp, P), (.slice adq nq cq, Q)] W)
    ((first | exact HoldP.held (by assumption) | exact HoldP.held (HoldP.put (by assumption) bz (by omega) (by omega) (by omega) _ _ _)))
    ((first
      | ((go_split_ands; go_at_call 54; refine (gcd_any (va := .slice adp np cp) (vb := .slice adq nq cq) (a := P) (b := Q) (HoldP.rd (by assumption) (by simp)) (HoldP.rd (by assumption) (by simp)) (by omega) (by omega)).mono ?_; rintro e u6 ⟨ad6, n6, i6, l6, rfl, r6, k6, v6, b6⟩; (replace bz := bz.below (b6)); have hS7 : HoldP w w2.heap.size w1.heap.size false (.slice adp np cp) (.slice adq nq cq) (.bool false) (.string U) (.string D) true [(.slice adp np cp, P), (.slice adq nq cq, Q)] u6 := HoldP.below (by assumption) b6; have j6 : l6.length ≤ 200 := can_small k6 mq lq (by rw [v6, vp, vq]; exact hgl.out); (try clear q0 q1 q2 f0 f1 f2); obtain ⟨q0, q1, q2⟩ := bz.cells; have f0 := bz.free 0; have f1 := bz.free 1; have f2 := bz.free 2))
      | ((go_split_ands; go_at_call 66; refine (of_any 1 _ (by decide) (by decide)).mono ?_; rintro e u7 ⟨ad7, n7, i7, l7, rfl, r7, k7, v7, b7⟩; (replace r6 := r6.below b7); (replace bz := bz.below (b7)); have hS8 : HoldP w w2.heap.size w1.heap.size false (.slice adp np cp) (.slice adq nq cq) (.bool false) (.string U) (.string D) true [(.slice adp np cp, P), (.slice adq nq cq, Q)] u7 := HoldP.below (by assumption) b7; have j7 : l7.length ≤ 1 := k7.len (by rw [v7]; decide); (try clear q0 q1 q2 f0 f1 f2); obtain ⟨q0, q1, q2⟩ := bz.cells; have f0 := bz.free 0; have f1 := bz.free 1; have f2 := bz.free 2))
      | ((go_split_ands; go_at_call 65; refine (cmp_at r6 r7 (by omega) (by omega) (t := 1) (by rw [v6, v7, vp, vq]; exact hT.out)).mono ?_; rintro e u8 ⟨rfl, b8⟩; (replace bz := bz.below (b8)); have hS9 : HoldP w w2.heap.size w1.heap.size false (.slice adp np cp) (.slice adq nq cq) (.bool false) (.string U) (.string D) true [(.slice adp np cp, P), (.slice adq nq cq, Q)] u8 := HoldP.below (by assumption) b8; (try clear q0 q1 q2 f0 f1 f2); obtain ⟨q0, q1, q2⟩ := bz.cells; have f0 := bz.free 0; have f1 := bz.free 1; have f2 := bz.free 2))))
  all_goals
    have HB := hS9.1.bel
    have rp := hS9.rd (v := .slice adp np cp) (l := P) (by simp)
    have rq := hS9.rd (v := .slice adq nq cq) (l := Q) (by simp)
    have bz2 := bz.put false (.slice adp np cp) (.slice adq nq cq)
    obtain ⟨d0, d1, d2⟩ := bz2.cells
    have hB := set3_below HB (Nat.le_refl w.heap.size) (.bool false) (.slice adp np cp) (.slice adq nq cq)
    have rp2 := rp.put3 bz.boxed (.bool false) (.slice adp np cp) (.slice adq nq cq)
    have rq2 := rq.put3 bz.boxed (.bool false) (.slice adp np cp) (.slice adq nq cq)
    go_wp2
    try simp only [Exit.inBlock, Exit.then]
    refine bodyPost_ret (v := .tuple #[numV false (.slice adp np cp) (.slice adq nq cq), .bool false]) (by simp [results, Tryz.results38, go_sem, d0, d1, d2]) rfl ?_
    exact ⟨adp, np, cp, adq, nq, cq, P, Q, rfl, rp2, rq2, kp, kq, vp, vq, hB⟩

set_option maxRecDepth 100000 in
set_option maxHeartbeats 8000000 in
theorem read_whole_t_t (s U D : ByteArray) {A B : Nat} (w : World) (hs : s.size ≤ 1900)
    (hsp : ∀ w : World, Calls Tryz.prog 25 #[.string s] w fun e w' => e = .returned (.tuple #[.agg #[.bool true, .string U, .bool false, .string D], .bool true]) ∧ Below w.heap.size w w')
    (hnu : ∀ w : World, Calls Tryz.prog 26 #[.agg #[.bool true, .string U, .bool false, .string D]] w (Numb w true A B)) (hu : (U.toList == [48]) = false) :
    Calls Tryz.prog 38 #[.string s] w (ReadQ w true true A B) := by
  have z : decide ((1900 : Int) < (s.size : Int)) = false := decide_eq_false (by omega)
  have HB := alb w (.cells #[.bool false, .slice none 0 0, .slice none 0 0] 40)
  have bz : Bx3 (w.alloc (.cells #[.bool false, .slice none 0 0, .slice none 0 0] 40)) w.heap.size false (.slice none 0 0) (.slice none 0 0) := heap_alloc_new w _
  go_enter Tryz.func38, Tryz.ntmps38
  go_wp2_with fail
  refine (hsp _).mono ?_
  rintro e w1 ⟨rfl, hb⟩
  replace bz := bz.below hb
  replace HB := onto HB hb
  clear hb
  have bp : Bx4 (w1.alloc (.cells #[.bool true, .string U, .bool false, .string D] 35)) w1.heap.size (.bool true) (.string U) (.bool false) (.string D) := heap_alloc_new w1 _
  have hal := alb w1 (.cells #[.bool true, .string U, .bool false, .string D] 35)
  have hgz := lt_heap bz
  replace bz := bz.below hal
  replace HB := onto HB hal
  clear hal
  go_wp2_with fail
  refine (hnu _).mono ?_
  rintro e w2 ⟨adp, np, cp, adq, nq, cq, P, Q, rfl, rp, rq, kp, kq, vp, vq, hb⟩
  have hpz := lt_heap bp
  have hpz2 := hb.size
  replace bz := bz.below hb
  replace bp := bp.below hb
  replace HB := onto HB hb
  clear hb
  have bn : Bx3 (w2.alloc (.cells #[.bool true, .slice adp np cp, .slice adq nq cq] 40)) w2.heap.size true (.slice adp np cp) (.slice adq nq cq) := heap_alloc_new w2 _
  have hal := alb w2 (.cells #[.bool true, .slice adp np cp, .slice adq nq cq] 40)
  replace bz := bz.below hal
  replace bp := bp.below hal
  replace rp := rp.below hal
  replace rq := rq.below hal
  replace HB := onto HB hal
  clear hal
  obtain ⟨q0, q1, q2⟩ := bz.cells
  have f0 := bz.free 0
  have f1 := bz.free 1
  have f2 := bz.free 2
  have bz2 := bz.put true (.slice adp np cp) (.slice adq nq cq)
  obtain ⟨d0, d1, d2⟩ := bz2.cells
  have hB := set3_below HB (Nat.le_refl w.heap.size) (.bool true) (.slice adp np cp) (.slice adq nq cq)
  have rp2 := rp.put3 bz.boxed (.bool true) (.slice adp np cp) (.slice adq nq cq)
  have rq2 := rq.put3 bz.boxed (.bool true) (.slice adp np cp) (.slice adq nq cq)
  obtain ⟨c0, c1, c2, c3⟩ := bp.cells
  obtain ⟨e0, e1, e2⟩ := bn.cells
  go_wp2_with fail
  go_region
  go_wp2
  try simp only [Exit.inBlock, Exit.then]
  refine bodyPost_ret (v := .tuple #[numV true (.slice adp np cp) (.slice adq nq cq), .bool true]) (by simp [results, Tryz.results38, go_sem, d0, d1, d2]) rfl ?_
  exact ⟨adp, np, cp, adq, nq, cq, P, Q, rfl, rp2.below (bel_drew (Below.refl _ _)), rq2.below (bel_drew (Below.refl _ _)), kp, kq, vp, vq, bel_drew hB⟩

set_option maxRecDepth 100000 in
set_option maxHeartbeats 8000000 in
theorem read_frac_t_t (s U D : ByteArray) {A B : Nat} (w : World) (hs : s.size ≤ 1900)
    (hsp : ∀ w : World, Calls Tryz.prog 25 #[.string s] w fun e w' => e = .returned (.tuple #[.agg #[.bool true, .string U, .bool true, .string D], .bool true]) ∧ Below w.heap.size w w')
    (hnu : ∀ w : World, Calls Tryz.prog 26 #[.agg #[.bool true, .string U, .bool true, .string D]] w (Numb w true A B)) (hu : (U.toList == [48]) = false) (hd : (D.toList == [48]) = false) (hd1 : (D.toList == [49]) = false) (hg : Nat.gcd A B = 1) (hB0 : 0 < B) (lA : ∀ l, Can l → val l = A → l.length ≤ 200) (lB : ∀ l, Can l → val l = B → l.length ≤ 200) :
    Calls Tryz.prog 38 #[.string s] w (ReadQ w true true A B) := by
  have z : decide ((1900 : Int) < (s.size : Int)) = false := decide_eq_false (by omega)
  have HB := alb w (.cells #[.bool false, .slice none 0 0, .slice none 0 0] 40)
  have bz : Bx3 (w.alloc (.cells #[.bool false, .slice none 0 0, .slice none 0 0] 40)) w.heap.size false (.slice none 0 0) (.slice none 0 0) := heap_alloc_new w _
  go_enter Tryz.func38, Tryz.ntmps38
  go_wp2_with fail
  refine (hsp _).mono ?_
  rintro e w1 ⟨rfl, hb⟩
  replace bz := bz.below hb
  replace HB := onto HB hb
  clear hb
  have bp : Bx4 (w1.alloc (.cells #[.bool true, .string U, .bool true, .string D] 35)) w1.heap.size (.bool true) (.string U) (.bool true) (.string D) := heap_alloc_new w1 _
  have hal := alb w1 (.cells #[.bool true, .string U, .bool true, .string D] 35)
  have hgz := lt_heap bz
  replace bz := bz.below hal
  replace HB := onto HB hal
  clear hal
  go_wp2_with fail
  refine (hnu _).mono ?_
  rintro e w2 ⟨adp, np, cp, adq, nq, cq, P, Q, rfl, rp, rq, kp, kq, vp, vq, hb⟩
  have hpz := lt_heap bp
  have hpz2 := hb.size
  replace bz := bz.below hb
  replace bp := bp.below hb
  replace HB := onto HB hb
  clear hb
  have bn : Bx3 (w2.alloc (.cells #[.bool true, .slice adp np cp, .slice adq nq cq] 40)) w2.heap.size true (.slice adp np cp) (.slice adq nq cq) := heap_alloc_new w2 _
  have hal := alb w2 (.cells #[.bool true, .slice adp np cp, .slice adq nq cq] 40)
  replace bz := bz.below hal
  replace bp := bp.below hal
  replace rp := rp.below hal
  replace rq := rq.below hal
  replace HB := onto HB hal
  clear hal
  have hT := Lib.hid (show tell (Nat.gcd A B) 1 = 0 from by rw [hg]; rfl)
  have lp := lA P kp vp
  have lq := lB Q kq vq
  have hgl := Lib.hid (show Nat.gcd A B ≤ B from Nat.le_of_dvd hB0 (Nat.gcd_dvd_right _ _))
  clear hg hB0 lA lB
  have hS0 : HoldP w w2.heap.size w1.heap.size true (.slice adp np cp) (.slice adq nq cq) (.bool true) (.string U) (.string D) true [(.slice adp np cp, P), (.slice adq nq cq, Q)] (w2.alloc (.cells #[.bool true, .slice adp np cp, .slice adq nq cq] 40)) := by
    refine ⟨⟨⟨bn, bn⟩, fun r hr => ?_, HB⟩, bp⟩
    simp only [List.mem_cons, List.not_mem_nil, or_false] at hr
    rcases hr with rfl | rfl
    · exact rp
    · exact rq
  have mq := rq.lim
  clear rp rq bn bp
  replace hS0 := hS0.below (bel_drew (Below.refl _ _))
  replace bz := bz.below (bel_drew (Below.refl _ _))
  go_wp2_with fail
  go_region_held3 (fun W => (W.cell? ⟨w2.heap.size, 0, none⟩ = some (.bool true) ∧ W.cell? ⟨w2.heap.size, 1, none⟩ = some (.slice adp np cp) ∧ W.cell? ⟨w2.heap.size, 2, none⟩ = some (.slice adq nq cq) ∧ W.cell? ⟨w1.heap.size, 2, none⟩ = some (.bool true)) ∧ HoldP w w2.heap.size w1.heap.size true (.slice adp np cp) (.slice adq nq cq) (.bool true) (.string U) (.string D) true [(.slice adp np cp, P), (.slice adq nq cq, Q)] W)
    ((first | exact HoldP.held (by assumption) | exact HoldP.held (HoldP.put (by assumption) bz (by omega) (by omega) (by omega) _ _ _)))
    ((first
      | ((go_split_ands; go_at_call 54; refine (gcd_any (va := .slice adp np cp) (vb := .slice adq nq cq) (a := P) (b := Q) (HoldP.rd (by assumption) (by simp)) (HoldP.rd (by assumption) (by simp)) (by omega) (by omega)).mono ?_; rintro e u6 ⟨ad6, n6, i6, l6, rfl, r6, k6, v6, b6⟩; (replace bz := bz.below (b6)); have hS7 : HoldP w w2.heap.size w1.heap.size true (.slice adp np cp) (.slice adq nq cq) (.bool true) (.string U) (.string D) true [(.slice adp np cp, P), (.slice adq nq cq, Q)] u6 := HoldP.below (by assumption) b6; have j6 : l6.length ≤ 200 := can_small k6 mq lq (by rw [v6, vp, vq]; exact hgl.out); (try clear q0 q1 q2 f0 f1 f2); obtain ⟨q0, q1, q2⟩ := bz.cells; have f0 := bz.free 0; have f1 := bz.free 1; have f2 := bz.free 2))
      | ((go_split_ands; go_at_call 66; refine (of_any 1 _ (by decide) (by decide)).mono ?_; rintro e u7 ⟨ad7, n7, i7, l7, rfl, r7, k7, v7, b7⟩; (replace r6 := r6.below b7); (replace bz := bz.below (b7)); have hS8 : HoldP w w2.heap.size w1.heap.size true (.slice adp np cp) (.slice adq nq cq) (.bool true) (.string U) (.string D) true [(.slice adp np cp, P), (.slice adq nq cq, Q)] u7 := HoldP.below (by assumption) b7; have j7 : l7.length ≤ 1 := k7.len (by rw [v7]; decide); (try clear q0 q1 q2 f0 f1 f2); obtain ⟨q0, q1, q2⟩ := bz.cells; have f0 := bz.free 0; have f1 := bz.free 1; have f2 := bz.free 2))
      | ((go_split_ands; go_at_call 65; refine (cmp_at r6 r7 (by omega) (by omega) (t := 0) (by rw [v6, v7, vp, vq]; exact hT.out)).mono ?_; rintro e u8 ⟨rfl, b8⟩; (replace bz := bz.below (b8)); have hS9 : HoldP w w2.heap.size w1.heap.size true (.slice adp np cp) (.slice adq nq cq) (.bool true) (.string U) (.string D) true [(.slice adp np cp, P), (.slice adq nq cq, Q)] u8 := HoldP.below (by assumption) b8; (try clear q0 q1 q2 f0 f1 f2); obtain ⟨q0, q1, q2⟩ := bz.cells; have f0 := bz.free 0; have f1 := bz.free 1; have f2 := bz.free 2))))
  all_goals
    have HB := hS9.1.bel
    have rp := hS9.rd (v := .slice adp np cp) (l := P) (by simp)
    have rq := hS9.rd (v := .slice adq nq cq) (l := Q) (by simp)
    have bz2 := bz.put true (.slice adp np cp) (.slice adq nq cq)
    obtain ⟨d0, d1, d2⟩ := bz2.cells
    have hB := set3_below HB (Nat.le_refl w.heap.size) (.bool true) (.slice adp np cp) (.slice adq nq cq)
    have rp2 := rp.put3 bz.boxed (.bool true) (.slice adp np cp) (.slice adq nq cq)
    have rq2 := rq.put3 bz.boxed (.bool true) (.slice adp np cp) (.slice adq nq cq)
    go_wp2
    try simp only [Exit.inBlock, Exit.then]
    refine bodyPost_ret (v := .tuple #[numV true (.slice adp np cp) (.slice adq nq cq), .bool true]) (by simp [results, Tryz.results38, go_sem, d0, d1, d2]) rfl ?_
    exact ⟨adp, np, cp, adq, nq, cq, P, Q, rfl, rp2, rq2, kp, kq, vp, vq, hB⟩

set_option maxRecDepth 100000 in
set_option maxHeartbeats 8000000 in
theorem read_frac_t_f (s U D : ByteArray) {A B : Nat} (w : World) (hs : s.size ≤ 1900)
    (hsp : ∀ w : World, Calls Tryz.prog 25 #[.string s] w fun e w' => e = .returned (.tuple #[.agg #[.bool true, .string U, .bool true, .string D], .bool true]) ∧ Below w.heap.size w w')
    (hnu : ∀ w : World, Calls Tryz.prog 26 #[.agg #[.bool true, .string U, .bool true, .string D]] w (Numb w true A B)) (hu : (U.toList == [48]) = false) (hd : (D.toList == [48]) = false) (hd1 : (D.toList == [49]) = false) (hg : Nat.gcd A B ≠ 1) (hB0 : 0 < B) (lA : ∀ l, Can l → val l = A → l.length ≤ 200) (lB : ∀ l, Can l → val l = B → l.length ≤ 200) :
    Calls Tryz.prog 38 #[.string s] w (ReadQ w false true A B) := by
  have z : decide ((1900 : Int) < (s.size : Int)) = false := decide_eq_false (by omega)
  have HB := alb w (.cells #[.bool false, .slice none 0 0, .slice none 0 0] 40)
  have bz : Bx3 (w.alloc (.cells #[.bool false, .slice none 0 0, .slice none 0 0] 40)) w.heap.size false (.slice none 0 0) (.slice none 0 0) := heap_alloc_new w _
  go_enter Tryz.func38, Tryz.ntmps38
  go_wp2_with fail
  refine (hsp _).mono ?_
  rintro e w1 ⟨rfl, hb⟩
  replace bz := bz.below hb
  replace HB := onto HB hb
  clear hb
  have bp : Bx4 (w1.alloc (.cells #[.bool true, .string U, .bool true, .string D] 35)) w1.heap.size (.bool true) (.string U) (.bool true) (.string D) := heap_alloc_new w1 _
  have hal := alb w1 (.cells #[.bool true, .string U, .bool true, .string D] 35)
  have hgz := lt_heap bz
  replace bz := bz.below hal
  replace HB := onto HB hal
  clear hal
  go_wp2_with fail
  refine (hnu _).mono ?_
  rintro e w2 ⟨adp, np, cp, adq, nq, cq, P, Q, rfl, rp, rq, kp, kq, vp, vq, hb⟩
  have hpz := lt_heap bp
  have hpz2 := hb.size
  replace bz := bz.below hb
  replace bp := bp.below hb
  replace HB := onto HB hb
  clear hb
  have bn : Bx3 (w2.alloc (.cells #[.bool true, .slice adp np cp, .slice adq nq cq] 40)) w2.heap.size true (.slice adp np cp) (.slice adq nq cq) := heap_alloc_new w2 _
  have hal := alb w2 (.cells #[.bool true, .slice adp np cp, .slice adq nq cq] 40)
  replace bz := bz.below hal
  replace bp := bp.below hal
  replace rp := rp.below hal
  replace rq := rq.below hal
  replace HB := onto HB hal
  clear hal
  have hT := Lib.hid (show tell (Nat.gcd A B) 1 = 1 from tell_gt (by have := Nat.gcd_pos_of_pos_right A hB0; omega))
  have lp := lA P kp vp
  have lq := lB Q kq vq
  have hgl := Lib.hid (show Nat.gcd A B ≤ B from Nat.le_of_dvd hB0 (Nat.gcd_dvd_right _ _))
  clear hg hB0 lA lB
  have hS0 : HoldP w w2.heap.size w1.heap.size true (.slice adp np cp) (.slice adq nq cq) (.bool true) (.string U) (.string D) true [(.slice adp np cp, P), (.slice adq nq cq, Q)] (w2.alloc (.cells #[.bool true, .slice adp np cp, .slice adq nq cq] 40)) := by
    refine ⟨⟨⟨bn, bn⟩, fun r hr => ?_, HB⟩, bp⟩
    simp only [List.mem_cons, List.not_mem_nil, or_false] at hr
    rcases hr with rfl | rfl
    · exact rp
    · exact rq
  have mq := rq.lim
  clear rp rq bn bp
  replace hS0 := hS0.below (bel_drew (Below.refl _ _))
  replace bz := bz.below (bel_drew (Below.refl _ _))
  go_wp2_with fail
  go_region_held3 (fun W => (W.cell? ⟨w2.heap.size, 0, none⟩ = some (.bool true) ∧ W.cell? ⟨w2.heap.size, 1, none⟩ = some (.slice adp np cp) ∧ W.cell? ⟨w2.heap.size, 2, none⟩ = some (.slice adq nq cq) ∧ W.cell? ⟨w1.heap.size, 2, none⟩ = some (.bool true)) ∧ HoldP w w2.heap.size w1.heap.size true (.slice adp np cp) (.slice adq nq cq) (.bool true) (.string U) (.string D) true [(.slice adp np cp, P), (.slice adq nq cq, Q)] W)
    ((first | exact HoldP.held (by assumption) | exact HoldP.held (HoldP.put (by assumption) bz (by omega) (by omega) (by omega) _ _ _)))
    ((first
      | ((go_split_ands; go_at_call 54; refine (gcd_any (va := .slice adp np cp) (vb := .slice adq nq cq) (a := P) (b := Q) (HoldP.rd (by assumption) (by simp)) (HoldP.rd (by assumption) (by simp)) (by omega) (by omega)).mono ?_; rintro e u6 ⟨ad6, n6, i6, l6, rfl, r6, k6, v6, b6⟩; (replace bz := bz.below (b6)); have hS7 : HoldP w w2.heap.size w1.heap.size true (.slice adp np cp) (.slice adq nq cq) (.bool true) (.string U) (.string D) true [(.slice adp np cp, P), (.slice adq nq cq, Q)] u6 := HoldP.below (by assumption) b6; have j6 : l6.length ≤ 200 := can_small k6 mq lq (by rw [v6, vp, vq]; exact hgl.out); (try clear q0 q1 q2 f0 f1 f2); obtain ⟨q0, q1, q2⟩ := bz.cells; have f0 := bz.free 0; have f1 := bz.free 1; have f2 := bz.free 2))
      | ((go_split_ands; go_at_call 66; refine (of_any 1 _ (by decide) (by decide)).mono ?_; rintro e u7 ⟨ad7, n7, i7, l7, rfl, r7, k7, v7, b7⟩; (replace r6 := r6.below b7); (replace bz := bz.below (b7)); have hS8 : HoldP w w2.heap.size w1.heap.size true (.slice adp np cp) (.slice adq nq cq) (.bool true) (.string U) (.string D) true [(.slice adp np cp, P), (.slice adq nq cq, Q)] u7 := HoldP.below (by assumption) b7; have j7 : l7.length ≤ 1 := k7.len (by rw [v7]; decide); (try clear q0 q1 q2 f0 f1 f2); obtain ⟨q0, q1, q2⟩ := bz.cells; have f0 := bz.free 0; have f1 := bz.free 1; have f2 := bz.free 2))
      | ((go_split_ands; go_at_call 65; refine (cmp_at r6 r7 (by omega) (by omega) (t := 1) (by rw [v6, v7, vp, vq]; exact hT.out)).mono ?_; rintro e u8 ⟨rfl, b8⟩; (replace bz := bz.below (b8)); have hS9 : HoldP w w2.heap.size w1.heap.size true (.slice adp np cp) (.slice adq nq cq) (.bool true) (.string U) (.string D) true [(.slice adp np cp, P), (.slice adq nq cq, Q)] u8 := HoldP.below (by assumption) b8; (try clear q0 q1 q2 f0 f1 f2); obtain ⟨q0, q1, q2⟩ := bz.cells; have f0 := bz.free 0; have f1 := bz.free 1; have f2 := bz.free 2))))
  all_goals
    have HB := hS9.1.bel
    have rp := hS9.rd (v := .slice adp np cp) (l := P) (by simp)
    have rq := hS9.rd (v := .slice adq nq cq) (l := Q) (by simp)
    have bz2 := bz.put true (.slice adp np cp) (.slice adq nq cq)
    obtain ⟨d0, d1, d2⟩ := bz2.cells
    have hB := set3_below HB (Nat.le_refl w.heap.size) (.bool true) (.slice adp np cp) (.slice adq nq cq)
    have rp2 := rp.put3 bz.boxed (.bool true) (.slice adp np cp) (.slice adq nq cq)
    have rq2 := rq.put3 bz.boxed (.bool true) (.slice adp np cp) (.slice adq nq cq)
    go_wp2
    try simp only [Exit.inBlock, Exit.then]
    refine bodyPost_ret (v := .tuple #[numV true (.slice adp np cp) (.slice adq nq cq), .bool false]) (by simp [results, Tryz.results38, go_sem, d0, d1, d2]) rfl ?_
    exact ⟨adp, np, cp, adq, nq, cq, P, Q, rfl, rp2, rq2, kp, kq, vp, vq, hB⟩

end Go.Proofs.YtepacminjfeliaaGreatDoor
