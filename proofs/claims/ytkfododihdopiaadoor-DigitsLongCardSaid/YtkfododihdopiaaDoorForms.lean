/-
  The contracts of nat's calls once more, in the forms that the statements ask for: what is answered where it is known which way a call goes; literals of one, two and three limbs.
-/
import Derived.Test.YtkfododihdopiaaDoorDiv
import Derived.Test.YtkfododihdopiaaDoorSub
namespace Go.Proofs.YtkfododihdopiaaDoor
open Go.RowKit

theorem alb (w : World) (o : Obj) : Below w.heap.size w (w.alloc o) := (Below.refl _ _).alloc (Nat.le_refl _) _

theorem past {w w' : World} {o : Obj} (h : Below (w.alloc o).heap.size (w.alloc o) w') : Below w.heap.size w w' := (alb w o).trans (h.mono (by simp))

theorem onto {w0 w w' : World} (h : Below w0.heap.size w0 w) (k : Below w.heap.size w w') : Below w0.heap.size w0 w' := h.trans (k.mono h.size)

theorem lit1 (w : World) (p : Nat) (hp : p < 4294967296) : Rd (w.alloc (.cells #[.int .u32 (p : Int)] 35)) (.slice (some ⟨w.heap.size, 0, none⟩) 1 1) [p] :=
  Blk.rd (g := w.heap.size) (l := [p]) (heap_alloc_new w _) (fun x hx => by simp at hx; omega) rfl (Nat.le_refl _)

theorem lit2 (w : World) (p q : Nat) (hp : p < 4294967296) (hq : q < 4294967296) : Rd (w.alloc (.cells #[.int .u32 (p : Int), .int .u32 (q : Int)] 35)) (.slice (some ⟨w.heap.size, 0, none⟩) 2 2) [p, q] :=
  Blk.rd (g := w.heap.size) (l := [p, q]) (heap_alloc_new w _) (lim_two hp hq) rfl (Nat.le_refl _)

theorem lit3 (w : World) (p q r : Nat) (hp : p < 4294967296) (hq : q < 4294967296) (hr : r < 4294967296) : Rd (w.alloc (.cells #[.int .u32 (p : Int), .int .u32 (q : Int), .int .u32 (r : Int)] 35)) (.slice (some ⟨w.heap.size, 0, none⟩) 3 3) [p, q, r] :=
  Blk.rd (g := w.heap.size) (l := [p, q, r]) (heap_alloc_new w _) (fun x hx => by simp at hx; omega) rfl (Nat.le_refl _)

theorem can1 (p : Nat) (hp : p < 4294967296) (h0 : p ≠ 0) : Can [p] := ⟨fun x hx => by simp at hx; omega, fun _ => by simpa [at0] using h0⟩
theorem can2 (p q : Nat) (hp : p < 4294967296) (hq : q < 4294967296) (h0 : q ≠ 0) : Can [p, q] := ⟨lim_two hp hq, fun _ => by simpa [at0] using h0⟩
theorem can3 (p q r : Nat) (hp : p < 4294967296) (hq : q < 4294967296) (hr : r < 4294967296) (h0 : r ≠ 0) : Can [p, q, r] := ⟨fun x hx => by simp at hx; omega, fun _ => by simpa [at0] using h0⟩

theorem val1 (p : Nat) : val [p] = p := by simp [val]

section
variable {w : World} {va vb : Value} {a b : List Nat} (ha : Rd w va a) (hb : Rd w vb b)
include ha hb

theorem div_yes (la : a.length ≤ 1000) (lb : b.length ≤ 1000) (h : 0 < val b) :
    Calls Tryd.prog 38 #[va, vb] w fun e w' => ∃ ad n cap l ad2 n2 cap2 l2, e = .returned (.tuple #[.slice ad n cap, .slice ad2 n2 cap2, .bool true]) ∧ Rd w' (.slice ad n cap) l ∧ Can l ∧ val l = val a / val b ∧ Rd w' (.slice ad2 n2 cap2) l2 ∧ Can l2 ∧ val l2 = val a % val b ∧ Below w.heap.size w w' :=
  (div_any ha hb la lb).mono fun e w' h' => by
    rcases h' with ⟨h', _⟩ | ⟨_, h'⟩
    · omega
    · exact h'

theorem div_no (la : a.length ≤ 1000) (lb : b.length ≤ 1000) (h : val b = 0) :
    Calls Tryd.prog 38 #[va, vb] w fun e w' => e = .returned (.tuple #[.slice none 0 0, .slice none 0 0, .bool false]) ∧ Below w.heap.size w w' :=
  (div_any ha hb la lb).mono fun e w' h' => by
    rcases h' with ⟨_, h'⟩ | ⟨h', _⟩
    · exact h'
    · omega

/-- Two lists in short that are worth the same are alike. -/
theorem same_vals (la : a.length ≤ 1000000) (ca : Can a) (cb : Can b) (h : val a = val b) : Calls Tryd.prog 15 #[va, vb] w (Samed w true) := same_yes ha hb la (ca.inj cb h)
end

theorem can_len {l : List Nat} (h : Can l) {k : Nat} (hk : val l < pw k) (n : Nat) (hn : k ≤ n) : l.length ≤ n := Nat.le_trans (h.len hk) hn

end Go.Proofs.YtkfododihdopiaaDoor
