/-
  The contracts of digits once more, in the forms that the statements ask for.
-/
import Derived.Test.YtkfododihdopiaaDoorText
namespace Go.Proofs.YtkfododihdopiaaDoor
open Go.RowKit

theorem lit4 (w : World) (p q r s : Nat) (hp : p < 4294967296) (hq : q < 4294967296) (hr : r < 4294967296) (hs : s < 4294967296) : Rd (w.alloc (.cells #[.int .u32 (p : Int), .int .u32 (q : Int), .int .u32 (r : Int), .int .u32 (s : Int)] 35)) (.slice (some ⟨w.heap.size, 0, none⟩) 4 4) [p, q, r, s] :=
  Blk.rd (g := w.heap.size) (l := [p, q, r, s]) (heap_alloc_new w _) (fun x hx => by simp at hx; omega) rfl (Nat.le_refl _)

theorem parse_ok (s : ByteArray) (w : World) (hD : Dec (by0 s)) (hl : s.size ≤ 1900) :
    Calls Tryd.prog 11 #[.string s] w fun e w' => ∃ ad n cap l, e = .returned (.tuple #[.slice ad n cap, .int .i64 0]) ∧ Rd w' (.slice ad n cap) l ∧ Can l ∧ val l = num (by0 s) ∧ Below w.heap.size w w' :=
  (parse_any s w (by omega)).mono fun e w' h => by
    have hlen := by0_len s
    obtain ⟨hb, ⟨h, _⟩ | ⟨_, h, _⟩ | ⟨_, _, ad, n, cap, l, he, hr, hc, hv⟩⟩ := h
    · exact absurd hD h
    · omega
    · exact ⟨ad, n, cap, l, he, hr, hc, hv, hb⟩

theorem parse_bad (s : ByteArray) (w : World) (hs : s.size ≤ 1000000) (hD : ¬ Dec (by0 s)) :
    Calls Tryd.prog 11 #[.string s] w fun e w' => e = .returned (.tuple #[.slice none 0 0, .int .i64 12]) ∧ Below w.heap.size w w' :=
  (parse_any s w hs).mono fun e w' h => by
    obtain ⟨hb, ⟨_, h⟩ | ⟨h, _⟩ | ⟨h, _⟩⟩ := h
    · exact ⟨h, hb⟩
    · exact absurd h hD
    · exact absurd h hD

theorem parse_long (s : ByteArray) (w : World) (hs : s.size ≤ 1000000) (hD : Dec (by0 s)) (hl : 1900 < s.size) :
    Calls Tryd.prog 11 #[.string s] w fun e w' => e = .returned (.tuple #[.slice none 0 0, .int .i64 2]) ∧ Below w.heap.size w w' :=
  (parse_any s w hs).mono fun e w' h => by
    have hlen := by0_len s
    obtain ⟨hb, ⟨h, _⟩ | ⟨_, _, h⟩ | ⟨_, h, _⟩⟩ := h
    · exact absurd hD h
    · exact ⟨h, hb⟩
    · omega

theorem rparse_ok (s : ByteArray) (w : World) (hD : Dec (by0 s)) (hl : s.size ≤ 1900) :
    Calls Tryd.prog 12 #[.string s] w fun e w' => ∃ ad n cap l, e = .returned (.tuple #[.slice ad n cap, .int .i64 0]) ∧ Rd w' (.slice ad n cap) l ∧ Can l ∧ val l = num (by0 s) ∧ Below w.heap.size w w' :=
  (rparse_any s w (by omega)).mono fun e w' h => by
    have hlen := by0_len s
    obtain ⟨hb, ⟨h, _⟩ | ⟨_, h, _⟩ | ⟨_, _, ad, n, cap, l, he, hr, hc, hv⟩⟩ := h
    · exact absurd hD h
    · omega
    · exact ⟨ad, n, cap, l, he, hr, hc, hv, hb⟩

theorem rparse_bad (s : ByteArray) (w : World) (hs : s.size ≤ 1000000) (hD : ¬ Dec (by0 s)) :
    Calls Tryd.prog 12 #[.string s] w fun e w' => e = .returned (.tuple #[.slice none 0 0, .int .i64 12]) ∧ Below w.heap.size w w' :=
  (rparse_any s w hs).mono fun e w' h => by
    obtain ⟨hb, ⟨_, h⟩ | ⟨h, _⟩ | ⟨h, _⟩⟩ := h
    · exact ⟨h, hb⟩
    · exact absurd h hD
    · exact absurd h hD

theorem rparse_long (s : ByteArray) (w : World) (hs : s.size ≤ 1000000) (hD : Dec (by0 s)) (hl : 1900 < s.size) :
    Calls Tryd.prog 12 #[.string s] w fun e w' => e = .returned (.tuple #[.slice none 0 0, .int .i64 2]) ∧ Below w.heap.size w w' :=
  (rparse_any s w hs).mono fun e w' h => by
    have hlen := by0_len s
    obtain ⟨hb, ⟨h, _⟩ | ⟨_, _, h⟩ | ⟨_, h, _⟩⟩ := h
    · exact absurd hD h
    · exact ⟨h, hb⟩
    · omega

theorem bytes_eq {s t : ByteArray} (h : by0 s = by0 t) : s = t := by rw [← mk_by0 s, ← mk_by0 t, h]

theorem text_is {w : World} {va : Value} {a : List Nat} (ra : Rd w va a) (la : a.length ≤ 200) {s : ByteArray} (hs : Dec (by0 s)) (hn : num (by0 s) = val a) :
    Calls Tryd.prog 13 #[va] w fun e w' => e = .returned (.string s) ∧ Below w.heap.size w w' :=
  (text_any ra la).mono fun e w' h => by
    obtain ⟨t, he, hd, hv, hb⟩ := h
    have e := bytes_eq (hd.inj hs (hv.trans hn.symm))
    subst e
    exact ⟨he, hb⟩

theorem rtext_is {w : World} {va : Value} {a : List Nat} (ra : Rd w va a) (la : a.length ≤ 1000) {s : ByteArray} (hs : Dec (by0 s)) (hn : num (by0 s) = val a) :
    Calls Tryd.prog 14 #[va] w fun e w' => e = .returned (.string s) ∧ Below w.heap.size w w' :=
  (rtext_any ra la).mono fun e w' h => by
    obtain ⟨t, he, hd, hv, hb⟩ := h
    have e := bytes_eq (hd.inj hs (hv.trans hn.symm))
    subst e
    exact ⟨he, hb⟩

theorem rright_is (s : ByteArray) (w : World) (hs : s.size ≤ 1000000) {b : Bool} (h : decide (Dec (by0 s)) = b) : Calls Tryd.prog 17 #[.string s] w (Samed w b) := h ▸ rright_any s w hs

theorem right_is (s : ByteArray) (w : World) {b : Bool} (h : decide (Dec (by0 s)) = b) : Calls Tryd.prog 16 #[.string s] w (Samed w b) := h ▸ right_any s w

/-- A text's size, where its number is of few limbs. -/
theorem text_size {s : ByteArray} (hs : Dec (by0 s)) {l : List Nat} (hl : Lim l) (hn : num (by0 s) = val l) {k : Nat} (hk : l.length ≤ k) (h1 : 1 ≤ k) : s.size ≤ 10 * k := by
  have := hs.limbs (k := k) (by rw [hn]; exact val_small hl hk) h1
  rwa [by0_len] at this

end Go.Proofs.YtkfododihdopiaaDoor
