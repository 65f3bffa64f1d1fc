/-
  nat.along: what one function, handed on, makes of two rows of limbs, place by place, with a carry. For any such function that keeps an invariant.
-/
import Derived.Test.YtkfododihdopiaaDoorShort
namespace Go.Proofs.YtkfododihdopiaaDoor
open Go.RowKit

/-- Block g of w is a row of limbs, and reads as L. -/
def Blk (w : World) (g : Nat) (L : List Nat) : Prop := w.heap[g]? = some (.cells (L.map fun (x : Nat) => Value.int .u32 (x : Int)).toArray 35 (0, 0))

theorem Blk.cell {w : World} {g : Nat} {L : List Nat} (h : Blk w g L) {i x : Nat} (hi : L[i]? = some x) : w.cell? ⟨g, i, none⟩ = some (.int .u32 (x : Int)) := by
  unfold Blk at h
  simp [World.cell?, h, hi]

theorem Blk.free {w : World} {g : Nat} {L : List Nat} (h : Blk w g L) (i : Nat) : w.frozen? ⟨g, i, none⟩ = false := by
  unfold Blk at h
  simp [World.frozen?, h]

theorem Blk.lt {w : World} {g : Nat} {L : List Nat} (h : Blk w g L) : g < w.heap.size := by
  unfold Blk at h
  exact (Array.getElem?_eq_some_iff.1 h).1

theorem Blk.set {w : World} {g : Nat} {L : List Nat} (h : Blk w g L) (i x : Nat) : Blk (w.setCell ⟨g, i, none⟩ (.int .u32 (x : Int))) g (L.set i x) := by
  unfold Blk at h ⊢
  simp only [World.setCell, Array.getElem?_modify, if_pos, h, Option.map_some]
  simp [List.map_set]

/-- L, with l put in from place off on. -/
def put (L : List Nat) (off : Nat) (l : List Nat) : List Nat := L.take off ++ l ++ L.drop (off + l.length)

theorem put_nil (L : List Nat) (off : Nat) : put L off [] = L := by simp [put]

theorem put_length (L : List Nat) (off : Nat) (l : List Nat) (h : off + l.length ≤ L.length) : (put L off l).length = L.length := by
  unfold put; simp only [List.length_append, List.length_take, List.length_drop]; omega

theorem Blk.there {w : World} {g : Nat} {L : List Nat} (h : Blk w g L) {i : Nat} (hi : i < L.length) : ∃ v, w.cell? ⟨g, i, none⟩ = some v :=
  ⟨_, h.cell (List.getElem?_eq_getElem hi)⟩

theorem put_snoc (L : List Nat) (off : Nat) (l : List Nat) (x : Nat) (h : off + l.length < L.length) : (put L off l).set (off + l.length) x = put L off (l ++ [x]) := by
  have h1 : (L.take off).length = off := by rw [List.length_take]; omega
  unfold put
  rw [List.append_assoc, List.set_append_right _ _ (by omega), h1, Nat.add_sub_cancel_left, List.set_append_right _ _ (by omega), Nat.sub_self]
  rw [List.drop_eq_getElem_cons h]
  simp only [List.set_cons_zero, List.length_append, List.length_cons, List.length_nil]
  simp [Nat.add_assoc]

/-- Since w nothing but block g has been written, which is L with l put in from place off on. -/
def Sta (w : World) (g off : Nat) (L l : List Nat) (w' : World) : Prop := w.grownBy w' (some g) ∧ Blk w' g (put L off l)

theorem grown_trans {a b c : World} {r : Option Nat} (h : a.grownBy b r) (k : b.grownBy c r) : a.grownBy c r :=
  ⟨k.os.trans h.os, k.tape.trans h.tape, k.output.trans h.output, Nat.le_trans h.size k.size, fun i hi hr => (k.block i (Nat.lt_of_lt_of_le hi h.size) hr).trans (h.block i hi hr)⟩

theorem grown_set (w : World) (g i : Nat) (v : Value) : w.grownBy (w.setCell ⟨g, i, none⟩ v) (some g) :=
  ⟨rfl, rfl, rfl, by simp [World.setCell], fun k _ hk => Below.heap_setCell _ _ _ _ (by simp at hk; exact hk)⟩

theorem Sta.zero {w : World} {g : Nat} {L : List Nat} (off : Nat) (h : Blk w g L) : Sta w g off L [] w := ⟨World.grownBy.refl _ _, by rw [put_nil]; exact h⟩

theorem Sta.step {w w' : World} {g off : Nat} {L l : List Nat} (h : Sta w g off L l w') (x : Nat) (hl : off + l.length < L.length) : Sta w g off L (l ++ [x]) (w'.setCell ⟨g, off + l.length, none⟩ (.int .u32 (x : Int))) :=
  ⟨grown_trans h.1 (grown_set _ _ _ _), by rw [← put_snoc _ _ _ _ hl]; exact h.2.set _ _⟩

/-- What along answers. -/
def Alonged (w : World) (g off n : Nat) (L : List Nat) (Inv : Nat → List Nat → Nat → Prop) (e : Ending) (w' : World) : Prop :=
  ∃ l c, e = .returned (.int .u32 ((c : Nat) : Int)) ∧ l.length = n ∧ c < 4294967296 ∧ Lim l ∧ Inv n l c ∧ Sta w g off L l w'

/-- What the function that is handed on answers at place k. -/
def Stepped (Inv : Nat → List Nat → Nat → Prop) (k : Nat) (l : List Nat) (w : World) (e : Ending) (w' : World) : Prop :=
  (∃ o c, e = .returned (.tuple #[.int .u32 ((o : Nat) : Int), .int .u32 ((c : Nat) : Int)]) ∧ o < 4294967296 ∧ c < 4294967296 ∧ Inv (k + 1) (l ++ [o]) c) ∧ w = w'

set_option maxHeartbeats 1000000 in
theorem along_any (w : World) (g off n cap : Nat) (L : List Nat) (av bv : Value) (fid : Nat) (caps : Array Value) (xa xb : Nat → Nat) (Inv : Nat → List Nat → Nat → Prop)
    (hL : off + n ≤ L.length) (hcap : n ≤ cap) (hg : Blk w g L) (hn : n ≤ 1000000)
    (hA : ∀ (k : Nat) l w', k < n → l.length = k → Sta w g off L l w' → Calls Tryd.prog 45 #[av, .int .i64 (k : Int)] w' fun e w2 => e = .returned (.int .u32 (xa k : Int)) ∧ w' = w2)
    (hB : ∀ (k : Nat) l w', k < n → l.length = k → Sta w g off L l w' → Calls Tryd.prog 45 #[bv, .int .i64 (k : Int)] w' fun e w2 => e = .returned (.int .u32 (xb k : Int)) ∧ w' = w2)
    (hF : ∀ (k : Nat) l (c : Nat) w', k < n → l.length = k → Sta w g off L l w' → Inv k l c → c < 4294967296 →
      Calls Tryd.prog fid (#[.int .u32 (xa k : Int), .int .u32 (xb k : Int), .int .u32 (c : Int)] ++ caps) w' (Stepped Inv k l w'))
    (h0 : Inv 0 [] 0) (hcall : ∀ args w, (callFunc fid args).run Tryd.prog w = .ok (.enter fid args) w) :
    Calls Tryd.prog 33 #[.slice (some ⟨g, off, none⟩) n cap, av, bv, .func (.func fid) #[] caps] w (Alonged w g off n L Inv) := by
  go_enter Tryd.func33, Tryd.ntmps33
  go_wp2
  have HA := Lib.hid hA; clear hA
  have HB := Lib.hid hB; clear hB
  have HF := Lib.hid hF; clear hF
  go_loopw [9, 13] (fun c s wr => ∃ (k : Nat) (l : List Nat) (cn : Nat), s = .int .i64 k ∧ c = .int .u32 (cn : Int) ∧ k ≤ n ∧ l.length = k ∧ cn < 4294967296 ∧ Lim l ∧ Inv k l cn ∧ Sta w g off L l wr) (fun _ s _ => n - (intOf s).toNat)
  case atStart => exact ⟨0, [], 0, rfl, rfl, Nat.zero_le _, rfl, by decide, fun x hx => by simp at hx, h0, Sta.zero off hg⟩
  case round =>
    obtain ⟨k, l, cn, rfl, rfl, hk, hlen, hcn, hlim, hinv, hsta⟩ := hrel
    have hthere : k < n → ∃ v, wr.cell? ⟨g, off + k, none⟩ = some v := fun h => hsta.2.there (by rw [put_length _ _ _ (by omega)]; omega)
    have HL := Lib.hid hlen; clear hlen
    by_cases hlt : k < n
    · have hfree := hsta.2.free (off + k)
      obtain ⟨v0, hv0⟩ := hthere hlt
      clear hthere
      go_wp2_with fail
      refine (HA.out k l wr hlt HL.out hsta).mono ?_
      rintro e w' ⟨rfl, rfl⟩
      go_wp2_with fail
      refine (HB.out k l wr hlt HL.out hsta).mono ?_
      rintro e w' ⟨rfl, rfl⟩
      go_wp2_with fail
      refine (HF.out k l cn wr hlt HL.out hsta hinv hcn).mono ?_
      rintro e w' ⟨⟨o, c', rfl, ho, hc', hinv'⟩, rfl⟩
      go_wp2
      go_roundw
      case rel =>
        have hl := HL.out
        subst hl
        refine ⟨l.length + 1, l ++ [o], c', by go_num, rfl, by omega, by simp, hc', ?_, hinv', hsta.step o (by omega)⟩
        intro x hx
        rcases List.mem_append.1 hx with h | h
        · exact hlim x h
        · simp at h; omega
      case measure => simp [intOf]; omega
    · go_wp2
      go_ret
      obtain rfl : k = n := by omega
      exact ⟨l, cn, rfl, HL.out, hcn, hlim, hinv, hsta⟩

end Go.Proofs.YtkfododihdopiaaDoor
