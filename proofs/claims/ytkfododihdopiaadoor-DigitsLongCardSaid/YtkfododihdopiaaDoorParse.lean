/-
  The program's Parse: the number of right decimals that are not too many, or what is wrong. The text has 1000000 bytes at most.
-/
import Derived.Test.YtkfododihdopiaaDoorRight
namespace Go.Proofs.YtkfododihdopiaaDoor
open Go.RowKit

theorem cell_iterAt {w : World} {k : Nat} {s : ByteArray} {p : Nat} (hit : w.heap[k]? = some (.stringIter s p)) (p' : Nat) (a : Addr) : (w.iterAt k s p').cell? a = w.cell? a := by
  by_cases h : a.block = k
  · have h1 := Lib.iterAt_heap w k s p p' hit
    unfold World.cell?
    rw [h, h1, hit]
  · unfold World.cell?
    rw [Lib.iterAt_other w k a.block s p' h]

theorem Rd.iterAt {w : World} {v : Value} {l : List Nat} (h : Rd w v l) {k : Nat} {s : ByteArray} {p : Nat} (hit : w.heap[k]? = some (.stringIter s p)) (p' : Nat) : Rd (w.iterAt k s p') v l :=
  h.same (by rw [Lib.iterAt_size]; exact Nat.le_refl _) fun _ _ _ _ _ _ _ _ _ => cell_iterAt hit p' _

theorem iterPos_of {w : World} {k : Nat} {s : ByteArray} {p : Nat} (h : w.heap[k]? = some (.stringIter s p)) : w.iterPos k = p := by simp [World.iterPos, h]

theorem lt_heap {w : World} {k : Nat} {o : Obj} (h : w.heap[k]? = some o) : k < w.heap.size := by
  rcases Nat.lt_or_ge k w.heap.size with h1 | h1
  · exact h1
  · rw [Array.getElem?_eq_none h1] at h; cases h

theorem below_heap {w w' : World} (h : Below w.heap.size w w') {k : Nat} {o : Obj} (hk : w.heap[k]? = some o) : w'.heap[k]? = some o := by
  rw [h.block k (lt_heap hk)]; exact hk

/-- What Parse answers. -/
def Parsed (w : World) (s : List UInt8) (e : Ending) (w' : World) : Prop :=
  Below w.heap.size w w' ∧
    ((¬ Dec s ∧ e = .returned (.tuple #[.slice none 0 0, .int .i64 12])) ∨ (Dec s ∧ 1900 < s.length ∧ e = .returned (.tuple #[.slice none 0 0, .int .i64 2])) ∨
      (Dec s ∧ s.length ≤ 1900 ∧ ∃ ad n cap l, e = .returned (.tuple #[.slice ad n cap, .int .i64 0]) ∧ Rd w' (.slice ad n cap) l ∧ Can l ∧ val l = num s))

theorem num_take {l : List UInt8} {i : Nat} {b : UInt8} (hb : l[i]? = some b) : num (l.take (i + 1)) = 10 * num (l.take i) + dg b := by
  rw [List.take_add_one, hb]
  exact num_snoc _ _

/-- Digits that are few are a number of few limbs. -/
theorem few_limbs {l : List UInt8} (h : Digs l) (hl : l.length ≤ 1900) {m : List Nat} (hm : Can m) (hv : val m ≤ num l) : m.length ≤ 200 := by
  have h1 := num_lt h
  have h2 := ten_le hl
  exact hm.len (Nat.lt_of_le_of_lt hv (ten_limbs (k := 100) (by omega)))

set_option maxRecDepth 100000 in
set_option maxHeartbeats 4000000 in
theorem parse_any (s : ByteArray) (w : World) (hs : s.size ≤ 1000000) : Calls Tryd.prog 11 #[.string s] w (Parsed w (by0 s)) := by
  have hlen := by0_len s
  by_cases hD : Dec (by0 s)
  · have hr := right_any s w
    rw [decide_eq_true hD] at hr
    have HR := Lib.hid hr; clear hr
    by_cases h19 : 1900 < s.size
    · go_enter Tryd.func11, Tryd.ntmps11
      go_wp2_with fail
      refine HR.out.mono ?_
      rintro e w1 ⟨rfl, hb⟩
      go_wp2
      go_ret2
      exact ⟨hb, .inr (.inl ⟨hD, by omega, rfl⟩)⟩
    · go_enter Tryd.func11, Tryd.ntmps11
      go_wp2_with fail
      refine HR.out.mono ?_
      rintro e w1 ⟨rfl, hb⟩
      clear HR
      go_wp2
      go_loopw [4, 5] (fun v x wr => ∃ (pos p : Nat) (ad : Option Addr) (n cap : Nat) (l : List Nat), v = .slice ad n cap ∧ x = .int .u64 p ∧ wr.heap[w1.heap.size]? = some (.stringIter s pos) ∧ pos ≤ s.size ∧ Rd wr (.slice ad n cap) l ∧ Can l ∧ Part s.size pos (val l) p (num ((by0 s).take pos)) ∧ Below w1.heap.size w1 wr) (fun _ _ wr => s.size - wr.iterPos w1.heap.size)
      case atStart => exact ⟨0, 0, none, 0, 0, [], rfl, rfl, World.iter_heap w1 s 0, by omega, Rd.nil _, Can.nil, by simpa [val, num] using Part.start s.size, (Below.refl _ _).alloc (Nat.le_refl _) _⟩
      case round =>
        obtain ⟨pos, p, ad, n, cap, l, rfl, rfl, hit, hle, hrd, hcan, hpart, hbel⟩ := hrel
        by_cases hp : pos < s.size
        · have hb := by0_at s pos hp
          have hdig := hD.1 _ (List.mem_of_getElem? hb)
          have hnx : ∀ ty, (Instr.next (.pointer (some ⟨w1.heap.size, 0, none⟩)) true ty).run Tryd.prog wr = _ := fun ty => Lib.run_next_ascii_at wr w1.heap.size s pos ty hit hp (by omega)
          have hit2 := Lib.iterAt_heap wr w1.heap.size s pos (pos + 1) hit
          have hbel2 := Lib.below_iterAt hbel (k := w1.heap.size) (Nat.le_refl _) s (pos + 1)
          have hrd2 := hrd.iterAt hit (pos + 1)
          have hpos0 := iterPos_of hit
          have hnum := num_take hb
          have hp8 := hpart.lt
          obtain ⟨W1, hW1⟩ : ∃ W1, W1 = wr.iterAt w1.heap.size s (pos + 1) := ⟨_, rfl⟩
          rw [← hW1] at hnx hit2 hbel2 hrd2
          clear hW1 hrd hbel
          obtain ⟨x, hx⟩ : ∃ x, x = (s[pos]'hp).toNat := ⟨_, rfl⟩
          have hdg : dg (s[pos]'hp) = x - 48 := by rw [hx]; rfl
          rw [← hx] at hnx hdig
          rw [hdg] at hnum
          have HN := Lib.hid hnum; clear hnum hdg hb hx
          have HPT := Lib.hid hpart; clear hpart
          have e1 : ((p : Int) * 10 + ((x : Int) - 48)) = ((p * 10 + (x - 48) : Nat) : Int) := by omega
          by_cases h9 : (s.size - pos - 1) % 9 = 0
          · have e9 : ((s.size : Int) - pos - 1).tmod 9 = 0 := by rw [Int.tmod_eq_emod_of_nonneg (by omega)]; omega
            have hfull := HPT.out.full hp (show x - 48 ≤ 9 by omega) h9
            have hd2 : Digs ((by0 s).take (pos + 1)) := fun b hb => hD.1 b (List.mem_of_mem_take hb)
            have hl2 : ((by0 s).take (pos + 1)).length ≤ 1900 := by rw [List.length_take]; omega
            rw [← HN.out] at hfull
            clear HPT HN
            have HF := Lib.hid hfull; clear hfull
            have hll : l.length ≤ 200 := few_limbs hd2 hl2 hcan (by have := HF.out.le; omega)
            go_wp2_with fail
            refine (of_any 1000000000 W1 (by decide) (by decide)).mono ?_
            rintro e w2 ⟨ad2, n2, cap2, l2, rfl, r2, k2, v2, hb2⟩
            have q2 : l2.length ≤ 1 := k2.len (by rw [v2]; decide)
            replace hrd2 := hrd2.below hb2
            have hit3 := below_heap hb2 hit2
            have hbel3 := onto hbel2 hb2
            have HV2 := Lib.hid v2
            clear v2 hb2 hit2 hbel2
            go_wp2_with fail
            refine (mul_any hrd2 r2 (by omega) (by omega)).mono ?_
            rintro e w3 ⟨ad3, n3, cap3, l3, rfl, r3, k3, v3, hb3⟩
            have hit4 := below_heap hb3 hit3
            have hbel4 := onto hbel3 hb3
            rw [HV2.out] at v3
            have HV3 := Lib.hid v3
            clear v3 hb3 hit3 hbel3
            have q3 : l3.length ≤ 200 := few_limbs hd2 hl2 k3 (by rw [HV3.out]; have := HF.out.le; exact Nat.le_trans (Nat.le_add_right _ _) this)
            go_wp2_with fail
            refine (of_any ((p * 10 + (x - 48) : Nat) : Int) w3 (by omega) (by omega)).mono ?_
            rintro e w4 ⟨ad4, n4, cap4, l4, rfl, r4, k4, v4, hb4⟩
            replace r3 := r3.below hb4
            have hit5 := below_heap hb4 hit4
            have hbel5 := onto hbel4 hb4
            have HV4 := Lib.hid v4
            clear v4 hb4 hit4 hbel4
            have q4 : l4.length ≤ 200 := few_limbs hd2 hl2 k4 (by rw [HV4.out]; have := HF.out.le; omega)
            go_wp2_with fail
            refine (add_any r3 r4 (by omega) (by omega)).mono ?_
            rintro e w5 ⟨ad5, n5, cap5, l5, rfl, r5, k5, v5, hb5⟩
            have hit6 := below_heap hb5 hit5
            have hbel6 := onto hbel5 hb5
            have HV5 := Lib.hid v5
            clear v5 hb5 hit5 hbel5
            go_wp2
            go_roundw
            case rel => exact ⟨pos + 1, 0, ad5, n5, cap5, l5, rfl, rfl, hit6, by omega, r5, k5, by rw [HV5.out, HV3.out, HV4.out]; exact HF.out, hbel6⟩
            case measure => rw [iterPos_of hit6, hpos0]; omega
          · have e9 : ¬ (((s.size : Int) - pos - 1).tmod 9 = 0) := by rw [Int.tmod_eq_emod_of_nonneg (by omega)]; omega
            go_wp2
            go_roundw
            case rel => exact ⟨pos + 1, p * 10 + (x - 48), ad, n, cap, l, rfl, by go_num, hit2, by omega, hrd2, hcan, by rw [HN.out]; exact HPT.out.more hp (by omega) h9, hbel2⟩
            case measure => rw [iterPos_of hit2, hpos0]; omega
        · have hnx : ∀ ty, (Instr.next (.pointer (some ⟨w1.heap.size, 0, none⟩)) true ty).run Tryd.prog wr = _ := fun ty => Lib.run_next_end_at wr w1.heap.size s pos ty hit hp
          obtain rfl : pos = s.size := by omega
          rw [List.take_of_length_le (by rw [by0_len]; exact Nat.le_refl _)] at hpart
          have hv := hpart.whole (by have := hD.pos; omega)
          have HV := Lib.hid hv
          clear hpart hv
          go_wp2
          go_ret2
          exact ⟨onto hb hbel, .inr (.inr ⟨hD, by omega, ad, n, cap, l, rfl, hrd, hcan, HV.out⟩)⟩
  · have hr := right_any s w
    rw [decide_eq_false hD] at hr
    go_enter Tryd.func11, Tryd.ntmps11
    go_wp2_with fail
    refine hr.mono ?_
    rintro e w1 ⟨rfl, hb⟩
    go_wp2
    go_ret2
    exact ⟨hb, .inl ⟨hD, rfl⟩⟩

end Go.Proofs.YtkfododihdopiaaDoor
