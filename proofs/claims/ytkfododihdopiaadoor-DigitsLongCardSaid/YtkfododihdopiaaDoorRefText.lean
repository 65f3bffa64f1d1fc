/-
  The document's answer: a number's decimals. The number has 1000 limbs at most.
-/
import Derived.Test.YtkfododihdopiaaDoorBytes
import Derived.Deep.LoopGhost
namespace Go.Proofs.YtkfododihdopiaaDoor
open Go.RowKit

/-- What Text answers: the right decimals of N. -/
def Texted (w : World) (N : Nat) (e : Ending) (w' : World) : Prop :=
  ∃ s : ByteArray, e = .returned (.string s) ∧ Dec (by0 s) ∧ num (by0 s) = N ∧ Below w.heap.size w w'

/-- The byte of a digit. -/
def digit (n : Nat) : UInt8 := UInt8.ofNat (48 + n % 10)

theorem digit_nat (n : Nat) : (digit n).toNat = 48 + n % 10 := by
  unfold digit
  rw [UInt8.toNat_ofNat']
  omega

theorem digit_dg (n : Nat) : dg (digit n) = n % 10 := by unfold dg; rw [digit_nat]; omega

/-- In the first loop: digits behind the back, the last one first. -/
def BackAt (N X : Nat) (B : List UInt8) : Prop := Digs B ∧ N = X * 10 ^ B.length + num B.reverse ∧ (X = 0 → B ≠ [] ∧ B.reverse.head? ≠ some 48)

theorem BackAt.step {N X : Nat} {B : List UInt8} (h : BackAt N X B) (hX : 0 < X) : BackAt N (X / 10) (B ++ [digit X]) := by
  obtain ⟨h1, h2, h3⟩ := h
  refine ⟨h1.append (Digs.one (by rw [digit_nat]; omega) (by rw [digit_nat]; omega)), ?_, fun h0 => ⟨by simp, ?_⟩⟩
  · rw [List.reverse_append, List.reverse_singleton, List.singleton_append, num_cons, digit_dg, List.length_append, List.length_reverse, List.length_singleton, h2, Nat.pow_succ, ← Nat.add_assoc]
    congr 1
    rw [Nat.mul_comm (10 ^ B.length) 10, ← Nat.mul_assoc, ← Nat.add_mul]
    congr 1
    omega
  · rw [List.reverse_append, List.reverse_singleton, List.singleton_append, List.head?_cons]
    intro h
    have : (digit X).toNat = 48 := by rw [Option.some.inj h]; rfl
    rw [digit_nat] at this
    omega

theorem BackAt.dec {N : Nat} {B : List UInt8} (h : BackAt N 0 B) : Dec B.reverse ∧ num B.reverse = N := by
  obtain ⟨h1, h2, h3⟩ := h
  obtain ⟨h4, h5⟩ := h3 rfl
  exact ⟨⟨fun b hb => h1 b (List.mem_reverse.1 hb), by simpa using h4, fun _ => h5⟩, by omega⟩

theorem BackAt.len {N X k : Nat} {B : List UInt8} (h : BackAt N X B) (hX : 0 < X) (hN : N < 10 ^ k) : B.length < k := by
  rcases Nat.lt_or_ge B.length k with h1 | h1
  · exact h1
  · have h2 := ten_le h1
    have : 1 * 10 ^ B.length ≤ X * 10 ^ B.length := Nat.mul_le_mul_right _ hX
    have := h.2.1
    omega

theorem rev_step {B : List UInt8} {i : Nat} {b : UInt8} (h : B[i]? = some b) : (B.drop i).reverse = (B.drop (i + 1)).reverse ++ [b] := by
  obtain ⟨hi, e⟩ := List.getElem?_eq_some_iff.1 h
  rw [List.drop_eq_getElem_cons hi, List.reverse_cons, e]

/-- In the second loop. -/
def FrontAt (w : World) (B : List UInt8) (k : Nat) (v : Value) (wr : World) : Prop :=
  OwnsB wr w.heap.size v (B.drop k).reverse ∧ Below w.heap.size w wr

theorem Owns.grown {w w' : World} {base : Nat} {v : Value} {l : List Nat} {r : Option Nat} (h : Owns w base v l) (hg : w.grownBy w' r) (hr : ∀ j, r = some j → j < base) : Owns w' base v l := by
  obtain ⟨h1, h2⟩ := h
  refine ⟨h1, h2.imp id fun ⟨g, cap, cur, hv, hb, hh, k⟩ => ⟨g, cap, cur, hv, hb, ?_, k⟩⟩
  rw [hg.block g (lt_heap hh) (fun e => by have := hr g e.symm; omega)]
  exact hh

def TextAt (w : World) (N : Nat) (m : Nat) (v u : Value) (wr : World) : Prop :=
  ∃ ad n cap X B, v = .slice ad n cap ∧ Rd wr (.slice ad n cap) X ∧ Can X ∧ val X = m ∧ OwnsB wr w.heap.size u B ∧ BackAt N m B ∧ Below w.heap.size w wr

set_option maxRecDepth 100000 in
set_option maxHeartbeats 4000000 in
theorem rtext_any {w : World} {va : Value} {a : List Nat} (ra : Rd w va a) (la : a.length ≤ 1000) : Calls Tryd.prog 14 #[va] w (Texted w (val a)) := by
  obtain ⟨ada, na, ca, rfl, -⟩ := id ra
  obtain ⟨K, hK, hsm⟩ : ∃ K, K ≤ 10000 ∧ val a < 10 ^ K := ⟨10 * a.length, by omega, Nat.lt_of_lt_of_le (val_lt a ra.lim) (pw_ten a.length)⟩
  have HSM := Lib.hid hsm
  clear hsm
  have hlen := val_lt a ra.lim
  have HLEN := Lib.hid hlen; clear hlen
  go_enter Tryd.func14, Tryd.ntmps14
  go_wp2_with fail
  refine (rnorm_any ra (by omega)).mono ?_
  rintro e w1 ⟨ad1, n1, cap1, l1, rfl, -, r1, k1, v1, hb1⟩
  have hn1 := r1.open.1
  have HN1 := Lib.hid hn1; clear hn1
  have V1 := Lib.hid v1; clear v1
  by_cases hz : n1 = 0
  · subst hz
    have : val a = 0 := by rw [← V1.out, List.eq_nil_of_length_eq_zero HN1.out.symm]; rfl
    have H0 := Lib.hid this
    clear this
    go_wp2
    go_ret
    exact ⟨⟨#[48]⟩, rfl, Dec.zero, by rw [H0.out]; rfl, hb1⟩
  · have hz1 : ((n1 : Int) == 0) = false := by simp; omega
    have hpos : 0 < val a := by rw [← V1.out]; exact can_pos k1 (k := n1 - 1) (by have := HN1.out; omega)
    have HP := Lib.hid hpos
    clear hpos hz
    have hat : TextAt w (val a) (val a) (.slice ad1 n1 cap1) (.slice none 0 0) w1 := ⟨ad1, n1, cap1, l1, [], rfl, r1, k1, V1.out, OwnsB.nil _ _, ⟨Digs.nil, by simp [num], fun h => by have := HP.out; omega⟩, hb1⟩
    have HAT := Lib.hid hat
    clear hat r1 hb1
    go_wp2_with fail
    go_loopg [3, 4] (val a) (fun m v u wr => TextAt w (val a) m v u wr)
    case atStart => exact HAT.out
    case round =>
      clear HAT
      obtain ⟨ad, n, cap, X, B, rfl, rX, cX, hX, hO, hB, hbel⟩ := hrel
      have hn := rX.open.1
      have HN := Lib.hid hn; clear hn
      by_cases h0 : n = 0
      · subst h0
        have hm0 : gk = 0 := by rw [← hX, List.eq_nil_of_length_eq_zero HN.out.symm]; rfl
        subst hm0
        have hdec := hB.dec
        have HDEC := Lib.hid hdec
        have hBl : B.length ≤ K := by
          have h1 := num_lt HDEC.out.1.1
          rw [HDEC.out.2, List.length_reverse] at h1
          have h2 := HDEC.out.1.len (k := max K 1) (by rw [HDEC.out.2]; exact Nat.lt_of_lt_of_le HSM.out (ten_le (by omega))) (by omega)
          rw [List.length_reverse] at h2
          have h3 := HDEC.out.1.pos
          rw [List.length_reverse] at h3
          by_cases hK0 : K = 0
          · subst hK0
            have := HSM.out
            have := HP.out
            omega
          · omega
        obtain ⟨adb, nb, cb, e⟩ : ∃ ad n cap, u4 = .slice ad n cap := by
          rcases hO.rd with ⟨e, _⟩ | ⟨b, o, n, cap, e, _⟩
          · exact ⟨_, _, _, e⟩
          · exact ⟨_, _, _, e⟩
        subst e
        have hrd := hO.rd
        have hnb : nb = B.length := by
          rcases hrd with ⟨e, rfl⟩ | ⟨b, o, n, cap, e, hn, _⟩
          · simp only [Value.slice.injEq] at e; exact e.2.1
          · simp only [Value.slice.injEq] at e; rw [e.2.1]; exact hn
        have hnb2 : nb ≤ 10000 := by omega
        have HNB := Lib.hid hnb
        have HRD := Lib.hid hrd
        have HBEL := Lib.hid hbel
        obtain ⟨W, hW⟩ : ∃ W, W = wr := ⟨_, rfl⟩
        subst hW
        have hat : FrontAt W B nb (.slice none 0 0) W := ⟨by rw [List.drop_of_length_le (by rw [HNB.out]; exact Nat.le_refl _)]; exact OwnsB.nil _ _, Below.refl _ _⟩
        have HAT := Lib.hid hat
        clear hat hnb hrd hO hbel
        go_wp2_with fail
        go_loopw [7, 8] (fun v i wx => ∃ k : Nat, i = .int .i64 ((k : Int) - 1) ∧ k ≤ nb ∧ FrontAt W B k v wx) (fun _ i _ => (intOf i + 1).toNat)
        case atStart => exact ⟨nb, by go_num, Nat.le_refl _, HAT.out⟩
        case round =>
          obtain ⟨k0, rfl, hk, hO2, hbel2⟩ := hrel
          clear HAT
          by_cases h0 : k0 = 0
          · subst h0
            rw [List.drop_zero] at hO2
            have hconv := string_of hO2.rd
            go_wp2
            go_ret
            exact ⟨_, rfl, by rw [by0_mk]; exact HDEC.out.1, by rw [by0_mk]; exact HDEC.out.2, onto HBEL.out hbel2⟩
          · obtain ⟨k, rfl⟩ : ∃ k, k0 = k + 1 := ⟨k0 - 1, by omega⟩
            clear h0
            have e0 : ((k + 1 : Nat) : Int) - 1 = (k : Int) := by omega
            rw [e0]
            obtain ⟨x, hx⟩ : ∃ x, B[k]? = some x := ⟨_, List.getElem?_eq_getElem (by have := HNB.out; omega)⟩
            rcases HRD.out.below hbel2 with ⟨_, e⟩ | ⟨b, o, n, cap, e, hn, hlt, hc⟩
            · rw [e] at hx; simp at hx
            · simp only [Value.slice.injEq] at e
              obtain ⟨rfl, rfl, rfl⟩ := e
              have hcx := hc k x hx
              have hrev := rev_step hx
              have HREV := Lib.hid hrev
              have hsz := hbel2.size
              have HO4 := Lib.hid (hO2.alloc (.cells #[.int .u8 (x.toNat : Int)] 5))
              clear hc hrev hO2 hx hn
              go_wp2_with (at_builtin; refine wpList_pushB _ rfl _ _ rfl W.heap.size _ _ rfl HO4.out ⟨wr.heap.size, 0, none⟩ 1 1 [x] rfl rfl ?_ (by simp; omega) (by omega) (by simp; omega) ?_)
              · intro j b hj
                match j, hj with
                | 0, hj =>
                  obtain rfl : x = b := by simpa using hj
                  exact one_cell _ _ _
              intro v' w4 hO5 _ _ hb4
              have hbel4 := hb4 W.heap.size W (Nat.le_refl _) (hbel2.alloc hsz _) (by first | omega | (simp; omega))
              go_wp2
              go_roundw
              case rel => exact ⟨k, rfl, by omega, by rw [HREV.out]; exact hO5, hbel4⟩
              case measure => simp [intOf]
      · have hz2 : ((n : Int) == 0) = false := by simp; omega
        have hp2 : (0 : Int) < n := by omega
        have hmpos : 0 < gk := by rw [← hX]; exact can_pos cX (k := n - 1) (by have := HN.out; omega)
        have hB2 := hB.step hmpos
        have hBl := hB.len hmpos HSM.out
        have hXl : X.length ≤ 1000 := by
          have h1 : gk ≤ val a := by
            rw [hB.2.1]
            have := Nat.mul_le_mul_left gk (ten_pos B.length)
            omega
          exact cX.len (k := 1000) (Nat.lt_of_le_of_lt (by rw [hX]; exact h1) (Nat.lt_of_lt_of_le HLEN.out (pw_le la)))
        have HB2 := Lib.hid hB2
        have HX := Lib.hid hX
        clear hB hB2 hX
        go_wp2_with fail
        refine (tenth_any rX (by omega)).mono ?_
        rintro e w3 ⟨ad3, n3, cap3, l3, rfl, o3, r3, k3, v3, hb3⟩
        have hu := fun j hj => (World.ownsRow.lt hO j hj).2
        have HU := Lib.hid hu
        rw [HX.out] at v3 ⊢
        have V3 := Lib.hid v3
        have hO3 := hO.below hb3
        have hbel3 := onto hbel hb3
        have hsz := hbel3.size
        have HO4 := Lib.hid (hO3.alloc (.cells #[.int .u8 (48 + (gk : Int) % 10)] 5))
        clear v3 hb3 hO hbel hO3 hu
        go_wp2_with (at_builtin; refine wpList_pushB _ rfl _ _ rfl w.heap.size _ B rfl HO4.out ⟨w3.heap.size, 0, none⟩ 1 1 [digit gk] rfl rfl ?_ (by omega) (by omega) (by simp; omega) ?_)
        · intro j b hj
          match j, hj with
          | 0, hj =>
            obtain rfl : digit gk = b := by simpa using hj
            rw [digit_nat]
            exact one_cell _ _ _
        intro v' w4 hO5 hg5 _ hb4
        have hbel4 := hb4 w.heap.size w (Nat.le_refl _) (hbel3.alloc hsz _) (by first | omega | (simp; omega))
        obtain ⟨_, _, _, e5, r4⟩ := ((o3.alloc (.cells #[.int .u8 (48 + (gk : Int) % 10)] 5)).grown hg5 HU.out).rd k3.1
        simp only [Value.slice.injEq] at e5
        obtain ⟨rfl, rfl, rfl⟩ := e5
        clear hg5 hb4 o3 r3 rX cX hbel3
        go_wp2
        go_roundg (gk / 10)
        case rel => exact (show TextAt w (val a) (gk / 10) _ _ _ from ⟨ad3, n3, cap3, l3, _, rfl, r4, k3, V3.out, hO5, HB2.out, hbel4⟩)
        case measure => omega

end Go.Proofs.YtkfododihdopiaaDoor
