/-
  The document's answer: a number divided by ten, and the digit that is left. The number has 10000 limbs at most.
-/
import Derived.Test.YtkfododihdopiaaDoorRefParse
namespace Go.Proofs.YtkfododihdopiaaDoor
open Go.RowKit

theorem tenth_step {a Q : List Nat} {k r : Nat} (hQ : Q.length = a.length) (hk : k < a.length) (h : 10 * val (Q.drop (k + 1)) + r = val (a.drop (k + 1))) :
    10 * val ((Q.set k ((r * 4294967296 + at0 a k) / 10)).drop k) + (r * 4294967296 + at0 a k) % 10 = val (a.drop k) := by
  have e1 : a.drop k = at0 a k :: a.drop (k + 1) := by
    rw [List.drop_eq_getElem_cons hk]
    congr 1
    unfold at0; rw [List.getD_eq_getElem?_getD, List.getElem?_eq_getElem hk]; rfl
  have e2 : (Q.set k ((r * 4294967296 + at0 a k) / 10)).drop k = ((r * 4294967296 + at0 a k) / 10) :: Q.drop (k + 1) := by
    rw [List.drop_eq_getElem_cons (by rw [List.length_set]; omega), List.getElem_set_self, List.drop_set_of_lt (by omega)]
  rw [e1, e2, val, val, ← h]
  omega

/-- In the loop of tenth: the limbs from k on are done. -/
def TenAt (w : World) (g : Nat) (a : List Nat) (k r : Nat) (wr : World) : Prop :=
  ∃ Q, Blk wr g Q ∧ Q.length = a.length ∧ Lim Q ∧ r < 10 ∧ 10 * val (Q.drop k) + r = val (a.drop k) ∧ Below w.heap.size w wr

/-- What tenth answers. -/
def Tenthed (w : World) (N : Nat) (e : Ending) (w' : World) : Prop :=
  ∃ ad n cap l, e = .returned (.tuple #[.slice ad n cap, .int .u8 ((48 + N % 10 : Nat) : Int)]) ∧ Owns w' w.heap.size (.slice ad n cap) l ∧ Rd w' (.slice ad n cap) l ∧ Can l ∧ val l = N / 10 ∧ Below w.heap.size w w'

theorem lim_set {l : List Nat} (h : Lim l) {k x : Nat} (hx : x < 4294967296) : Lim (l.set k x) := fun y hy => by
  rcases List.mem_or_eq_of_mem_set hy with h1 | h1
  · exact h y h1
  · omega

set_option maxRecDepth 100000 in
set_option maxHeartbeats 4000000 in
theorem tenth_any {w : World} {va : Value} {a : List Nat} (ra : Rd w va a) (la : a.length ≤ 10000) : Calls Tryd.prog 29 #[va] w (Tenthed w (val a)) := by
  obtain ⟨i0, hi, hz0, hz1, hz2⟩ := info_parts Tryd.info36
  obtain ⟨ada, na, ca, rfl, -⟩ := id ra
  obtain ⟨hna, -, hxa, -⟩ := ra.open
  have la' : na ≤ 10000 := by omega
  have HA := Lib.hid hna; clear hna
  have HRA := Lib.hid ra; clear ra
  go_enter Tryd.func29, Tryd.ntmps29
  go_wp2_with (at_make; refine wpList_make_full _ rfl _ _ 22 rfl w.heap.size 35 i0 (.int .u32 0) 1 Tryd.underlying22 hi hz0 hz1 _ _ _ _ na rfl rfl (by omega) (by omega) (by rw [hz2]; omega) (by unfold maxLen; omega) (Nat.le_refl _) ?_)
  intro w1 hown hgrow
  have H0 : TenAt w w.heap.size a na 0 w1 := by
    refine ⟨_, made_row hown, by rw [List.length_replicate, ← HA.out], ?_, by omega, ?_, grown_below hgrow (World.grownBy.refl _ _) (Nat.le_refl _)⟩
    · intro x hx; rw [List.eq_of_mem_replicate hx]; decide
    · rw [List.drop_of_length_le (by simp), List.drop_of_length_le (by rw [← HA.out]; exact Nat.le_refl _)]
      rfl
  clear hown hgrow
  go_wp2_with fail
  go_loopw [5, 6] (fun r i wr => ∃ k x : Nat, r = .int .u64 x ∧ i = .int .i64 ((k : Int) - 1) ∧ k ≤ na ∧ TenAt w w.heap.size a k x wr) (fun _ i _ => (intOf i + 1).toNat)
  case atStart => exact ⟨na, 0, rfl, by go_num, Nat.le_refl _, H0⟩
  case round =>
    obtain ⟨k0, x, rfl, rfl, hk, hat⟩ := hrel
    obtain ⟨Q, hblk, hQl, hQ, hx, hv, hbel⟩ := hat
    clear H0
    by_cases h0 : k0 = 0
    · subst h0
      have hr : Rd wr (.slice (some ⟨w.heap.size, 0, none⟩) na na) Q := hblk.rd hQ (by rw [hQl, ← HA.out]) (Nat.le_refl _)
      have hvv : val Q = val a / 10 ∧ x = val a % 10 := by rw [List.drop_zero, List.drop_zero] at hv; omega
      have HV := Lib.hid hvv
      clear hv hvv hblk
      go_wp2_with fail
      refine (rnorm_any hr (by rw [hQl, ← HA.out]; omega)).mono ?_
      rintro e w3 ⟨ad3, n3, cap3, l3, rfl, o3, r3, k3, v3, hb3⟩
      have O3 := Lib.hid (o3.mono hbel.size)
      have V3 := Lib.hid (v3.trans HV.out.1)
      have eX : 48 + (x : Int) = ((48 + val a % 10 : Nat) : Int) := by rw [HV.out.2]; omega
      have EX := Lib.hid eX
      clear v3 eX o3
      go_wp2
      go_ret2
      exact ⟨ad3, n3, cap3, l3, by rw [← EX.out]; rfl, O3.out, r3, k3, V3.out, onto hbel hb3⟩
    · obtain ⟨k, rfl⟩ : ∃ k, k0 = k + 1 := ⟨k0 - 1, by omega⟩
      clear h0
      have e0 : ((k + 1 : Nat) : Int) - 1 = (k : Int) := by omega
      rw [e0]
      have hstep := tenth_step hQl (by rw [← HA.out]; omega) hv
      have x1 := at0_lt hxa k
      obtain ⟨b, o, e, hb, hcell⟩ := (HRA.out.below hbel).open.2.2.2 (by omega)
      subst e
      have hc := hcell k (by omega)
      obtain ⟨y, hy⟩ : ∃ y, y = at0 a k := ⟨_, rfl⟩
      rw [← hy] at hstep x1 hc
      obtain ⟨R, hR⟩ : ∃ R, R = x * 4294967296 + y := ⟨_, rfl⟩
      obtain ⟨q, hq⟩ : ∃ q, q = R / 10 := ⟨_, rfl⟩
      obtain ⟨m, hm⟩ : ∃ m, m = R % 10 := ⟨_, rfl⟩
      rw [← hR, ← hq, ← hm] at hstep
      have e1 : (x : Int) * 4294967296 + (y : Int) = (R : Int) := by omega
      have e2 : (R : Int) / 10 = (q : Int) := by omega
      have e3 : (R : Int).tdiv 10 = (q : Int) := by rw [Int.tdiv_eq_ediv_of_nonneg (by omega)]; omega
      have e4 : (R : Int) % 10 = (m : Int) := by omega
      have e5 : (R : Int).tmod 10 = (m : Int) := by rw [Int.tmod_eq_emod_of_nonneg (by omega)]; omega
      have q1 : q < 4294967296 := by omega
      have m1 : m < 10 := by omega
      have R1 : R < 18446744073709551616 := by omega
      have hcl : wr.cell? ⟨w.heap.size, k, none⟩ = some (.int .u32 (at0 Q k : Int)) := hblk.cell (by
        unfold at0; rw [List.getD_eq_getElem?_getD, List.getElem?_eq_getElem (by rw [hQl, ← HA.out]; omega)]; rfl)
      have hfr := hblk.free k
      have HST := Lib.hid hstep
      have HQ4 := Lib.hid (hblk.set k q)
      have HB4 := Lib.hid (hbel.setCell (p := ⟨w.heap.size, k, none⟩) (Nat.le_refl _) (.int .u32 (q : Int)))
      have HQL : Hid ((Q.set k q).length = a.length) := Lib.hid (by rw [List.length_set, hQl])
      clear hstep hv hblk hbel hy hR hq hm hQl
      go_wp2
      go_roundw
      case rel => exact ⟨k, m, rfl, rfl, by omega, _, HQ4.out, HQL.out, lim_set hQ q1, m1, HST.out, HB4.out⟩
      case measure => simp [intOf]

end Go.Proofs.YtkfododihdopiaaDoor
