/-
  nat.shift: a list times 2 to a power of 32 at most, in one limb more. No condition but that the list has at most ten thousand limbs.
-/
import Derived.Test.YtkfododihdopiaaDoorSame
namespace Go.Proofs.YtkfododihdopiaaDoor
open Go.RowKit

/-- What has been shifted so far. -/
def InvShift (s : Nat) (a : List Nat) (k : Nat) (l : List Nat) (c : Nat) : Prop := val l + pw k * c = 2 ^ s * sm (at0 a) k ∧ c < 2 ^ s

/-- A wide limb is its low part and what is handed on. -/
theorem limb_parts (p m : Nat) : p * (m % 4294967296) + 4294967296 * p * (m / 4294967296) = p * m := by
  rw [Nat.mul_comm 4294967296 p, Nat.mul_assoc, ← Nat.mul_add, Nat.mod_add_div]

theorem shift_step (s : Nat) (hs : s ≤ 32) (a : List Nat) (ha : Lim a) (p : Addr) (k : Nat) (l : List Nat) (c : Nat) (w : World) (hl : l.length = k) (h : InvShift s a k l c) (hcell : w.cell? p = some (.int .i64 (s : Int))) :
    Calls Tryd.prog 55 (#[.int .u32 (at0 a k : Int), .int .u32 (at0 [] k : Int), .int .u32 (c : Int)] ++ #[.pointer (some p)]) w (Stepped (InvShift s a) k l w) := by
  obtain ⟨h, hc⟩ := h
  have hx := at0_lt ha k
  obtain ⟨_, h1, h2⟩ := shift_wide (at0 a k) c s hx hc hs
  refine (shift1_any (at0 a k) (at0 [] k) c s p w hx hc hs hcell).mono ?_
  rintro e w' ⟨rfl, rfl⟩
  refine ⟨⟨_, _, rfl, Nat.mod_lt _ (by decide), by omega, ?_, h2⟩, rfl⟩
  have e := limb_parts (pw k) (2 ^ s * at0 a k + c)
  simp only [sm]
  rw [val_snoc, hl, pw_succ]
  rw [Nat.mul_add, Nat.mul_left_comm] at e
  rw [Nat.mul_add]
  omega

/-- What shift answers of a list a of na limbs. -/
def Shifted (w : World) (s : Nat) (a : List Nat) (na : Nat) (e : Ending) (w' : World) : Prop :=
  ∃ g l, w.heap.size ≤ g ∧ e = .returned (.slice (some ⟨g, 0, none⟩) (na + 1) (na + 1)) ∧ Blk w' g l ∧ Lim l ∧ l.length = na + 1 ∧ val l = 2 ^ s * val a ∧ Below w.heap.size w w'

theorem blk_below {w w' : World} {g : Nat} {L : List Nat} (h : Blk w g L) (hb : Below w.heap.size w w') : Blk w' g L := (hb.block g h.lt).trans h

set_option maxHeartbeats 1000000 in
theorem shift_any {w : World} {va : Value} {a : List Nat} (ha : Rd w va a) (la : a.length ≤ 10000) (s : Nat) (hs : s ≤ 32) :
    Calls Tryd.prog 48 #[va, .int .i64 (s : Int)] w (Shifted w s a a.length) := by
  obtain ⟨i0, hi, hz0, hz1, hz2⟩ := info_parts Tryd.info36
  obtain ⟨ada, na, ca, rfl, hna, hca, hxa, -⟩ := id ha
  have la' : na ≤ 10000 := by omega
  rw [← hna]
  have HA := Lib.hid hna; clear hna
  have HXA := Lib.hid hxa; clear hxa
  have key : ∀ (W w1 : World) (p : Addr) (G : Nat), W.heap.size = G → Below w.heap.size w W → p.block < W.heap.size → W.cell? p = some (.int .i64 (s : Int)) → w.heap.size ≤ W.heap.size →
      w1.ownsRow G 35 1 (.slice (some ⟨G, 0, none⟩) (na + 1) (na + 1)) (na + 1) (madeCells #[Value.int .u32 0] (na + 1)).toList → W.grownBy w1 none →
      Calls Tryd.prog 33 #[.slice (some ⟨G, 0, none⟩) (na + 1) (na + 1), .slice ada na ca, .slice none 0 0, .func (.func 55) #[] #[.pointer (some p)]] w1 fun e w2 => ∃ c l, e = .returned (.int .u32 ((c : Nat) : Int)) ∧ Blk w2 G l ∧ Lim l ∧ l.length = na + 1 ∧ val l = 2 ^ s * val a ∧ Below w.heap.size w w2 := by
    intro W w1 p G hG hW hp hcell hsz hown hgrow
    subst hG
    have hblk := made_row hown
    have hold : ∀ l w', Sta w1 W.heap.size 0 (List.replicate (na + 1) 0) l w' → Below w.heap.size w w' := fun l w' h => hW.trans ((grown_below hgrow h.1 (Nat.le_refl _)).mono hsz)
    have hcell' : ∀ l w', Sta w1 W.heap.size 0 (List.replicate (na + 1) 0) l w' → w'.cell? p = some (.int .i64 (s : Int)) := fun l w' h => ((grown_below hgrow h.1 (Nat.le_refl _)).cell hp).trans hcell
    refine (along_any w1 W.heap.size 0 (na + 1) (na + 1) (List.replicate (na + 1) 0) _ _ 55 #[.pointer (some p)] (at0 a) (at0 []) (InvShift s a) (by simp) (Nat.le_refl _) hblk (by omega)
      (fun k l w' _ _ h => limb_any (ha.below (hold l w' h)) (by omega) k) (fun k l w' _ _ h => limb_any (Rd.nil _) (by simp) k)
      (fun k l c w' _ hl h hinv hc => shift_step s hs a HXA.out p k l c w' hl hinv (hcell' l w' h)) ⟨by simp [val, sm], Nat.two_pow_pos s⟩ (fun _ _ => by simp [go_sem])).mono ?_
    rintro e w2 ⟨l, c, rfl, hl, hc, hL, ⟨hinv, _⟩, hsta⟩
    have hbel := hold l w2 hsta
    have h4 := hsta.2
    rw [put_whole hl] at h4
    refine ⟨c, l, rfl, h4, hL, hl, ?_, hbel⟩
    have e1 := HA.out
    rw [sm_all a (by omega)] at hinv
    have v1 := val_lt a HXA.out
    rw [← e1] at v1
    have h2 : 2 ^ s ≤ 4294967296 := Nat.pow_le_pow_right (by decide) hs (n := 2)
    have h3 : 2 ^ s * val a < 4294967296 * pw na := by
      have := Nat.mul_le_mul_right (val a) h2
      omega
    have : c = 0 := by
      rcases Nat.eq_zero_or_pos c with h | h
      · exact h
      · have := Nat.mul_le_mul_left (pw (na + 1)) h
        rw [pw_succ] at this hinv
        omega
    subst this
    omega
  have KEY := Lib.hid key; clear key
  have HRA := Lib.hid ha; clear ha
  go_enter Tryd.func48, Tryd.ntmps48
  go_wp2_with (at_make; refine wpList_make_full _ rfl _ _ 22 rfl (w.heap.size + 1) 35 i0 (.int .u32 0) 1 Tryd.underlying22 hi hz0 hz1 _ _ _ _ (na + 1) rfl rfl (by omega) (by omega) (by rw [hz2]; omega) (by unfold maxLen; omega) (by simp) ?_)
  intro w1 hown hgrow
  have HO := Lib.hid hown; clear hown
  have HG := Lib.hid hgrow; clear hgrow
  go_wp2_with fail
  refine (KEY.out (w.alloc (.cells #[.int .i64 (s : Int)] 3)) w1 ⟨w.heap.size, 0, none⟩ (w.heap.size + 1) (by simp) ((Below.refl _ _).alloc (Nat.le_refl _) _) (by simp) (by simp) (by simp) HO.out HG.out).mono ?_
  rintro e w2 ⟨c, l, rfl, hb, hL, hl, hv, hbel⟩
  have HV := Lib.hid hv; clear hv
  have HL := Lib.hid hl; clear hl
  go_wp2
  go_ret
  exact ⟨w.heap.size + 1, l, by omega, rfl, hb, hL, HL.out, HV.out, hbel⟩

end Go.Proofs.YtkfododihdopiaaDoor
