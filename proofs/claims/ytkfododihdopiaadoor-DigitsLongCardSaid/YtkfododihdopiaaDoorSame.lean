/-
  The document's Same: are two lists alike, limb by limb. Lists of at most a million limbs.
-/
import Derived.Test.YtkfododihdopiaaDoorCmp
namespace Go.Proofs.YtkfododihdopiaaDoor
open Go.RowKit

/-- What Same answers. -/
def Samed (w : World) (t : Bool) (e : Ending) (w' : World) : Prop := e = .returned (.bool t) ∧ Below w.heap.size w w'

theorem same_at {a b : List Nat} {n : Nat} (h : ∀ j, j < n → at0 a j = at0 b j) (hna : n = a.length) (hnb : n = b.length) : a = b :=
  agree_same (n := n) (fun j _ h2 => h j (by omega)) hna.symm hnb.symm

set_option maxHeartbeats 1000000 in
theorem same_len {w : World} (ada adb : Option Addr) {na ca nb cb : Nat} (h : na ≠ nb) (_la : na ≤ 1000000) (_lb : nb ≤ 1000000) :
    Calls Tryd.prog 15 #[.slice ada na ca, .slice adb nb cb] w (Samed w false) := by
  have h1 : ((na : Int) != (nb : Int)) = true := by rw [bne_iff_ne]; omega
  have h2 : ¬ na = nb := h
  have H := Lib.hid h; clear h
  go_enter Tryd.func15, Tryd.ntmps15
  go_wp2
  go_ret
  exact ⟨rfl, Below.refl _ _⟩

set_option maxHeartbeats 1000000 in
theorem same_walk {w : World} {ada adb : Option Addr} {n ca cb : Nat} {a b : List Nat} (ha : Rd w (.slice ada n ca) a) (hb : Rd w (.slice adb n cb) b) (ln : n ≤ 1000000) :
    Calls Tryd.prog 15 #[.slice ada n ca, .slice adb n cb] w (Samed w (decide (a = b))) := by
  obtain ⟨hna, hca, hla, hcella⟩ := ha.open
  obtain ⟨hnb, hcb, hlb, hcellb⟩ := hb.open
  have HNA := Lib.hid hna; clear hna
  have HNB := Lib.hid hnb; clear hnb
  have HCA := Lib.hid hcella; clear hcella
  have HCB := Lib.hid hcellb; clear hcellb
  have HLA := Lib.hid hla; clear hla
  have HLB := Lib.hid hlb; clear hlb
  obtain ⟨t, ht⟩ : ∃ t, t = decide (a = b) := ⟨_, rfl⟩
  rw [← ht]
  have HT := Lib.hid ht; clear ht
  go_enter Tryd.func15, Tryd.ntmps15
  go_wp2
  go_loopw [5] (fun s wr => ∃ k : Nat, s = .int .i64 k ∧ k ≤ n ∧ Hid (∀ j, j < k → at0 a j = at0 b j) ∧ Below w.heap.size w wr) (fun s _ => n - (intOf s).toNat)
  case atStart => exact ⟨0, rfl, Nat.zero_le _, fun j h => absurd h (by omega), Below.refl _ _⟩
  case round =>
    obtain ⟨k, rfl, hk, HAG, hbel⟩ := hrel
    by_cases hlt : k < n
    · obtain ⟨b1, o1, rfl, hb1, hc1⟩ := HCA.out (by omega)
      obtain ⟨b2, o2, rfl, hb2, hc2⟩ := HCB.out (by omega)
      have hd1 : wr.cell? ⟨b1, o1 + k, none⟩ = some (.int .u32 (at0 a k : Int)) := (hbel.cell (p := ⟨b1, o1 + k, none⟩) hb1).trans (hc1 k hlt)
      have hd2 : wr.cell? ⟨b2, o2 + k, none⟩ = some (.int .u32 (at0 b k : Int)) := (hbel.cell (p := ⟨b2, o2 + k, none⟩) hb2).trans (hc2 k hlt)
      clear hc1 hc2
      obtain ⟨x, hx⟩ : ∃ x : Nat, x = at0 a k := ⟨_, rfl⟩
      obtain ⟨y, hy⟩ : ∃ y : Nat, y = at0 b k := ⟨_, rfl⟩
      rw [← hx] at hd1
      rw [← hy] at hd2
      have HX := Lib.hid hx; clear hx
      have HY := Lib.hid hy; clear hy
      by_cases h : x = y
      · subst h
        go_wp2_with fail
        go_quiet (fail)
        go_wp2
        go_roundw
        case rel =>
          refine ⟨k + 1, by go_num, by omega, fun j hj => ?_, draw_below hbel _⟩
          by_cases e : j = k
          · subst e; rw [← HX.out, ← HY.out]
          · exact HAG.out j (by omega)
        case measure => simp [intOf]; omega
      · have h1 : ((x : Int) != (y : Int)) = true := by rw [bne_iff_ne]; omega
        have H := Lib.hid h
        go_wp2_with fail
        go_quiet (fail)
        go_wp2
        go_ret
        have e : t = false := by
          rw [HT.out]
          apply decide_eq_false
          intro e
          subst e
          exact H.out (HX.out.trans HY.out.symm)
        rw [e]
        exact ⟨rfl, draw_below hbel _⟩
    · go_wp2
      go_ret
      have e : t = true := by
        rw [HT.out]
        exact decide_eq_true (same_at (n := n) (fun j hj => HAG.out j (by omega)) HNA.out HNB.out)
      rw [e]
      exact ⟨rfl, hbel⟩

theorem same_any {w : World} {va vb : Value} {a b : List Nat} (ha : Rd w va a) (hb : Rd w vb b) (la : a.length ≤ 1000000) (lb : b.length ≤ 1000000) :
    Calls Tryd.prog 15 #[va, vb] w (Samed w (decide (a = b))) := by
  obtain ⟨ada, na, ca, rfl, hna, -⟩ := id ha
  obtain ⟨adb, nb, cb, rfl, hnb, -⟩ := id hb
  by_cases h : na = nb
  · subst h
    exact same_walk ha hb (by omega)
  · have e : decide (a = b) = false := decide_eq_false fun e => h (by rw [hna, hnb, e])
    rw [e]
    exact same_len ada adb h (by omega) (by omega)

theorem same_yes {w : World} {va vb : Value} {a b : List Nat} (ha : Rd w va a) (hb : Rd w vb b) (la : a.length ≤ 1000000) (h : a = b) :
    Calls Tryd.prog 15 #[va, vb] w (Samed w true) := by
  subst h
  have := same_any ha hb la la
  rwa [decide_eq_true rfl] at this

end Go.Proofs.YtkfododihdopiaaDoor
