/-
  The document's answer: its Gcd. No condition but the lists' lengths.
-/
import Derived.Test.YtpijjpjpedcbhaaRefDiv
import Derived.Deep.LoopGhost
namespace Go.Proofs.Ytpijjpjpedcbhaa
open Go.RowKit

/-- In the document's Gcd's loop. -/
def RGcdAt (w : World) (G m : Nat) (s t : Value) (wr : World) : Prop :=
  ∃ adx nx cx x ady ny cy y, s = .slice adx nx cx ∧ t = .slice ady ny cy ∧ Rd wr (.slice adx nx cx) x ∧ Rd wr (.slice ady ny cy) y ∧ Can x ∧ Can y ∧ Nat.gcd (val x) (val y) = G ∧ val y = m ∧ x.length ≤ 1000 ∧ y.length ≤ 1000 ∧ Below w.heap.size w wr

set_option maxHeartbeats 2000000 in
theorem rgcd_any {w : World} {va vb : Value} {a b : List Nat} (ra : Rd w va a) (rb : Rd w vb b) (la : a.length ≤ 1000) (lb : b.length ≤ 1000) :
    Calls Try.prog 24 #[va, vb] w (Made w (Nat.gcd (val a) (val b))) := by
  obtain ⟨G, hG⟩ : ∃ G, G = Nat.gcd (val a) (val b) := ⟨_, rfl⟩
  rw [← hG]
  have HG := Lib.hid hG; clear hG
  have HLA := Lib.hid la; clear la
  have HLB := Lib.hid lb; clear lb
  go_enter Try.func24, Try.ntmps24
  go_wp2_with fail
  refine (rnorm_any ra (by have := HLA.out; omega)).mono ?_
  rintro e w1 ⟨adx, nx, cx, x, rfl, -, hrx, hcx, hvx, hb1⟩
  have HVX := Lib.hid hvx; clear hvx
  have rb1 := rb.below hb1
  go_wp2_with fail
  refine (rnorm_any rb1 (by have := HLB.out; omega)).mono ?_
  rintro e w2 ⟨ady, ny, cy, y, rfl, -, hry, hcy, hvy, hb2⟩
  have HVY := Lib.hid hvy; clear hvy
  have hrx2 := hrx.below hb2
  have hlx : x.length ≤ a.length := hcx.len (by rw [HVX.out]; exact val_lt a ra.lim)
  have hly : y.length ≤ b.length := hcy.len (by rw [HVY.out]; exact val_lt b rb.lim)
  have hat : RGcdAt w G (val y) (.slice adx nx cx) (.slice ady ny cy) w2 :=
    ⟨adx, nx, cx, x, ady, ny, cy, y, rfl, rfl, hrx2, hry, hcx, hcy, by rw [HG.out, HVX.out, HVY.out], rfl, by have := HLA.out; omega, by have := HLB.out; omega, onto hb1 hb2⟩
  have HAT := Lib.hid hat
  clear hrx hrx2 hry rb1 hlx hly hat hb1 hb2
  go_wp2_with fail
  go_loopg [5, 6] (val y) (fun m s t wr => RGcdAt w G m s t wr)
  case atStart => exact HAT.out
  case round =>
    clear HAT
    obtain ⟨adx, nx, cx, x, ady, ny, cy, y, rfl, rfl, hrx, hry, hcx, hcy, hgcd, hm, hlx, hly, hbel⟩ := hrel
    have hny := hry.open.1
    have HNY := Lib.hid hny; clear hny
    have HGC := Lib.hid hgcd; clear hgcd
    have HMM := Lib.hid hm; clear hm
    have HLX := Lib.hid hlx; clear hlx
    have HLY := Lib.hid hly; clear hly
    by_cases c2 : ny = 0
    · subst c2
      have hv : val x = G := by
        rw [← HGC.out, List.eq_nil_of_length_eq_zero HNY.out.symm]
        exact (Nat.gcd_zero_right _).symm
      have HV := Lib.hid hv; clear hv
      go_wp2
      go_ret
      exact ⟨adx, nx, cx, x, rfl, hrx, hcx, HV.out, hbel⟩
    · have c3 : 0 < ny := by omega
      have hy0 : 0 < val y := can_pos hcy (k := ny - 1) (by have := HNY.out; omega)
      have HY0 := Lib.hid hy0; clear hy0
      clear c2
      go_wp2_with fail
      refine (rdiv_any hrx hry HLX.out HLY.out).mono ?_
      rintro e w3 (⟨h0, _⟩ | ⟨_, adq, nq, cq, q, adr, nr, cr, r, rfl, -, -, -, hrr, hcr, hvr, hb3⟩)
      · exact absurd h0 (by have := HY0.out; omega)
      · have hry3 := hry.below hb3
        have hbel3 := onto hbel hb3
        have hlt : val r < val y := by rw [hvr]; exact Nat.mod_lt _ HY0.out
        have hlr : r.length ≤ 1000 := Nat.le_trans (hcr.len (Nat.lt_trans hlt (val_lt y hcy.1))) HLY.out
        have hgr : Nat.gcd (val y) (val r) = G := by rw [hvr, Nat.gcd_comm, ← Nat.gcd_rec, Nat.gcd_comm]; exact HGC.out
        have HAT2 := Lib.hid (⟨ady, ny, cy, y, adr, nr, cr, r, rfl, rfl, hry3, hrr, hcy, hcr, hgr, rfl, HLY.out, hlr, hbel3⟩ : RGcdAt w G (val r) (.slice ady ny cy) (.slice adr nr cr) w3)
        have HLM := Lib.hid hlt
        clear hry hrx hry3 hrr hlt hlr hgr hvr
        go_wp2
        go_roundg (val r)
        case measure => have := HMM.out; have := HLM.out; omega
        case rel => exact HAT2.out

end Go.Proofs.Ytpijjpjpedcbhaa
