/-
  nat.word, nat.smallGcd, nat.Gcd: the greatest number that divides both. No condition but the lists' lengths.
-/
import Derived.Test.YtpijjpjpedcbhaaDiv
import Derived.Deep.LoopGhost
namespace Go.Proofs.Ytpijjpjpedcbhaa
open Go.RowKit

theorem limb_one {w : World} {v : Value} {l : List Nat} (h : Rd w v l) (hl : l.length ≤ 1000000) :
    Calls Try.prog 45 #[v, .int .i64 1] w fun e w' => e = .returned (.int .u32 (at0 l 1 : Int)) ∧ w = w' := limb_any h hl 1
theorem limb_zero {w : World} {v : Value} {l : List Nat} (h : Rd w v l) (hl : l.length ≤ 1000000) :
    Calls Try.prog 45 #[v, .int .i64 0] w fun e w' => e = .returned (.int .u32 (at0 l 0 : Int)) ∧ w = w' := limb_any h hl 0

theorem two_limbs {l : List Nat} (h : l.length ≤ 2) : val l = at0 l 1 * 4294967296 + at0 l 0 := by
  rw [← sm_all l (k := 2) h]
  simp only [sm, pw, Nat.zero_add, Nat.mul_one, Nat.one_mul]
  omega

/-- Bounds of 64 bits, behind a name. -/
def Fits (n : Nat) : Prop := n < 18446744073709551616

set_option maxHeartbeats 400000 in
theorem word_any {w : World} {v : Value} {l : List Nat} (h : Rd w v l) (hl : l.length ≤ 2) :
    Calls Try.prog 44 #[v] w fun e w' => (e = .returned (.int .u64 (val l : Int)) ∧ Fits (val l)) ∧ w = w' := by
  have e0 := two_limbs hl
  have l1 := at0_lt h.lim 1
  have l2 := at0_lt h.lim 0
  have o1 := limb_one h (by omega)
  have o2 := limb_zero h (by omega)
  obtain ⟨x, hx⟩ : ∃ x, x = at0 l 1 := ⟨_, rfl⟩
  obtain ⟨y, hy⟩ : ∃ x, x = at0 l 0 := ⟨_, rfl⟩
  rw [← hx] at o1 e0 l1
  rw [← hy] at o2 e0 l2
  obtain ⟨T, hT⟩ : ∃ T, T = val l := ⟨_, rfl⟩
  rw [← hT] at e0 ⊢
  have hf : Fits T := by unfold Fits; omega
  have e1 : bits .or .u64 ((x : Int) * 4294967296) (y : Int) = (T : Int) := by
    rw [show (x : Int) * 4294967296 = ((x * 4294967296 : Nat) : Int) from by omega, u64_or_nat _ _ (by omega) (by omega), nat_join 32 _ _ (Nat.mul_mod_left _ _) l2, e0]
  clear hx hy hT
  have E0 := Lib.hid e0; clear e0
  have O1 := Lib.hid o1; clear o1
  have O2 := Lib.hid o2; clear o2
  go_enter Try.func44, Try.ntmps44
  go_wp2_with fail
  refine O1.out.mono ?_
  rintro e w' ⟨rfl, rfl⟩
  go_wp2_with fail
  refine O2.out.mono ?_
  rintro e w' ⟨rfl, rfl⟩
  go_wp2
  go_ret
  exact ⟨⟨rfl, hf⟩, rfl⟩

set_option maxHeartbeats 400000 in
theorem small_any (x0 y0 : Nat) (w : World) (hx : Fits x0) (hy : Fits y0) :
    Calls Try.prog 43 #[.int .u64 (x0 : Int), .int .u64 (y0 : Int)] w fun e w' => (e = .returned (.int .u64 (Nat.gcd x0 y0 : Int)) ∧ Fits (Nat.gcd x0 y0)) ∧ Below w.heap.size w w' := by
  obtain ⟨G, hG⟩ : ∃ G, G = Nat.gcd x0 y0 := ⟨_, rfl⟩
  rw [← hG]
  have HG := Lib.hid hG; clear hG
  go_enter Try.func43, Try.ntmps43
  go_wp2
  go_loopw [0, 1] (fun s t wr => ∃ p q : Nat, s = .int .u64 p ∧ t = .int .u64 q ∧ Fits p ∧ Fits q ∧ Hid (Nat.gcd p q = G) ∧ Below w.heap.size w wr) (fun _ t _ => (intOf t).toNat)
  case atStart => exact ⟨x0, y0, rfl, rfl, hx, hy, HG.out.symm, Below.refl _ _⟩
  case round =>
    obtain ⟨p, q, rfl, rfl, hp, hq, HPQ, hbel⟩ := hrel
    by_cases h0 : 0 < q
    · go_wp2_with fail
      go_quiet (fail)
      go_wp2
      go_roundw
      case rel => exact ⟨q, p % q, rfl, rfl, hq, Nat.lt_of_le_of_lt (Nat.mod_le _ _) hp, by rw [Nat.gcd_comm, ← Nat.gcd_rec, Nat.gcd_comm]; exact HPQ.out, draw_below hbel _⟩
      case measure =>
        show ((p % q : Nat) : Int).toNat < (q : Int).toNat
        rw [Int.toNat_natCast, Int.toNat_natCast]
        exact Nat.mod_lt _ h0
    · obtain rfl : q = 0 := by omega
      go_wp2
      go_ret
      have e : p = G := by rw [← HPQ.out, Nat.gcd_zero_right]
      subst e
      exact ⟨⟨rfl, hp⟩, hbel⟩

/-- What nearer answers of numbers worth X and Y. -/
def Neared (w : World) (X Y : Nat) (e : Ending) (w' : World) : Prop :=
  ∃ ad n cap l ad2 n2 cap2 l2, e = .returned (.tuple #[.slice ad n cap, .slice ad2 n2 cap2]) ∧ Rd w' (.slice ad n cap) l ∧ Rd w' (.slice ad2 n2 cap2) l2 ∧ Can l ∧ Can l2 ∧ val l2 ≤ val l ∧ val l ≤ X ∧ val l2 < Y ∧ Nat.gcd (val l) (val l2) = Nat.gcd X Y ∧ Below w.heap.size w w'

/-- What Gcd asks of nearer, where one of both has more than two limbs. -/
def NearOk : Prop := ∀ (w : World) (vx vy : Value) (x y : List Nat), Rd w vx x → Rd w vy y → Can x → Can y → val y ≤ val x → 2 < x.length → x.length ≤ 1000 → 0 < y.length → Calls Try.prog 42 #[vx, vy] w (Neared w (val x) (val y))

/-- In Gcd's loop. -/
def GcdAt (w : World) (G m : Nat) (s t : Value) (wr : World) : Prop :=
  ∃ adx nx cx x ady ny cy y, s = .slice adx nx cx ∧ t = .slice ady ny cy ∧ Rd wr (.slice adx nx cx) x ∧ Rd wr (.slice ady ny cy) y ∧ Can x ∧ Can y ∧ val y ≤ val x ∧ Nat.gcd (val x) (val y) = G ∧ val y = m ∧ x.length ≤ 1000 ∧ Below w.heap.size w wr ∧ (2 < x.length → NearOk)

theorem GcdAt.next {w wr w' : World} {G m : Nat} {x y : List Nat} {e : Ending} (hg : Nat.gcd (val x) (val y) = G) (hm : val y = m) (hlx : x.length ≤ 1000) (hx : Can x) (hbel : Below w.heap.size w wr) (hok : NearOk) (h : Neared wr (val x) (val y) e w') :
    ∃ s t m', e = .returned (.tuple #[s, t]) ∧ m' < m ∧ GcdAt w G m' s t w' := by
  obtain ⟨ad, n, cap, l, ad2, n2, cap2, l2, rfl, r1, r2, c1, c2, hle, hX, hY, hgcd, hb⟩ := h
  refine ⟨_, _, val l2, rfl, by omega, ad, n, cap, l, ad2, n2, cap2, l2, rfl, rfl, r1, r2, c1, c2, hle, hgcd.trans hg, rfl, ?_, hbel.trans (hb.mono hbel.size), fun _ => hok⟩
  have := c1.len (k := x.length) (Nat.lt_of_le_of_lt hX (val_lt x hx.1))
  omega

set_option maxHeartbeats 2000000 in
theorem gcd_walk {w : World} {va vb : Value} {a b : List Nat} (ha : Rd w va a) (hb : Rd w vb b) (la : a.length ≤ 1000) (lb : b.length ≤ 1000) (hok : 2 < a.length ∨ 2 < b.length → NearOk) :
    Calls Try.prog 23 #[va, vb] w (Made w (Nat.gcd (val a) (val b))) := by
  have HOK := Lib.hid hok; clear hok
  obtain ⟨G, hG⟩ : ∃ G, G = Nat.gcd (val a) (val b) := ⟨_, rfl⟩
  rw [← hG]
  have HG := Lib.hid hG; clear hG
  have HLA := Lib.hid la; clear la
  have HLB := Lib.hid lb; clear lb
  go_enter Try.func23, Try.ntmps23
  go_wp2_with fail
  refine (norm_any ha (by have := HLA.out; omega)).mono ?_
  rintro e w1 ⟨adx, nx, cx, x, rfl, hrx, hcx, hvx, hb1⟩
  have HVX := Lib.hid hvx; clear hvx
  have hb' := hb.below hb1
  go_wp2_with fail
  refine (norm_any hb' (by have := HLB.out; omega)).mono ?_
  rintro e w2 ⟨ady, ny, cy, y, rfl, hry, hcy, hvy, hb2⟩
  have HVY := Lib.hid hvy; clear hvy
  have hrx2 := hrx.below hb2
  have hlx : x.length ≤ a.length := hcx.len (by rw [HVX.out]; exact val_lt a ha.lim)
  have hly : y.length ≤ b.length := hcy.len (by rw [HVY.out]; exact val_lt b hb.lim)
  have HLX := Lib.hid hlx; clear hlx
  have HLY := Lib.hid hly; clear hly
  clear hrx hb'
  have hbel2 : Below w.heap.size w w2 := hb1.trans (hb2.mono hb1.size)
  go_wp2_with fail
  refine (cmp_any hrx2 hry (by have := HLX.out; have := HLA.out; omega) (by have := HLY.out; have := HLB.out; omega)).mono ?_
  rintro e w3 ⟨rfl, hb3⟩
  have hrx3 := hrx2.below hb3
  have hry3 := hry.below hb3
  have hbel3 : Below w.heap.size w w3 := hbel2.trans (hb3.mono hbel2.size)
  clear hrx2 hry hbel2
  have key : ∀ m s t, GcdAt w G m s t w3 → GcdAt w G m s t w3 := fun _ _ _ h => h
  by_cases hlt : val x < val y
  · have e1 := Lib.hid (tell_lt hlt)
    have hat : GcdAt w G (val x) (.slice ady ny cy) (.slice adx nx cx) w3 :=
      ⟨ady, ny, cy, y, adx, nx, cx, x, rfl, rfl, hry3, hrx3, hcy, hcx, by omega, by rw [HG.out, ← HVX.out, ← HVY.out, Nat.gcd_comm], rfl, by have := HLY.out; have := HLB.out; omega, hbel3, fun h => HOK.out (.inr (by have := HLY.out; omega))⟩
    rw [e1.out]
    clear HOK hrx3 hry3
    go_wp2_with fail
    go_loopg [5, 6] (val x) (fun m s t wr => GcdAt w G m s t wr)
    case atStart => exact hat
    case round =>
      obtain ⟨adx, nx, cx, x, ady, ny, cy, y, rfl, rfl, hrx, hry, hcx, hcy, hle, hgcd, hm, hlx, hbel, hok⟩ := hrel
      have hnx := hrx.open.1
      have hny := hry.open.1
      have hnx2 : nx ≤ 1000 := by omega
      have hny2 : ny ≤ nx := by
        have := hcy.len (Nat.lt_of_le_of_lt hle (val_lt x hcx.1))
        omega
      have HOK2 := Lib.hid hok; clear hok
      have HNX := Lib.hid hnx; clear hnx
      have HNY := Lib.hid hny; clear hny
      have HGC := Lib.hid hgcd; clear hgcd
      have HMM := Lib.hid hm; clear hm
      clear hlx
      by_cases c2 : ny = 0
      · subst c2
        have hv : val x = G := by
          rw [← HGC.out, List.eq_nil_of_length_eq_zero HNY.out.symm]
          exact (Nat.gcd_zero_right _).symm
        have HV := Lib.hid hv; clear hv
        by_cases c1 : 2 < nx
        · have hd : decide ((2 : Int) < (nx : Int)) = true := decide_eq_true (by omega)
          go_wp2
          go_ret
          exact ⟨adx, nx, cx, x, rfl, hrx, hcx, HV.out, hbel⟩
        · have hd : decide ((2 : Int) < (nx : Int)) = false := decide_eq_false (by omega)
          go_wp2
          go_ret
          exact ⟨adx, nx, cx, x, rfl, hrx, hcx, HV.out, hbel⟩
      · have c3 : 0 < ny := by omega
        clear c2
        by_cases c1 : 2 < nx
        · have hok := HOK2.out (by have := HNX.out; omega)
          have hnear := hok wr _ _ x y hrx hry hcx hcy hle (by have := HNX.out; omega) (by have := HNX.out; omega) (by have := HNY.out; omega)
          have HOK3 := Lib.hid hok; clear hok
          have HNE := Lib.hid hnear; clear hnear
          have hd : decide ((2 : Int) < (nx : Int)) = true := decide_eq_true (by omega)
          go_wp2_with fail
          refine HNE.out.mono ?_
          intro e w' hN
          obtain ⟨s, t, m', rfl, hm', hat'⟩ := GcdAt.next HGC.out HMM.out (by have := HNX.out; omega) hcx hbel HOK3.out hN
          clear hN
          go_wp2
          go_roundg m'
          case measure => exact hm'
          case rel => exact hat'
        · have l1 : x.length ≤ 2 := by have := HNX.out; omega
          have l2 : y.length ≤ 2 := by have := HNY.out; omega
          have o1 := word_any hrx l1
          have o2 := word_any hry l2
          obtain ⟨X, hX⟩ : ∃ X, X = val x := ⟨_, rfl⟩
          obtain ⟨Y, hY⟩ : ∃ Y, Y = val y := ⟨_, rfl⟩
          rw [← hX] at o1
          rw [← hY] at o2
          have hXY : Nat.gcd X Y = G := by rw [hX, hY]; exact HGC.out
          clear hX hY l1 l2
          have O1 := Lib.hid o1; clear o1
          have O2 := Lib.hid o2; clear o2
          have HXY := Lib.hid hXY; clear hXY
          have hd : decide ((2 : Int) < (nx : Int)) = false := decide_eq_false (by omega)
          go_wp2_with fail
          refine O1.out.mono ?_
          rintro e w' ⟨⟨rfl, hfx⟩, rfl⟩
          go_wp2_with fail
          refine O2.out.mono ?_
          rintro e w' ⟨⟨rfl, hfy⟩, rfl⟩
          go_wp2_with fail
          refine (small_any X Y wr hfx hfy).mono ?_
          rintro e w' ⟨⟨rfl, hfg⟩, hbs⟩
          rw [HXY.out] at hfg ⊢
          go_wp2_with fail
          refine (of_any (G : Int) w' (by omega) (by unfold Fits at hfg; omega)).mono ?_
          rintro e w'' ⟨adg, ng, cg, lg, rfl, hrg, hcg, hvg, hbg⟩
          rw [Int.toNat_natCast] at hvg
          have HVG := Lib.hid hvg; clear hvg
          go_wp2
          go_ret
          exact ⟨adg, ng, cg, lg, rfl, hrg, hcg, HVG.out, hbel.trans ((hbs.mono hbel.size).trans (hbg.mono (Nat.le_trans hbel.size hbs.size)))⟩
  · obtain ⟨v, hv, hv0⟩ : ∃ v, tell (val x) (val y) = v ∧ 0 ≤ v := ⟨_, rfl, by unfold tell; rw [if_neg hlt]; split <;> decide⟩
    have hat : GcdAt w G (val y) (.slice adx nx cx) (.slice ady ny cy) w3 :=
      ⟨adx, nx, cx, x, ady, ny, cy, y, rfl, rfl, hrx3, hry3, hcx, hcy, by omega, by rw [HG.out, ← HVX.out, ← HVY.out], rfl, by have := HLX.out; have := HLA.out; omega, hbel3, fun h => HOK.out (.inl (by have := HLX.out; omega))⟩
    rw [hv]
    clear hv HOK hrx3 hry3
    go_wp2_with fail
    go_loopg [5, 6] (val y) (fun m s t wr => GcdAt w G m s t wr)
    case atStart => exact hat
    case round =>
      obtain ⟨adx, nx, cx, x, ady, ny, cy, y, rfl, rfl, hrx, hry, hcx, hcy, hle, hgcd, hm, hlx, hbel, hok⟩ := hrel
      have hnx := hrx.open.1
      have hny := hry.open.1
      have hnx2 : nx ≤ 1000 := by omega
      have hny2 : ny ≤ nx := by
        have := hcy.len (Nat.lt_of_le_of_lt hle (val_lt x hcx.1))
        omega
      have HOK2 := Lib.hid hok; clear hok
      have HNX := Lib.hid hnx; clear hnx
      have HNY := Lib.hid hny; clear hny
      have HGC := Lib.hid hgcd; clear hgcd
      have HMM := Lib.hid hm; clear hm
      clear hlx
      by_cases c2 : ny = 0
      · subst c2
        have hv : val x = G := by
          rw [← HGC.out, List.eq_nil_of_length_eq_zero HNY.out.symm]
          exact (Nat.gcd_zero_right _).symm
        have HV := Lib.hid hv; clear hv
        by_cases c1 : 2 < nx
        · have hd : decide ((2 : Int) < (nx : Int)) = true := decide_eq_true (by omega)
          go_wp2
          go_ret
          exact ⟨adx, nx, cx, x, rfl, hrx, hcx, HV.out, hbel⟩
        · have hd : decide ((2 : Int) < (nx : Int)) = false := decide_eq_false (by omega)
          go_wp2
          go_ret
          exact ⟨adx, nx, cx, x, rfl, hrx, hcx, HV.out, hbel⟩
      · have c3 : 0 < ny := by omega
        clear c2
        by_cases c1 : 2 < nx
        · have hok := HOK2.out (by have := HNX.out; omega)
          have hnear := hok wr _ _ x y hrx hry hcx hcy hle (by have := HNX.out; omega) (by have := HNX.out; omega) (by have := HNY.out; omega)
          have HOK3 := Lib.hid hok; clear hok
          have HNE := Lib.hid hnear; clear hnear
          have hd : decide ((2 : Int) < (nx : Int)) = true := decide_eq_true (by omega)
          go_wp2_with fail
          refine HNE.out.mono ?_
          intro e w' hN
          obtain ⟨s, t, m', rfl, hm', hat'⟩ := GcdAt.next HGC.out HMM.out (by have := HNX.out; omega) hcx hbel HOK3.out hN
          clear hN
          go_wp2
          go_roundg m'
          case measure => exact hm'
          case rel => exact hat'
        · have l1 : x.length ≤ 2 := by have := HNX.out; omega
          have l2 : y.length ≤ 2 := by have := HNY.out; omega
          have o1 := word_any hrx l1
          have o2 := word_any hry l2
          obtain ⟨X, hX⟩ : ∃ X, X = val x := ⟨_, rfl⟩
          obtain ⟨Y, hY⟩ : ∃ Y, Y = val y := ⟨_, rfl⟩
          rw [← hX] at o1
          rw [← hY] at o2
          have hXY : Nat.gcd X Y = G := by rw [hX, hY]; exact HGC.out
          clear hX hY l1 l2
          have O1 := Lib.hid o1; clear o1
          have O2 := Lib.hid o2; clear o2
          have HXY := Lib.hid hXY; clear hXY
          have hd : decide ((2 : Int) < (nx : Int)) = false := decide_eq_false (by omega)
          go_wp2_with fail
          refine O1.out.mono ?_
          rintro e w' ⟨⟨rfl, hfx⟩, rfl⟩
          go_wp2_with fail
          refine O2.out.mono ?_
          rintro e w' ⟨⟨rfl, hfy⟩, rfl⟩
          go_wp2_with fail
          refine (small_any X Y wr hfx hfy).mono ?_
          rintro e w' ⟨⟨rfl, hfg⟩, hbs⟩
          rw [HXY.out] at hfg ⊢
          go_wp2_with fail
          refine (of_any (G : Int) w' (by omega) (by unfold Fits at hfg; omega)).mono ?_
          rintro e w'' ⟨adg, ng, cg, lg, rfl, hrg, hcg, hvg, hbg⟩
          rw [Int.toNat_natCast] at hvg
          have HVG := Lib.hid hvg; clear hvg
          go_wp2
          go_ret
          exact ⟨adg, ng, cg, lg, rfl, hrg, hcg, HVG.out, hbel.trans ((hbs.mono hbel.size).trans (hbg.mono (Nat.le_trans hbel.size hbs.size)))⟩

end Go.Proofs.Ytpijjpjpedcbhaa
