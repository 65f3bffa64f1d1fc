/-
  A part of the proof: Blend, Gcd, BlendAll, QNumber, QSigned.
-/
import Derived.Test.YtepacminjfeliaaGreatDoorG7
import Derived.Test.YtepacminjfeliaaGreatDoorG2
import Derived.Deep.LoopGhost
import Derived.Deep.RegionHeld3
import Derived.Test.YtepacminjfeliaaGreatDoorG4
import Derived.Handy
/-
  nat.blend: so many times one number and so many times another, of other signs, where that is from 0 on and not above the first one.
-/
namespace Go.Proofs.YtepacminjfeliaaGreatDoor
open Go.RowKit

/-- A carry with its sign. -/
def sgn32 (c : Nat) : Int := if c < 2147483648 then (c : Int) else (c : Int) - 4294967296

/-- The wide sum of a place. -/
def wideSum (p q : Int) (x y c : Nat) : Int := p * (x : Int) + q * (y : Int) + sgn32 c

/-- Factors that leave room in 64 bits: of other signs, and below 2^31. -/
def Room (p q : Int) : Prop := (0 ≤ p ∧ p < 2147483648 ∧ q ≤ 0 ∧ -2147483648 < q) ∨ (p ≤ 0 ∧ -2147483648 < p ∧ 0 ≤ q ∧ q < 2147483648)

theorem prod_up {p : Int} {x : Nat} (h0 : 0 ≤ p) (h1 : p < 2147483648) (hx : x < 4294967296) : 0 ≤ p * (x : Int) ∧ p * (x : Int) ≤ 9223372030412324865 := by
  have a := Int.mul_nonneg h0 (Int.natCast_nonneg x)
  have b := Int.mul_le_mul (show p ≤ 2147483647 by omega) (show (x : Int) ≤ 4294967295 by omega) (Int.natCast_nonneg x) (by decide)
  exact ⟨a, by omega⟩

theorem prod_down {p : Int} {x : Nat} (h0 : p ≤ 0) (h1 : -2147483648 < p) (hx : x < 4294967296) : p * (x : Int) ≤ 0 ∧ -9223372030412324865 ≤ p * (x : Int) := by
  have h := prod_up (p := -p) (x := x) (by omega) (by omega) hx
  rw [Int.neg_mul] at h
  omega

theorem wide_fit {p q : Int} {x y c : Nat} (h : Room p q) (hx : x < 4294967296) (hy : y < 4294967296) (hc : c < 4294967296) :
    -9223372036854775808 ≤ wideSum p q x y c ∧ wideSum p q x y c ≤ 9223372036854775807 ∧ wrap64 (wrap64 (wrap64 (p * (x : Int)) + wrap64 (q * (y : Int))) + wrap64 (wrap32 (c : Int))) = wideSum p q x y c := by
  have e : wrap32 (c : Int) = sgn32 c ∧ -2147483648 ≤ sgn32 c ∧ sgn32 c ≤ 2147483647 := by
    unfold wrap32 sgn32; split <;> omega
  obtain ⟨e, s1, s2⟩ := e
  unfold wideSum
  rw [e]
  rcases h with ⟨p0, p1, q0, q1⟩ | ⟨p0, p1, q0, q1⟩
  · have a := prod_up p0 p1 hx
    have b := prod_down q0 q1 hy
    generalize p * (x : Int) = P at a ⊢
    generalize q * (y : Int) = Q at b ⊢
    generalize sgn32 c = s at s1 s2 ⊢
    rw [IntWalk.wrap64_in P (by omega), IntWalk.wrap64_in Q (by omega), IntWalk.wrap64_in (P + Q) (by omega), IntWalk.wrap64_in s (by omega), IntWalk.wrap64_in _ (by omega)]
    omega
  · have a := prod_down p0 p1 hx
    have b := prod_up q0 q1 hy
    generalize p * (x : Int) = P at a ⊢
    generalize q * (y : Int) = Q at b ⊢
    generalize sgn32 c = s at s1 s2 ⊢
    rw [IntWalk.wrap64_in P (by omega), IntWalk.wrap64_in Q (by omega), IntWalk.wrap64_in (P + Q) (by omega), IntWalk.wrap64_in s (by omega), IntWalk.wrap64_in _ (by omega)]
    omega

set_option maxRecDepth 100000 in
set_option maxHeartbeats 400000 in
theorem blend1_any (x y c : Nat) (p q : Int) (a1 a2 : Addr) (w : World) (h : Room p q) (hx : x < 4294967296) (hy : y < 4294967296) (hc : c < 4294967296)
    (hp : w.cell? a1 = some (.int .i64 p)) (hq : w.cell? a2 = some (.int .i64 q)) :
    Calls Tryz.prog 132 #[.int .u32 (x : Int), .int .u32 (y : Int), .int .u32 (c : Int), .pointer (some a1), .pointer (some a2)] w fun e w' =>
      e = .returned (.tuple #[.int .u32 (wideSum p q x y c % 4294967296), .int .u32 (wideSum p q x y c / 4294967296 % 4294967296)]) ∧ w = w' := by
  have hf := (wide_fit h hx hy hc).2.2
  obtain ⟨S, hS⟩ : ∃ S, S = wideSum p q x y c := ⟨_, rfl⟩
  rw [← hS] at hf ⊢
  have HF := Lib.hid hf; clear hf
  clear hS h
  go_enter Tryz.func132, Tryz.ntmps132
  go_wp2
  go_ret2
  have e := HF.out
  exact ⟨ret_two (by show wrap64 _ % 4294967296 = _; rw [e]) (by show wrap64 _ / 4294967296 % 4294967296 = _; rw [e]), rfl⟩

/-- What has been blended so far. -/
def InvBlend (p q : Int) (a b : List Nat) (k : Nat) (l : List Nat) (c : Nat) : Prop := (val l : Int) + (pw k : Int) * sgn32 c = p * (sm (at0 a) k : Int) + q * (sm (at0 b) k : Int)

theorem blend_step (p q : Int) (h : Room p q) (a b : List Nat) (ha : Lim a) (hb : Lim b) (a1 a2 : Addr) (k : Nat) (l : List Nat) (c : Nat) (w : World) (hl : l.length = k) (hi : InvBlend p q a b k l c) (hc : c < 4294967296)
    (hp : w.cell? a1 = some (.int .i64 p)) (hq : w.cell? a2 = some (.int .i64 q)) :
    Calls Tryz.prog 132 (#[.int .u32 (at0 a k : Int), .int .u32 (at0 b k : Int), .int .u32 (c : Int)] ++ #[.pointer (some a1), .pointer (some a2)]) w (Stepped (InvBlend p q a b) k l w) := by
  have hx := at0_lt ha k
  have hy := at0_lt hb k
  obtain ⟨f1, f2, _⟩ := wide_fit h hx hy hc
  refine (blend1_any (at0 a k) (at0 b k) c p q a1 a2 w h hx hy hc hp hq).mono ?_
  rintro e w' ⟨rfl, rfl⟩
  have hS : wideSum p q (at0 a k) (at0 b k) c = p * (at0 a k : Int) + q * (at0 b k : Int) + sgn32 c := rfl
  generalize wideSum p q (at0 a k) (at0 b k) c = S at f1 f2 hS ⊢
  obtain ⟨o, ho⟩ : ∃ o : Nat, S % 4294967296 = (o : Int) := ⟨(S % 4294967296).toNat, by omega⟩
  obtain ⟨c', hc'⟩ : ∃ c' : Nat, S / 4294967296 % 4294967296 = (c' : Int) := ⟨(S / 4294967296 % 4294967296).toNat, by omega⟩
  refine ⟨⟨o, c', by rw [ho, hc'], by omega, by omega, ?_⟩, rfl⟩
  have hs : sgn32 c' = S / 4294967296 := by unfold sgn32; split <;> omega
  have hSo : (o : Int) + 4294967296 * sgn32 c' = S := by rw [hs]; omega
  unfold InvBlend at hi ⊢
  rw [val_snoc, hl]
  have e1 : ((pw (k + 1) : Nat) : Int) = 4294967296 * (pw k : Int) := by rw [pw_succ, Int.natCast_mul]; rfl
  have e2 : ((sm (at0 a) (k + 1) : Nat) : Int) = (sm (at0 a) k : Int) + (pw k : Int) * (at0 a k : Int) := by
    show ((sm (at0 a) k + pw k * at0 a k : Nat) : Int) = _
    rw [Int.natCast_add, Int.natCast_mul]
  have e3 : ((sm (at0 b) (k + 1) : Nat) : Int) = (sm (at0 b) k : Int) + (pw k : Int) * (at0 b k : Int) := by
    show ((sm (at0 b) k + pw k * at0 b k : Nat) : Int) = _
    rw [Int.natCast_add, Int.natCast_mul]
  rw [e1, e2, e3, Int.natCast_add, Int.natCast_mul, Int.mul_add, Int.mul_add]
  have m := congrArg ((pw k : Int) * ·) hSo
  have m2 := congrArg ((pw k : Int) * ·) hS
  simp only [Int.mul_add] at m m2
  rw [Int.mul_left_comm (pw k : Int) p, Int.mul_left_comm (pw k : Int) q] at m2
  rw [Int.mul_left_comm (pw k : Int) 4294967296] at m
  rw [Int.mul_assoc]
  omega

end Go.Proofs.YtepacminjfeliaaGreatDoor

/-
  nat.word, nat.smallGcd, nat.Gcd: the greatest number that divides both. No condition but the lists' lengths.
-/
namespace Go.Proofs.YtepacminjfeliaaGreatDoor
open Go.RowKit

theorem limb_one {w : World} {v : Value} {l : List Nat} (h : Rd w v l) (hl : l.length ≤ 1000000) :
    Calls Tryz.prog 107 #[v, .int .i64 1] w fun e w' => e = .returned (.int .u32 (at0 l 1 : Int)) ∧ w = w' := limb_any h hl 1
theorem limb_zero {w : World} {v : Value} {l : List Nat} (h : Rd w v l) (hl : l.length ≤ 1000000) :
    Calls Tryz.prog 107 #[v, .int .i64 0] w fun e w' => e = .returned (.int .u32 (at0 l 0 : Int)) ∧ w = w' := limb_any h hl 0

theorem two_limbs {l : List Nat} (h : l.length ≤ 2) : val l = at0 l 1 * 4294967296 + at0 l 0 := by
  rw [← sm_all l (k := 2) h]
  simp only [sm, pw, Nat.zero_add, Nat.mul_one, Nat.one_mul]
  omega

/-- Bounds of 64 bits, behind a name. -/
def Fits (n : Nat) : Prop := n < 18446744073709551616

set_option maxRecDepth 100000 in
set_option maxHeartbeats 400000 in
theorem word_any {w : World} {v : Value} {l : List Nat} (h : Rd w v l) (hl : l.length ≤ 2) :
    Calls Tryz.prog 77 #[v] w fun e w' => (e = .returned (.int .u64 (val l : Int)) ∧ Fits (val l)) ∧ w = w' := by
  have e0 := two_limbs hl
  have l1 := at0_lt h.lim 1
  have l2 := at0_lt h.lim 0
  have o1 := limb_one h (by omega)
  have o2 := limb_zero h (by omega)
  obtain ⟨x, hx⟩ : ∃ x, x = at0 l 1 := ⟨_, rfl⟩
  obtain ⟨y, hy⟩ : ∃ x, x = at0 l 0 := ⟨_, rfl⟩
  rw [← hx] at o1 e0 l1
  rw [← hy] at o2 e0 l2
  obtain ⟨T, hT⟩ : ∃ T, T = val l := ⟨_, rfl⟩
  rw [← hT] at e0 ⊢
  have hf : Fits T := by unfold Fits; omega
  have e1 : bits .or .u64 ((x : Int) * 4294967296) (y : Int) = (T : Int) := by
    rw [show (x : Int) * 4294967296 = ((x * 4294967296 : Nat) : Int) from by omega, u64_or_nat _ _ (by omega) (by omega), nat_join 32 _ _ (Nat.mul_mod_left _ _) l2, e0]
  clear hx hy hT
  have E0 := Lib.hid e0; clear e0
  have O1 := Lib.hid o1; clear o1
  have O2 := Lib.hid o2; clear o2
  go_enter Tryz.func77, Tryz.ntmps77
  go_wp2_with fail
  refine O1.out.mono ?_
  rintro e w' ⟨rfl, rfl⟩
  go_wp2_with fail
  refine O2.out.mono ?_
  rintro e w' ⟨rfl, rfl⟩
  go_wp2
  go_ret
  exact ⟨⟨rfl, hf⟩, rfl⟩

set_option maxRecDepth 100000 in
set_option maxHeartbeats 400000 in
theorem small_any (x0 y0 : Nat) (w : World) (hx : Fits x0) (hy : Fits y0) :
    Calls Tryz.prog 76 #[.int .u64 (x0 : Int), .int .u64 (y0 : Int)] w fun e w' => (e = .returned (.int .u64 (Nat.gcd x0 y0 : Int)) ∧ Fits (Nat.gcd x0 y0)) ∧ Below w.heap.size w w' := by
  obtain ⟨G, hG⟩ : ∃ G, G = Nat.gcd x0 y0 := ⟨_, rfl⟩
  rw [← hG]
  have HG := Lib.hid hG; clear hG
  go_enter Tryz.func76, Tryz.ntmps76
  go_wp2
  go_loopw [0, 1] (fun s t wr => ∃ p q : Nat, s = .int .u64 p ∧ t = .int .u64 q ∧ Fits p ∧ Fits q ∧ Hid (Nat.gcd p q = G) ∧ Below w.heap.size w wr) (fun _ t _ => (intOf t).toNat)
  case atStart => exact ⟨x0, y0, rfl, rfl, hx, hy, HG.out.symm, Below.refl _ _⟩
  case round =>
    obtain ⟨p, q, rfl, rfl, hp, hq, HPQ, hbel⟩ := hrel
    by_cases h0 : 0 < q
    · go_wp2_with fail
      go_quiet (fail)
      go_wp2
      go_roundw
      case rel => exact ⟨q, p % q, rfl, rfl, hq, Nat.lt_of_le_of_lt (Nat.mod_le _ _) hp, by rw [Nat.gcd_comm, ← Nat.gcd_rec, Nat.gcd_comm]; exact HPQ.out, draw_below hbel _⟩
      case measure =>
        show ((p % q : Nat) : Int).toNat < (q : Int).toNat
        rw [Int.toNat_natCast, Int.toNat_natCast]
        exact Nat.mod_lt _ h0
    · obtain rfl : q = 0 := by omega
      go_wp2
      go_ret
      have e : p = G := by rw [← HPQ.out, Nat.gcd_zero_right]
      subst e
      exact ⟨⟨rfl, hp⟩, hbel⟩

/-- What nearer answers of numbers worth X and Y. -/
def Neared (w : World) (X Y : Nat) (e : Ending) (w' : World) : Prop :=
  ∃ ad n cap l ad2 n2 cap2 l2, e = .returned (.tuple #[.slice ad n cap, .slice ad2 n2 cap2]) ∧ Rd w' (.slice ad n cap) l ∧ Rd w' (.slice ad2 n2 cap2) l2 ∧ Can l ∧ Can l2 ∧ val l2 ≤ val l ∧ val l ≤ X ∧ val l2 < Y ∧ Nat.gcd (val l) (val l2) = Nat.gcd X Y ∧ Below w.heap.size w w'

/-- What Gcd asks of nearer, where one of both has more than two limbs. -/
def NearOk : Prop := ∀ (w : World) (vx vy : Value) (x y : List Nat), Rd w vx x → Rd w vy y → Can x → Can y → val y ≤ val x → 2 < x.length → x.length ≤ 1000 → 0 < y.length → Calls Tryz.prog 75 #[vx, vy] w (Neared w (val x) (val y))

/-- In Gcd's loop. -/
def GcdAt (w : World) (G m : Nat) (s t : Value) (wr : World) : Prop :=
  ∃ adx nx cx x ady ny cy y, s = .slice adx nx cx ∧ t = .slice ady ny cy ∧ Rd wr (.slice adx nx cx) x ∧ Rd wr (.slice ady ny cy) y ∧ Can x ∧ Can y ∧ val y ≤ val x ∧ Nat.gcd (val x) (val y) = G ∧ val y = m ∧ x.length ≤ 1000 ∧ Below w.heap.size w wr ∧ (2 < x.length → NearOk)

theorem GcdAt.next {w wr w' : World} {G m : Nat} {x y : List Nat} {e : Ending} (hg : Nat.gcd (val x) (val y) = G) (hm : val y = m) (hlx : x.length ≤ 1000) (hx : Can x) (hbel : Below w.heap.size w wr) (hok : NearOk) (h : Neared wr (val x) (val y) e w') :
    ∃ s t m', e = .returned (.tuple #[s, t]) ∧ m' < m ∧ GcdAt w G m' s t w' := by
  obtain ⟨ad, n, cap, l, ad2, n2, cap2, l2, rfl, r1, r2, c1, c2, hle, hX, hY, hgcd, hb⟩ := h
  refine ⟨_, _, val l2, rfl, by omega, ad, n, cap, l, ad2, n2, cap2, l2, rfl, rfl, r1, r2, c1, c2, hle, hgcd.trans hg, rfl, ?_, hbel.trans (hb.mono hbel.size), fun _ => hok⟩
  have := c1.len (k := x.length) (Nat.lt_of_le_of_lt hX (val_lt x hx.1))
  omega

set_option maxRecDepth 100000 in
set_option maxHeartbeats 2000000 in
theorem gcd_walk {w : World} {va vb : Value} {a b : List Nat} (ha : Rd w va a) (hb : Rd w vb b) (la : a.length ≤ 1000) (lb : b.length ≤ 1000) (hok : 2 < a.length ∨ 2 < b.length → NearOk) :
    Calls Tryz.prog 54 #[va, vb] w (Made w (Nat.gcd (val a) (val b))) := by
  have HOK := Lib.hid hok; clear hok
  obtain ⟨G, hG⟩ : ∃ G, G = Nat.gcd (val a) (val b) := ⟨_, rfl⟩
  rw [← hG]
  have HG := Lib.hid hG; clear hG
  have HLA := Lib.hid la; clear la
  have HLB := Lib.hid lb; clear lb
  go_enter Tryz.func54, Tryz.ntmps54
  go_wp2_with fail
  refine (norm_any ha (by have := HLA.out; omega)).mono ?_
  rintro e w1 ⟨adx, nx, cx, x, rfl, hrx, hcx, hvx, hb1⟩
  have HVX := Lib.hid hvx; clear hvx
  have hb' := hb.below hb1
  go_wp2_with fail
  refine (norm_any hb' (by have := HLB.out; omega)).mono ?_
  rintro e w2 ⟨ady, ny, cy, y, rfl, hry, hcy, hvy, hb2⟩
  have HVY := Lib.hid hvy; clear hvy
  have hrx2 := hrx.below hb2
  have hlx : x.length ≤ a.length := hcx.len (by rw [HVX.out]; exact val_lt a ha.lim)
  have hly : y.length ≤ b.length := hcy.len (by rw [HVY.out]; exact val_lt b hb.lim)
  have HLX := Lib.hid hlx; clear hlx
  have HLY := Lib.hid hly; clear hly
  clear hrx hb'
  have hbel2 : Below w.heap.size w w2 := hb1.trans (hb2.mono hb1.size)
  go_wp2_with fail
  refine (cmp_any hrx2 hry (by have := HLX.out; have := HLA.out; omega) (by have := HLY.out; have := HLB.out; omega)).mono ?_
  rintro e w3 ⟨rfl, hb3⟩
  have hrx3 := hrx2.below hb3
  have hry3 := hry.below hb3
  have hbel3 : Below w.heap.size w w3 := hbel2.trans (hb3.mono hbel2.size)
  clear hrx2 hry hbel2
  have key : ∀ m s t, GcdAt w G m s t w3 → GcdAt w G m s t w3 := fun _ _ _ h => h
  by_cases hlt : val x < val y
  · have e1 := Lib.hid (tell_lt hlt)
    have hat : GcdAt w G (val x) (.slice ady ny cy) (.slice adx nx cx) w3 :=
      ⟨ady, ny, cy, y, adx, nx, cx, x, rfl, rfl, hry3, hrx3, hcy, hcx, by omega, by rw [HG.out, ← HVX.out, ← HVY.out, Nat.gcd_comm], rfl, by have := HLY.out; have := HLB.out; omega, hbel3, fun h => HOK.out (.inr (by have := HLY.out; omega))⟩
    rw [e1.out]
    clear HOK hrx3 hry3
    go_wp2_with fail
    go_loopg [5, 6] (val x) (fun m s t wr => GcdAt w G m s t wr)
    case atStart => exact hat
    case round =>
      obtain ⟨adx, nx, cx, x, ady, ny, cy, y, rfl, rfl, hrx, hry, hcx, hcy, hle, hgcd, hm, hlx, hbel, hok⟩ := hrel
      have hnx := hrx.open.1
      have hny := hry.open.1
      have hnx2 : nx ≤ 1000 := by omega
      have hny2 : ny ≤ nx := by
        have := hcy.len (Nat.lt_of_le_of_lt hle (val_lt x hcx.1))
        omega
      have HOK2 := Lib.hid hok; clear hok
      have HNX := Lib.hid hnx; clear hnx
      have HNY := Lib.hid hny; clear hny
      have HGC := Lib.hid hgcd; clear hgcd
      have HMM := Lib.hid hm; clear hm
      clear hlx
      by_cases c2 : ny = 0
      · subst c2
        have hv : val x = G := by
          rw [← HGC.out, List.eq_nil_of_length_eq_zero HNY.out.symm]
          exact (Nat.gcd_zero_right _).symm
        have HV := Lib.hid hv; clear hv
        by_cases c1 : 2 < nx
        · have hd : decide ((2 : Int) < (nx : Int)) = true := decide_eq_true (by omega)
          go_wp2
          go_ret
          exact ⟨adx, nx, cx, x, rfl, hrx, hcx, HV.out, hbel⟩
        · have hd : decide ((2 : Int) < (nx : Int)) = false := decide_eq_false (by omega)
          go_wp2
          go_ret
          exact ⟨adx, nx, cx, x, rfl, hrx, hcx, HV.out, hbel⟩
      · have c3 : 0 < ny := by omega
        clear c2
        by_cases c1 : 2 < nx
        · have hok := HOK2.out (by have := HNX.out; omega)
          have hnear := hok wr _ _ x y hrx hry hcx hcy hle (by have := HNX.out; omega) (by have := HNX.out; omega) (by have := HNY.out; omega)
          have HOK3 := Lib.hid hok; clear hok
          have HNE := Lib.hid hnear; clear hnear
          have hd : decide ((2 : Int) < (nx : Int)) = true := decide_eq_true (by omega)
          go_wp2_with fail
          refine HNE.out.mono ?_
          intro e w' hN
          obtain ⟨s, t, m', rfl, hm', hat'⟩ := GcdAt.next HGC.out HMM.out (by have := HNX.out; omega) hcx hbel HOK3.out hN
          clear hN
          go_wp2
          go_roundg m'
          case measure => exact hm'
          case rel => exact hat'
        · have l1 : x.length ≤ 2 := by have := HNX.out; omega
          have l2 : y.length ≤ 2 := by have := HNY.out; omega
          have o1 := word_any hrx l1
          have o2 := word_any hry l2
          obtain ⟨X, hX⟩ : ∃ X, X = val x := ⟨_, rfl⟩
          obtain ⟨Y, hY⟩ : ∃ Y, Y = val y := ⟨_, rfl⟩
          rw [← hX] at o1
          rw [← hY] at o2
          have hXY : Nat.gcd X Y = G := by rw [hX, hY]; exact HGC.out
          clear hX hY l1 l2
          have O1 := Lib.hid o1; clear o1
          have O2 := Lib.hid o2; clear o2
          have HXY := Lib.hid hXY; clear hXY
          have hd : decide ((2 : Int) < (nx : Int)) = false := decide_eq_false (by omega)
          go_wp2_with fail
          refine O1.out.mono ?_
          rintro e w' ⟨⟨rfl, hfx⟩, rfl⟩
          go_wp2_with fail
          refine O2.out.mono ?_
          rintro e w' ⟨⟨rfl, hfy⟩, rfl⟩
          go_wp2_with fail
          refine (small_any X Y wr hfx hfy).mono ?_
          rintro e w' ⟨⟨rfl, hfg⟩, hbs⟩
          rw [HXY.out] at hfg ⊢
          go_wp2_with fail
          refine (of_any (G : Int) w' (by omega) (by unfold Fits at hfg; omega)).mono ?_
          rintro e w'' ⟨adg, ng, cg, lg, rfl, hrg, hcg, hvg, hbg⟩
          rw [Int.toNat_natCast] at hvg
          have HVG := Lib.hid hvg; clear hvg
          go_wp2
          go_ret
          exact ⟨adg, ng, cg, lg, rfl, hrg, hcg, HVG.out, hbel.trans ((hbs.mono hbel.size).trans (hbg.mono (Nat.le_trans hbel.size hbs.size)))⟩
  · obtain ⟨v, hv, hv0⟩ : ∃ v, tell (val x) (val y) = v ∧ 0 ≤ v := ⟨_, rfl, by unfold tell; rw [if_neg hlt]; split <;> decide⟩
    have hat : GcdAt w G (val y) (.slice adx nx cx) (.slice ady ny cy) w3 :=
      ⟨adx, nx, cx, x, ady, ny, cy, y, rfl, rfl, hrx3, hry3, hcx, hcy, by omega, by rw [HG.out, ← HVX.out, ← HVY.out], rfl, by have := HLX.out; have := HLA.out; omega, hbel3, fun h => HOK.out (.inl (by have := HLX.out; omega))⟩
    rw [hv]
    clear hv HOK hrx3 hry3
    go_wp2_with fail
    go_loopg [5, 6] (val y) (fun m s t wr => GcdAt w G m s t wr)
    case atStart => exact hat
    case round =>
      obtain ⟨adx, nx, cx, x, ady, ny, cy, y, rfl, rfl, hrx, hry, hcx, hcy, hle, hgcd, hm, hlx, hbel, hok⟩ := hrel
      have hnx := hrx.open.1
      have hny := hry.open.1
      have hnx2 : nx ≤ 1000 := by omega
      have hny2 : ny ≤ nx := by
        have := hcy.len (Nat.lt_of_le_of_lt hle (val_lt x hcx.1))
        omega
      have HOK2 := Lib.hid hok; clear hok
      have HNX := Lib.hid hnx; clear hnx
      have HNY := Lib.hid hny; clear hny
      have HGC := Lib.hid hgcd; clear hgcd
      have HMM := Lib.hid hm; clear hm
      clear hlx
      by_cases c2 : ny = 0
      · subst c2
        have hv : val x = G := by
          rw [← HGC.out, List.eq_nil_of_length_eq_zero HNY.out.symm]
          exact (Nat.gcd_zero_right _).symm
        have HV := Lib.hid hv; clear hv
        by_cases c1 : 2 < nx
        · have hd : decide ((2 : Int) < (nx : Int)) = true := decide_eq_true (by omega)
          go_wp2
          go_ret
          exact ⟨adx, nx, cx, x, rfl, hrx, hcx, HV.out, hbel⟩
        · have hd : decide ((2 : Int) < (nx : Int)) = false := decide_eq_false (by omega)
          go_wp2
          go_ret
          exact ⟨adx, nx, cx, x, rfl, hrx, hcx, HV.out, hbel⟩
      · have c3 : 0 < ny := by omega
        clear c2
        by_cases c1 : 2 < nx
        · have hok := HOK2.out (by have := HNX.out; omega)
          have hnear := hok wr _ _ x y hrx hry hcx hcy hle (by have := HNX.out; omega) (by have := HNX.out; omega) (by have := HNY.out; omega)
          have HOK3 := Lib.hid hok; clear hok
          have HNE := Lib.hid hnear; clear hnear
          have hd : decide ((2 : Int) < (nx : Int)) = true := decide_eq_true (by omega)
          go_wp2_with fail
          refine HNE.out.mono ?_
          intro e w' hN
          obtain ⟨s, t, m', rfl, hm', hat'⟩ := GcdAt.next HGC.out HMM.out (by have := HNX.out; omega) hcx hbel HOK3.out hN
          clear hN
          go_wp2
          go_roundg m'
          case measure => exact hm'
          case rel => exact hat'
        · have l1 : x.length ≤ 2 := by have := HNX.out; omega
          have l2 : y.length ≤ 2 := by have := HNY.out; omega
          have o1 := word_any hrx l1
          have o2 := word_any hry l2
          obtain ⟨X, hX⟩ : ∃ X, X = val x := ⟨_, rfl⟩
          obtain ⟨Y, hY⟩ : ∃ Y, Y = val y := ⟨_, rfl⟩
          rw [← hX] at o1
          rw [← hY] at o2
          have hXY : Nat.gcd X Y = G := by rw [hX, hY]; exact HGC.out
          clear hX hY l1 l2
          have O1 := Lib.hid o1; clear o1
          have O2 := Lib.hid o2; clear o2
          have HXY := Lib.hid hXY; clear hXY
          have hd : decide ((2 : Int) < (nx : Int)) = false := decide_eq_false (by omega)
          go_wp2_with fail
          refine O1.out.mono ?_
          rintro e w' ⟨⟨rfl, hfx⟩, rfl⟩
          go_wp2_with fail
          refine O2.out.mono ?_
          rintro e w' ⟨⟨rfl, hfy⟩, rfl⟩
          go_wp2_with fail
          refine (small_any X Y wr hfx hfy).mono ?_
          rintro e w' ⟨⟨rfl, hfg⟩, hbs⟩
          rw [HXY.out] at hfg ⊢
          go_wp2_with fail
          refine (of_any (G : Int) w' (by omega) (by unfold Fits at hfg; omega)).mono ?_
          rintro e w'' ⟨adg, ng, cg, lg, rfl, hrg, hcg, hvg, hbg⟩
          rw [Int.toNat_natCast] at hvg
          have HVG := Lib.hid hvg; clear hvg
          go_wp2
          go_ret
          exact ⟨adg, ng, cg, lg, rfl, hrg, hcg, HVG.out, hbel.trans ((hbs.mono hbel.size).trans (hbg.mono (Nat.le_trans hbel.size hbs.size)))⟩

end Go.Proofs.YtepacminjfeliaaGreatDoor

/-
  nat.blend, whole, and nat.nearer: two numbers further on in Euclid's row of two others.
-/
namespace Go.Proofs.YtepacminjfeliaaGreatDoor
open Go.RowKit

/-- What the blend comes to. -/
theorem blend_end {p q : Int} {a b l : List Nat} {n c R : Nat} (hinv : InvBlend p q a b n l c) (hl : l.length = n) (hL : Lim l) (ha : a.length ≤ n) (hb : b.length ≤ n)
    (hR : (R : Int) = p * (val a : Int) + q * (val b : Int)) (hlt : R < pw n) : val l = R := by
  unfold InvBlend at hinv
  rw [sm_all a ha, sm_all b hb, ← hR] at hinv
  have v := val_lt l hL
  rw [hl] at v
  have hs : sgn32 c = 0 := by
    rcases Int.lt_trichotomy (sgn32 c) 0 with h | h | h
    · have h1 : (pw n : Int) * sgn32 c ≤ (pw n : Int) * (-1) := Int.mul_le_mul_of_nonneg_left (by omega) (Int.natCast_nonneg _)
      omega
    · exact h
    · have h1 : (pw n : Int) * 1 ≤ (pw n : Int) * sgn32 c := Int.mul_le_mul_of_nonneg_left (by omega) (Int.natCast_nonneg _)
      omega
  rw [hs, Int.mul_zero] at hinv
  omega

set_option maxRecDepth 100000 in
set_option maxHeartbeats 1000000 in
theorem blend_any {w : World} {vx vy : Value} {x y : List Nat} {p q : Int} {R : Nat} (rx : Rd w vx x) (ry : Rd w vy y) (lx : x.length ≤ 1000) (ly : y.length ≤ x.length) (h : Room p q) (hR : (R : Int) = p * (val x : Int) + q * (val y : Int)) (hlt : R < pw x.length) :
    Calls Tryz.prog 106 #[vx, vy, .int .i64 p, .int .i64 q] w (Made w R) := by
  obtain ⟨i0, hi, hz0, hz1, hz2⟩ := info_parts Tryz.info36
  obtain ⟨adx, n, cx, rfl, -⟩ := id rx
  obtain ⟨hn, hcx, hlx, -⟩ := rx.open
  rw [← hn] at lx ly hlt
  have HN := Lib.hid hn; clear hn
  have HR := Lib.hid hR; clear hR
  have HLT := Lib.hid hlt; clear hlt
  have key : ∀ (W w1 : World) (a1 a2 : Addr) (G : Nat), W.heap.size = G → Below w.heap.size w W → a1.block < W.heap.size → a2.block < W.heap.size → W.cell? a1 = some (.int .i64 p) → W.cell? a2 = some (.int .i64 q) → w.heap.size ≤ W.heap.size →
      w1.ownsRow G 75 1 (.slice (some ⟨G, 0, none⟩) n n) n (madeCells #[Value.int .u32 0] n).toList → W.grownBy w1 none →
      Calls Tryz.prog 86 #[.slice (some ⟨G, 0, none⟩) n n, .slice adx n cx, vy, .func (.func 132) #[] #[.pointer (some a1), .pointer (some a2)]] w1 fun e w2 => ∃ c l, e = .returned (.int .u32 ((c : Nat) : Int)) ∧ Blk w2 G l ∧ Lim l ∧ l.length = n ∧ val l = R ∧ Below w.heap.size w w2 := by
    intro W w1 a1 a2 G hG hW hp1 hp2 hc1 hc2 hsz hown hgrow
    subst hG
    have hblk := made_row hown
    have hold : ∀ l w', Sta w1 W.heap.size 0 (List.replicate n 0) l w' → Below w.heap.size w w' := fun l w' h => hW.trans ((grown_below hgrow h.1 (Nat.le_refl _)).mono hsz)
    have hq1 : ∀ l w', Sta w1 W.heap.size 0 (List.replicate n 0) l w' → w'.cell? a1 = some (.int .i64 p) := fun l w' h => ((grown_below hgrow h.1 (Nat.le_refl _)).cell hp1).trans hc1
    have hq2 : ∀ l w', Sta w1 W.heap.size 0 (List.replicate n 0) l w' → w'.cell? a2 = some (.int .i64 q) := fun l w' h => ((grown_below hgrow h.1 (Nat.le_refl _)).cell hp2).trans hc2
    refine (along_any w1 W.heap.size 0 n n (List.replicate n 0) _ _ 132 #[.pointer (some a1), .pointer (some a2)] (at0 x) (at0 y) (InvBlend p q x y) (by simp) (Nat.le_refl _) hblk (by omega)
      (fun k l w' _ _ hs => limb_any (rx.below (hold l w' hs)) (by have := HN.out; omega) k) (fun k l w' _ _ hs => limb_any (ry.below (hold l w' hs)) (by omega) k)
      (fun k l c w' _ hl hs hinv hc => blend_step p q h x y hlx ry.lim a1 a2 k l c w' hl hinv hc (hq1 l w' hs) (hq2 l w' hs)) (by simp [InvBlend, val, sm, sgn32]) (fun _ _ => by simp [go_sem])).mono ?_
    rintro e w2 ⟨l, c, rfl, hl, hc, hL, hinv, hsta⟩
    have hbel := hold l w2 hsta
    have h4 := hsta.2
    rw [put_whole hl] at h4
    exact ⟨c, l, rfl, h4, hL, hl, blend_end hinv hl hL (by have := HN.out; omega) ly HR.out HLT.out, hbel⟩
  have KEY := Lib.hid key; clear key
  clear rx ry h
  go_enter Tryz.func106, Tryz.ntmps106
  go_wp2_with (at_make; refine wpList_make_full _ rfl _ _ 38 rfl (w.heap.size + 1 + 1) 75 i0 (.int .u32 0) 1 Tryz.underlying38 hi hz0 hz1 _ _ _ _ n rfl rfl (by omega) (by omega) (by rw [hz2]; omega) (by unfold maxLen; omega) (by simp) ?_)
  intro w1 hown hgrow
  have HO := Lib.hid hown; clear hown
  have HG := Lib.hid hgrow; clear hgrow
  go_wp2_with fail
  obtain ⟨q1, q2⟩ := two_cells w (.int .i64 p) (.int .i64 q) 2 2
  refine (KEY.out _ w1 ⟨w.heap.size, 0, none⟩ ⟨w.heap.size + 1, 0, none⟩ (w.heap.size + 1 + 1) (by simp) (onto (alb w (.cells #[.int .i64 p] 2)) (alb _ (.cells #[.int .i64 q] 2))) (by simp; omega) (by simp) q1 q2 (by simp; omega) HO.out HG.out).mono ?_
  rintro e w2 ⟨c, l, rfl, hb, hL, hl, hv, hbel⟩
  have HV := Lib.hid hv; clear hv
  have HL := Lib.hid hl; clear hl
  clear q1 q2
  go_wp2_with fail
  refine (short_any (hb.rd hL HL.out (Nat.le_refl _)) (by have := HL.out; omega)).mono ?_
  rintro e w3 ⟨⟨ad, k, cap, l', rfl, hr', hcan, hv'⟩, rfl⟩
  have HV' := Lib.hid hv'; clear hv'
  go_wp2
  go_ret
  exact ⟨ad, k, cap, l', rfl, hr', hcan, HV'.out.trans HV.out, hbel⟩

/-- The two numbers that the factors make. -/
theorem near_final {even : Bool} {X Y T x y A B C D : Nat} {a b c d : Int} (h : Near even (X / T) (Y / T) x y A B C D) (s : Signed even A B C D a b c d) (hb : b ≠ 0) (hT : 0 < T) :
    ∃ X' Y' : Nat, (X' : Int) = a * (X : Int) + b * (Y : Int) ∧ (Y' : Int) = c * (X : Int) + d * (Y : Int) ∧ Room a b ∧ Room c d ∧ Y' ≤ X' ∧ X' ≤ X ∧ Y' < Y ∧ Nat.gcd X' Y' = Nat.gcd X Y := by
  have sA := h.sA
  have sB := h.sB
  have sC := h.sC
  have sD := h.sD
  have hB : B ≠ 0 := by
    intro e
    unfold Signed at s
    cases even with
    | true => simp only [if_true] at s; exact hb (by rw [s.2.1, e]; rfl)
    | false => simp only [Bool.false_eq_true, if_false] at s; exact hb (by rw [s.2.1, e]; rfl)
  obtain ⟨X', Y', hlt, he⟩ := h.whole hB hT rfl rfl
  obtain ⟨k1, k2, k3⟩ := h.gcd he
  obtain ⟨hC, hD⟩ := h.pos hB
  have u1 : X' ≤ D * X' := Nat.le_mul_of_pos_left _ hD
  have u2 : X' ≤ C * X' := Nat.le_mul_of_pos_left _ hC
  refine ⟨X', Y', ?_, ?_, ?_, ?_, by omega, by omega, by omega, k3⟩
  all_goals
    unfold Signed at s
    cases even with
    | true =>
      simp only [if_true] at s he
      obtain ⟨rfl, rfl, rfl, rfl⟩ := s
      have f1 := congrArg (fun n : Nat => (n : Int)) he.1
      have f2 := congrArg (fun n : Nat => (n : Int)) he.2
      simp only [Int.natCast_add, Int.natCast_mul] at f1 f2
      first
        | (rw [Int.neg_mul]; omega)
        | (unfold Room; omega)
    | false =>
      simp only [Bool.false_eq_true, if_false] at s he
      obtain ⟨rfl, rfl, rfl, rfl⟩ := s
      have f1 := congrArg (fun n : Nat => (n : Int)) he.1
      have f2 := congrArg (fun n : Nat => (n : Int)) he.2
      simp only [Int.natCast_add, Int.natCast_mul] at f1 f2
      first
        | (rw [Int.neg_mul]; omega)
        | (unfold Room; omega)

set_option maxRecDepth 100000 in
set_option maxHeartbeats 2000000 in
theorem nearer_any (w : World) (vx vy : Value) (x y : List Nat) (rx : Rd w vx x) (ry : Rd w vy y) (cx : Can x) (cy : Can y) (hle : val y ≤ val x) (h2 : 2 < x.length) (hlx : x.length ≤ 1000) (h0 : 0 < y.length) :
    Calls Tryz.prog 75 #[vx, vy] w (Neared w (val x) (val y)) := by
  obtain ⟨ady, ny, capy, rfl, -⟩ := id ry
  obtain ⟨m, hm⟩ : ∃ m, x.length = m + 3 := ⟨x.length - 3, by omega⟩
  have hly : y.length ≤ x.length := cy.len (Nat.lt_of_le_of_lt hle (val_lt x cx.1))
  have hy0 : 0 < val y := can_pos cy (k := y.length - 1) (by omega)
  have HLY := Lib.hid hly; clear hly
  have HM := Lib.hid hm; clear hm
  go_enter Tryz.func75, Tryz.ntmps75
  go_wp2_with fail
  refine (heads_any rx ry cx HM.out (by have := HM.out; omega) (by have := HM.out; have := HLY.out; omega) hle).mono ?_
  rintro e w1 ⟨T, hT, rfl, hfit, hb1⟩
  have rx1 := rx.below hb1
  have ry1 := ry.below hb1
  go_wp2_with fail
  refine (ahead_any (val x / T) (val y / T) w1 (Nat.div_le_div_right hle) hfit).mono ?_
  rintro e w2 ⟨even, A, B, C, D, x', y', a, b, c, d, rfl, hn, hs, hb2⟩
  have rx2 := rx1.below hb2
  have ry2 := ry1.below hb2
  have HB2 := onto hb1 hb2
  clear hb1 hb2 rx1 ry1
  have HN := Lib.hid hn; clear hn
  have HS := Lib.hid hs; clear hs
  by_cases hb : b = 0
  · subst hb
    go_wp2_with fail
    refine (div_yes (rx2.below (alb _ _)) (ry2.below (alb _ _)) hlx (by have := HLY.out; omega) hy0).mono ?_
    rintro e w3 ⟨adq, nq, cq, lq, adr, nr, cr, lr, rfl, rq, kq, vq, rr, kr, vr, hb⟩
    replace hb := past hb
    have ry3 := ry2.below hb
    have HB3 := onto HB2 hb
    have hlt : val lr < val y := by rw [vr]; exact Nat.mod_lt _ hy0
    have hg : Nat.gcd (val y) (val lr) = Nat.gcd (val x) (val y) := by rw [vr, Nat.gcd_comm, ← Nat.gcd_rec, Nat.gcd_comm]
    have HG := Lib.hid hg; clear hg
    clear vr vq hb
    go_wp2
    go_ret2
    exact ⟨_, _, _, y, _, _, _, lr, rfl, ry3, rr, cy, kr, by omega, hle, hlt, HG.out, HB3⟩
  · have hb1 : (b == 0) = false := by simpa using hb
    have HF := Lib.hid (near_final HN.out HS.out hb hT)
    have HB := Lib.hid hb; clear hb
    go_wp2_with fail
    have f4 : Four (w2.alloc (.cells #[.int .i64 a, .int .i64 b, .int .i64 c, .int .i64 d] 119)) w2.heap.size a b c d := heap_alloc_new _ _
    have rxW := rx2.below (alb w2 (.cells #[.int .i64 a, .int .i64 b, .int .i64 c, .int .i64 d] 119))
    have ryW := ry2.below (alb w2 (.cells #[.int .i64 a, .int .i64 b, .int .i64 c, .int .i64 d] 119))
    have HBW := onto HB2 (alb w2 (.cells #[.int .i64 a, .int .i64 b, .int .i64 c, .int .i64 d] 119))
    have hg : w2.heap.size < (w2.alloc (.cells #[.int .i64 a, .int .i64 b, .int .i64 c, .int .i64 d] 119)).heap.size := by simp
    obtain ⟨k0, k1, k2, k3⟩ := f4.cell
    clear f4
    generalize w2.alloc (.cells #[.int .i64 a, .int .i64 b, .int .i64 c, .int .i64 d] 119) = W at rxW ryW HBW hg k0 k1 k2 k3 ⊢
    generalize w2.heap.size = g at hg k0 k1 k2 k3 ⊢
    obtain ⟨X', Y', eX, eY, r1, r2, l1, l2, l3, hgcd⟩ := HF.out
    have c1 : ∀ W', Rd W' vx x → Rd W' (.slice ady ny capy) y → Calls Tryz.prog 106 #[vx, .slice ady ny capy, .int .i64 a, .int .i64 b] W' (Made W' X') := fun W' h1 h2 => blend_any h1 h2 hlx HLY.out r1 eX (Nat.lt_of_le_of_lt l2 (val_lt x cx.1))
    have c2 : ∀ W', Rd W' vx x → Rd W' (.slice ady ny capy) y → Calls Tryz.prog 106 #[vx, .slice ady ny capy, .int .i64 c, .int .i64 d] W' (Made W' Y') := fun W' h1 h2 => blend_any h1 h2 hlx HLY.out r2 eY (Nat.lt_of_le_of_lt (Nat.le_trans l1 l2) (val_lt x cx.1))
    have C1 := Lib.hid (c1 W.drew rxW ryW); clear c1
    have C2 := Lib.hid c2; clear c2
    have HGCD := Lib.hid hgcd; clear hgcd
    have hd : Below W.heap.size W W.drew := (Below.refl _ _).drew
    clear eX eY r1 r2 HF HN HS rx2 ry2 hb1
    go_region_held3 (fun w' => w'.cell? ⟨g, 0, none⟩ = some (.int .i64 a) ∧ w'.cell? ⟨g, 1, none⟩ = some (.int .i64 b) ∧ w'.cell? ⟨g, 2, none⟩ = some (.int .i64 c) ∧ w'.cell? ⟨g, 3, none⟩ = some (.int .i64 d))
      (first
        | exact ⟨k0, k1, k2, k3⟩
        | exact ⟨(hA.cell (p := ⟨g, 0, none⟩) hg).trans k0, (hA.cell (p := ⟨g, 1, none⟩) hg).trans k1, (hA.cell (p := ⟨g, 2, none⟩) hg).trans k2, (hA.cell (p := ⟨g, 3, none⟩) hg).trans k3⟩
        | exact ⟨(hB.cell (p := ⟨g, 0, none⟩) hg).trans k0, (hB.cell (p := ⟨g, 1, none⟩) hg).trans k1, (hB.cell (p := ⟨g, 2, none⟩) hg).trans k2, (hB.cell (p := ⟨g, 3, none⟩) hg).trans k3⟩
        | fail)
      ((first
        | (go_at_call 106; (with_reducible refine C1.out.mono ?_); rintro e wA ⟨adA, nA, cA, lA, rfl, rA, kA, vA, hbA⟩; have hA : Below W.heap.size W wA := hd.trans hbA; have VA := Lib.hid vA; clear vA)
        | (go_at_call 106; (with_reducible refine (C2.out wA (rxW.below hA) (ryW.below hA)).mono ?_); rintro e wB ⟨adB, nB, cB, lB, rfl, rB, kB, vB, hbB⟩; have hB : Below W.heap.size W wB := onto hA hbB; have VB := Lib.hid vB; clear vB)
        | fail))
    go_wp2
    go_ret2
    have hbAW : Below W.heap.size W wB := hB
    exact ⟨adA, nA, cA, lA, adB, nB, cB, lB, rfl, rA.below hbB, rB, kA, kB, by rw [VA.out, VB.out]; exact l1, by rw [VA.out]; exact l2, by rw [VB.out]; exact l3, by rw [VA.out, VB.out]; exact HGCD.out, onto HBW hbAW⟩

theorem near_ok : NearOk := fun w vx vy x y rx ry cx cy hle h2 hlx h0 => nearer_any w vx vy x y rx ry cx cy hle h2 hlx h0

/-- nat.Gcd, of any two numbers. -/
theorem gcd_any {w : World} {va vb : Value} {a b : List Nat} (ha : Rd w va a) (hb : Rd w vb b) (la : a.length ≤ 1000) (lb : b.length ≤ 1000) :
    Calls Tryz.prog 54 #[va, vb] w (Made w (Nat.gcd (val a) (val b))) := gcd_walk ha hb la lb fun _ => near_ok

end Go.Proofs.YtepacminjfeliaaGreatDoor

/-
  rat's number of parts, and the boxes that its structs lie in. The text has 1900 bytes at most and is formed.
-/
namespace Go.Proofs.YtepacminjfeliaaGreatDoor
open Go.RowKit

/-- A number in a box. -/
def Bx3 (W : World) (g : Nat) (neg : Bool) (vp vq : Value) : Prop := W.heap[g]? = some (.cells #[.bool neg, vp, vq] 40)

theorem Bx3.cells {W : World} {g : Nat} {neg : Bool} {vp vq : Value} (h : Bx3 W g neg vp vq) : W.cell? ⟨g, 0, none⟩ = some (.bool neg) ∧ W.cell? ⟨g, 1, none⟩ = some vp ∧ W.cell? ⟨g, 2, none⟩ = some vq := by
  unfold Bx3 at h
  simp [World.cell?, h]

theorem Bx3.free {W : World} {g : Nat} {neg : Bool} {vp vq : Value} (h : Bx3 W g neg vp vq) (k : Nat) : W.frozen? ⟨g, k, none⟩ = false := by
  unfold Bx3 at h
  simp [World.frozen?, h]

theorem Bx3.below {W W' : World} {g : Nat} {neg : Bool} {vp vq : Value} (h : Bx3 W g neg vp vq) (hb : Below W.heap.size W W') : Bx3 W' g neg vp vq := below_heap hb h

theorem Bx3.put {W : World} {g : Nat} {neg : Bool} {vp vq : Value} (h : Bx3 W g neg vp vq) (n2 : Bool) (p2 q2 : Value) : Bx3 (((W.setCell ⟨g, 0, none⟩ (.bool n2)).setCell ⟨g, 1, none⟩ p2).setCell ⟨g, 2, none⟩ q2) g n2 p2 q2 := by
  unfold Bx3 at h ⊢
  simp [World.setCell, Array.getElem?_modify, h]

/-- A box as such: a block that holds no limbs. -/
def Boxed (W : World) (g : Nat) : Prop := ∃ (a b c : Value) (t : TypeId), W.heap[g]? = some (.cells #[a, b, c] t) ∧ (∀ k x, a ≠ .int k x) ∧ (∀ k x, b ≠ .int k x) ∧ (∀ k x, c ≠ .int k x)

theorem Bx3.boxed {W : World} {g : Nat} {neg : Bool} {a1 a2 : Option Addr} {n1 n2 c1 c2 : Nat} (h : Bx3 W g neg (.slice a1 n1 c1) (.slice a2 n2 c2)) : Boxed W g :=
  ⟨_, _, _, _, h, fun _ _ => nofun, fun _ _ => nofun, fun _ _ => nofun⟩

/-- A number's limbs lie in no box. -/
theorem Rd.off {W W' : World} {g : Nat} {v : Value} {l : List Nat} (h : Rd W v l) (hb : Boxed W g) (hs : W.heap.size ≤ W'.heap.size) (he : ∀ b, b < W.heap.size → b ≠ g → W'.heap[b]? = W.heap[b]?) : Rd W' v l := by
  obtain ⟨ad, n, cap, rfl, hn, hcap, hlim, hc⟩ := h
  refine ⟨ad, n, cap, rfl, hn, hcap, hlim, fun h0 => ?_⟩
  obtain ⟨b, o, e, hlt, hcell⟩ := hc h0
  have hne : b ≠ g := by
    intro hbg
    subst hbg
    obtain ⟨x, hx⟩ : ∃ x, l[0]? = some x := ⟨_, List.getElem?_eq_getElem (by omega)⟩
    have h1 := hcell 0 x hx
    obtain ⟨a, b', c, t, hh, ha, hb', hc'⟩ := hb
    simp only [World.cell?, hh] at h1
    match o, h1 with
    | 0, h1 => simp at h1; exact ha _ _ h1
    | 1, h1 => simp at h1; exact hb' _ _ h1
    | 2, h1 => simp at h1; exact hc' _ _ h1
    | o + 3, h1 => simp at h1
  refine ⟨b, o, e, Nat.lt_of_lt_of_le hlt hs, fun i x hi => ?_⟩
  rw [World.cell?_of_block (a := ⟨b, o + i, none⟩) (he b hlt hne)]
  exact hcell i x hi

theorem set3_heap (W : World) (g : Nat) (a b c : Value) : W.heap.size ≤ (((W.setCell ⟨g, 0, none⟩ a).setCell ⟨g, 1, none⟩ b).setCell ⟨g, 2, none⟩ c).heap.size ∧ ∀ k, k < W.heap.size → k ≠ g → (((W.setCell ⟨g, 0, none⟩ a).setCell ⟨g, 1, none⟩ b).setCell ⟨g, 2, none⟩ c).heap[k]? = W.heap[k]? := by
  refine ⟨by simp [World.setCell], fun k hk hne => ?_⟩
  simp [World.setCell, Array.getElem?_modify, Ne.symm hne]

/-- Stores into a box leave a number's limbs. -/
theorem Rd.put3 {W : World} {g : Nat} {v : Value} {l : List Nat} (h : Rd W v l) (hb : Boxed W g) (a b c : Value) : Rd (((W.setCell ⟨g, 0, none⟩ a).setCell ⟨g, 1, none⟩ b).setCell ⟨g, 2, none⟩ c) v l :=
  h.off hb (set3_heap W g a b c).1 (set3_heap W g a b c).2

/-- A number of two parts, answered. -/
def Numb (w : World) (neg : Bool) (A B : Nat) (e : Ending) (w' : World) : Prop :=
  ∃ adp np cp adq nq cq P Q, e = .returned (numV neg (.slice adp np cp) (.slice adq nq cq)) ∧ Rd w' (.slice adp np cp) P ∧ Rd w' (.slice adq nq cq) Q ∧ Can P ∧ Can Q ∧ val P = A ∧ val Q = B ∧ Below w.heap.size w w'

theorem alloc_size (w : World) (o : Obj) : (w.alloc o).heap.size = w.heap.size + 1 := by simp

/-- A number, exact: reduced parts; its zero may bear a sign. -/
def IsNum (W : World) (neg : Bool) (vp vq : Value) (q : Rat) : Prop := ∃ P Q, Rd W vp P ∧ Rd W vq Q ∧ Can P ∧ Can Q ∧ sgn neg (val P) = q.num ∧ val Q = q.den

theorem IsNum.below {W W' : World} {neg : Bool} {vp vq : Value} {q : Rat} (h : IsNum W neg vp vq q) (hb : Below W.heap.size W W') : IsNum W' neg vp vq q := by
  obtain ⟨P, Q, h1, h2, h3⟩ := h
  exact ⟨P, Q, h1.below hb, h2.below hb, h3⟩

/-- What answers a number: no sign at zero. -/
def NumQ (w : World) (q : Rat) (e : Ending) (w' : World) : Prop :=
  ∃ neg adp np cp adq nq cq, e = .returned (numV neg (.slice adp np cp) (.slice adq nq cq)) ∧ IsNum w' neg (.slice adp np cp) (.slice adq nq cq) q ∧ (neg = true → q ≠ 0) ∧ Below w.heap.size w w'

/-- Both parts have few limbs. -/
def FitsQ (q : Rat) : Prop := q.num.natAbs < pw 400 ∧ q.den < pw 400

set_option maxRecDepth 100000 in
set_option maxHeartbeats 4000000 in
theorem number_any (s : ByteArray) (w : World) (hs : s.size ≤ 1900) (hf : Formed (by0 s)) :
    Calls Tryz.prog 26 #[partsV s] w (Numb w (negB (by0 s)) (num (ahead (by0 s))) (num (behind (by0 s)))) := by
  have ra := fun w => parse_ok (aheadS s) w (by rw [aheadS_by0]; exact hf.1) (Nat.le_trans (aheadS_size s) hs)
  have rb := fun w => parse_ok (behindS s) w (by rw [behindS_by0]; exact hf.2) (by have := behindS_size s; omega)
  rw [aheadS_by0] at ra
  rw [behindS_by0] at rb
  have HF := Lib.hid hf; clear hf hs
  unfold partsV
  obtain ⟨W0, hW0⟩ : ∃ W0, W0 = (w.alloc (.cells #[.bool (negB (by0 s)), .string (aheadS s), .bool (slash (by0 s)), .string (behindS s)] 35)).alloc (.cells #[.bool false, .slice none 0 0, .slice none 0 0] 40) := ⟨_, rfl⟩
  have HB : Below w.heap.size w W0 := by rw [hW0]; exact onto (alb w _) (alb _ _)
  have bx : Bx4 W0 w.heap.size (.bool (negB (by0 s))) (.string (aheadS s)) (.bool (slash (by0 s))) (.string (behindS s)) := by rw [hW0]; exact Bx4.below (heap_alloc_new w _) (alb _ _)
  have bz : Bx3 W0 (w.heap.size + 1) false (.slice none 0 0) (.slice none 0 0) := by
    have h := heap_alloc_new (w.alloc (.cells #[.bool (negB (by0 s)), .string (aheadS s), .bool (slash (by0 s)), .string (behindS s)] 35)) (.cells #[.bool false, .slice none 0 0, .slice none 0 0] 40)
    rw [alloc_size] at h
    rw [hW0]; exact h
  go_enter Tryz.func26, Tryz.ntmps26
  go_wp2_with fail
  rw [← hW0]
  clear hW0
  refine (ra _).mono ?_
  rintro e w1 ⟨adp, np, cp, P, rfl, rp, kp, vp, hb⟩
  replace bx := bx.below hb
  replace bz := bz.below hb
  replace HB := onto HB hb
  clear hb
  obtain ⟨c0, c1, c2, c3⟩ := bx.cells
  go_wp2_with fail
  refine (rb _).mono ?_
  rintro e w2 ⟨adq, nq, cq, Q, rfl, rq, kq, vq, hb⟩
  replace bx := bx.below hb
  replace bz := bz.below hb
  replace rp := rp.below hb
  replace HB := onto HB hb
  clear hb c0 c1 c2 c3
  obtain ⟨c0, c1, c2, c3⟩ := bx.cells
  obtain ⟨e0, e1, e2⟩ := bz.cells
  have f0 := bz.free 0
  have f1 := bz.free 1
  have f2 := bz.free 2
  have bz2 := bz.put (negB (by0 s)) (.slice adp np cp) (.slice adq nq cq)
  have rp2 := rp.put3 bz.boxed (.bool (negB (by0 s))) (.slice adp np cp) (.slice adq nq cq)
  have rq2 := rq.put3 bz.boxed (.bool (negB (by0 s))) (.slice adp np cp) (.slice adq nq cq)
  have hB4 := ((HB.setCell (p := ⟨w.heap.size + 1, 0, none⟩) (Nat.le_succ _) (.bool (negB (by0 s)))).setCell (p := ⟨w.heap.size + 1, 1, none⟩) (Nat.le_succ _) (.slice adp np cp)).setCell (p := ⟨w.heap.size + 1, 2, none⟩) (Nat.le_succ _) (.slice adq nq cq)
  go_wp2
  obtain ⟨d0, d1, d2⟩ := bz2.cells
  refine bodyPost_ret (v := numV (negB (by0 s)) (.slice adp np cp) (.slice adq nq cq)) (by simp [results, Tryz.results26, go_sem, d0, d1, d2]) rfl ?_
  exact ⟨adp, np, cp, adq, nq, cq, P, Q, rfl, rp2, rq2, kp, kq, vp, vq, hB4⟩

end Go.Proofs.YtepacminjfeliaaGreatDoor

/-
  rat's part and signed: a quotient without rest, and the sum of two whole numbers with signs. Lists of at most 1000 and 10000 limbs.
-/
namespace Go.Proofs.YtepacminjfeliaaGreatDoor
open Go.RowKit

set_option maxRecDepth 100000 in
set_option maxHeartbeats 4000000 in
theorem part_any {w : World} {va vb : Value} {a b : List Nat} (ra : Rd w va a) (rb : Rd w vb b) (la : a.length ≤ 1000) (lb : b.length ≤ 1000) (h : 0 < val b) :
    Calls Tryz.prog 55 #[va, vb] w (Made w (val a / val b)) := by
  have hp := Lib.hid (div_yes ra rb la lb h)
  clear ra rb la lb h
  go_enter Tryz.func55, Tryz.ntmps55
  go_wp2_with fail
  refine hp.out.mono ?_
  rintro e w1 ⟨ad, n, cap, l, ad2, n2, cap2, l2, rfl, r1, k1, v1, -, -, -, hb⟩
  go_wp2
  go_ret
  exact ⟨ad, n, cap, l, rfl, r1, k1, v1, hb⟩

/-- What signed answers. -/
def SignedR (w : World) (n m : Bool) (A B : Nat) (e : Ending) (w' : World) : Prop :=
  ∃ neg ad k c l, e = .returned (.tuple #[.bool neg, .slice ad k c]) ∧ Rd w' (.slice ad k c) l ∧ Can l ∧ sgn neg (val l) = sgn n A + sgn m B ∧ (neg = true → val l ≠ 0) ∧ val l ≤ A + B ∧ Below w.heap.size w w'

theorem sgn_same (n : Bool) (A B : Nat) : sgn n (A + B) = sgn n A + sgn n B := by cases n <;> simp [sgn]; omega
theorem sgn_more (n : Bool) {A B : Nat} (h : B ≤ A) : sgn n (A - B) = sgn n A + sgn (!n) B := by cases n <;> simp [sgn] <;> omega
theorem sgn_less (n : Bool) {A B : Nat} (h : A ≤ B) : sgn (!n) (B - A) = sgn n A + sgn (!n) B := by cases n <;> simp [sgn] <;> omega
theorem sgn_nought (n m : Bool) : sgn n 0 = sgn m 0 := by cases n <;> cases m <;> rfl
theorem like (b : Bool) : (b == b) = true := by cases b <;> rfl
theorem not_like (b : Bool) : (b == !b) = false := by cases b <;> rfl

set_option maxRecDepth 100000 in
set_option maxHeartbeats 4000000 in
theorem signed_same {w : World} {va vb : Value} {a b : List Nat} (n : Bool) (ra : Rd w va a) (rb : Rd w vb b) (la : a.length ≤ 10000) (lb : b.length ≤ 10000) (hn : n = true → val a ≠ 0) :
    Calls Tryz.prog 62 #[.bool n, va, .bool n, vb] w (SignedR w n n (val a) (val b)) := by
  have hp := Lib.hid (add_any ra rb la lb)
  have z := like n
  clear ra rb la lb
  have HN := Lib.hid hn; clear hn
  go_enter Tryz.func62, Tryz.ntmps62
  go_wp2_with fail
  refine hp.out.mono ?_
  rintro e w1 ⟨ad, k, cap, l, rfl, r1, k1, v1, hb⟩
  go_wp2
  go_ret2
  exact ⟨n, ad, k, cap, l, rfl, r1, k1, by rw [v1]; exact sgn_same _ _ _, fun h => by have := HN.out h; omega, by omega, hb⟩

set_option maxRecDepth 100000 in
set_option maxHeartbeats 4000000 in
theorem signed_more {w : World} {va vb : Value} {a b : List Nat} (n : Bool) (ra : Rd w va a) (rb : Rd w vb b) (la : a.length ≤ 10000) (lb : b.length ≤ 10000) (h : val b ≤ val a) :
    Calls Tryz.prog 62 #[.bool n, va, .bool (!n), vb] w (SignedR w n (!n) (val a) (val b)) := by
  have hp := Lib.hid (sub_yes ra rb la lb h)
  have z := not_like n
  clear ra rb la lb
  have HH := Lib.hid h; clear h
  go_enter Tryz.func62, Tryz.ntmps62
  go_wp2_with fail
  refine hp.out.mono ?_
  rintro e w1 ⟨ad, k, cap, l, rfl, r1, k1, v1, hb⟩
  have hz := len_zero r1 k1
  cases n
  · go_wp2
    go_ret2
    exact ⟨false, ad, k, cap, l, rfl, r1, k1, by rw [v1]; exact sgn_more false HH.out, nofun, by omega, hb⟩
  · have HZ := Lib.hid hz; clear hz
    go_wp2
    go_ret2
    refine ⟨decide (0 < k), ad, k, cap, l, rfl, r1, k1, ?_, fun h => ?_, by omega, hb⟩
    · rw [← sgn_more true HH.out, ← v1]
      by_cases h0 : k = 0
      · rw [HZ.out.1 h0]; exact sgn_nought _ _
      · rw [decide_eq_true (show 0 < k by omega)]
    · have hk : 0 < k := of_decide_eq_true h
      exact fun e => by have := HZ.out.2 e; omega

set_option maxRecDepth 100000 in
set_option maxHeartbeats 4000000 in
theorem signed_less {w : World} {va vb : Value} {a b : List Nat} (n : Bool) (ra : Rd w va a) (rb : Rd w vb b) (la : a.length ≤ 10000) (lb : b.length ≤ 10000) (h : val a < val b) :
    Calls Tryz.prog 62 #[.bool n, va, .bool (!n), vb] w (SignedR w n (!n) (val a) (val b)) := by
  have hp := Lib.hid (sub_no ra rb la lb h)
  have z := not_like n
  go_enter Tryz.func62, Tryz.ntmps62
  go_wp2_with fail
  refine hp.out.mono ?_
  rintro e w1 ⟨rfl, hb1⟩
  go_wp2_with fail
  refine (sub_yes (rb.below hb1) (ra.below hb1) lb la (Nat.le_of_lt h)).mono ?_
  rintro e w2 ⟨ad, k, cap, l, rfl, r1, k1, v1, hb⟩
  have HH := Lib.hid h; clear h
  go_wp2
  go_ret2
  exact ⟨!n, ad, k, cap, l, rfl, r1, k1, by rw [v1]; exact sgn_less n (Nat.le_of_lt HH.out), fun _ => by have := HH.out; omega, by omega, onto hb1 hb⟩

theorem signed_any {w : World} {va vb : Value} {a b : List Nat} (n m : Bool) (ra : Rd w va a) (rb : Rd w vb b) (la : a.length ≤ 10000) (lb : b.length ≤ 10000) (hn : n = true → val a ≠ 0) :
    Calls Tryz.prog 62 #[.bool n, va, .bool m, vb] w (SignedR w n m (val a) (val b)) := by
  rcases (by cases n <;> cases m <;> simp : m = n ∨ m = !n) with rfl | rfl
  · exact signed_same _ ra rb la lb hn
  · rcases Nat.lt_or_ge (val a) (val b) with h | h
    · exact signed_less n ra rb la lb h
    · exact signed_more n ra rb la lb h

end Go.Proofs.YtepacminjfeliaaGreatDoor
