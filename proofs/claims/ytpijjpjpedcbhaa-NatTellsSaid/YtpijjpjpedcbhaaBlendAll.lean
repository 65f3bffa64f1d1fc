/-
  nat.blend, whole, and nat.nearer: two numbers further on in Euclid's row of two others.
-/
import Derived.Test.YtpijjpjpedcbhaaBlend
import Derived.Deep.RegionHeld3
namespace Go.Proofs.Ytpijjpjpedcbhaa
open Go.RowKit

/-- What the blend comes to. -/
theorem blend_end {p q : Int} {a b l : List Nat} {n c R : Nat} (hinv : InvBlend p q a b n l c) (hl : l.length = n) (hL : Lim l) (ha : a.length ≤ n) (hb : b.length ≤ n)
    (hR : (R : Int) = p * (val a : Int) + q * (val b : Int)) (hlt : R < pw n) : val l = R := by
  unfold InvBlend at hinv
  rw [sm_all a ha, sm_all b hb, ← hR] at hinv
  have v := val_lt l hL
  rw [hl] at v
  have hs : sgn c = 0 := by
    rcases Int.lt_trichotomy (sgn c) 0 with h | h | h
    · have h1 : (pw n : Int) * sgn c ≤ (pw n : Int) * (-1) := Int.mul_le_mul_of_nonneg_left (by omega) (Int.natCast_nonneg _)
      omega
    · exact h
    · have h1 : (pw n : Int) * 1 ≤ (pw n : Int) * sgn c := Int.mul_le_mul_of_nonneg_left (by omega) (Int.natCast_nonneg _)
      omega
  rw [hs, Int.mul_zero] at hinv
  omega

set_option maxHeartbeats 1000000 in
theorem blend_any {w : World} {vx vy : Value} {x y : List Nat} {p q : Int} {R : Nat} (rx : Rd w vx x) (ry : Rd w vy y) (lx : x.length ≤ 1000) (ly : y.length ≤ x.length) (h : Room p q) (hR : (R : Int) = p * (val x : Int) + q * (val y : Int)) (hlt : R < pw x.length) :
    Calls Try.prog 54 #[vx, vy, .int .i64 p, .int .i64 q] w (Made w R) := by
  obtain ⟨i0, hi, hz0, hz1, hz2⟩ := info_parts Try.info36
  obtain ⟨adx, n, cx, rfl, -⟩ := id rx
  obtain ⟨hn, hcx, hlx, -⟩ := rx.open
  rw [← hn] at lx ly hlt
  have HN := Lib.hid hn; clear hn
  have HR := Lib.hid hR; clear hR
  have HLT := Lib.hid hlt; clear hlt
  have key : ∀ (W w1 : World) (a1 a2 : Addr) (G : Nat), W.heap.size = G → Below w.heap.size w W → a1.block < W.heap.size → a2.block < W.heap.size → W.cell? a1 = some (.int .i64 p) → W.cell? a2 = some (.int .i64 q) → w.heap.size ≤ W.heap.size →
      w1.ownsRow G 36 1 (.slice (some ⟨G, 0, none⟩) n n) n (madeCells #[Value.int .u32 0] n).toList → W.grownBy w1 none →
      Calls Try.prog 29 #[.slice (some ⟨G, 0, none⟩) n n, .slice adx n cx, vy, .func (.func 57) #[] #[.pointer (some a1), .pointer (some a2)]] w1 fun e w2 => ∃ c l, e = .returned (.int .u32 ((c : Nat) : Int)) ∧ Blk w2 G l ∧ Lim l ∧ l.length = n ∧ val l = R ∧ Below w.heap.size w w2 := by
    intro W w1 a1 a2 G hG hW hp1 hp2 hc1 hc2 hsz hown hgrow
    subst hG
    have hblk := made_row hown
    have hold : ∀ l w', Sta w1 W.heap.size 0 (List.replicate n 0) l w' → Below w.heap.size w w' := fun l w' h => hW.trans ((grown_below hgrow h.1 (Nat.le_refl _)).mono hsz)
    have hq1 : ∀ l w', Sta w1 W.heap.size 0 (List.replicate n 0) l w' → w'.cell? a1 = some (.int .i64 p) := fun l w' h => ((grown_below hgrow h.1 (Nat.le_refl _)).cell hp1).trans hc1
    have hq2 : ∀ l w', Sta w1 W.heap.size 0 (List.replicate n 0) l w' → w'.cell? a2 = some (.int .i64 q) := fun l w' h => ((grown_below hgrow h.1 (Nat.le_refl _)).cell hp2).trans hc2
    refine (along_any w1 W.heap.size 0 n n (List.replicate n 0) _ _ 57 #[.pointer (some a1), .pointer (some a2)] (at0 x) (at0 y) (InvBlend p q x y) (by simp) (Nat.le_refl _) hblk (by omega)
      (fun k l w' _ _ hs => limb_any (rx.below (hold l w' hs)) (by have := HN.out; omega) k) (fun k l w' _ _ hs => limb_any (ry.below (hold l w' hs)) (by omega) k)
      (fun k l c w' _ hl hs hinv hc => blend_step p q h x y hlx ry.lim a1 a2 k l c w' hl hinv hc (hq1 l w' hs) (hq2 l w' hs)) (by simp [InvBlend, val, sm, sgn]) (fun _ _ => by simp [go_sem])).mono ?_
    rintro e w2 ⟨l, c, rfl, hl, hc, hL, hinv, hsta⟩
    have hbel := hold l w2 hsta
    have h4 := hsta.2
    rw [put_whole hl] at h4
    exact ⟨c, l, rfl, h4, hL, hl, blend_end hinv hl hL (by have := HN.out; omega) ly HR.out HLT.out, hbel⟩
  have KEY := Lib.hid key; clear key
  clear rx ry h
  go_enter Try.func54, Try.ntmps54
  go_wp2_with (at_make; refine wpList_make_full _ rfl _ _ 22 rfl (w.heap.size + 1 + 1) 36 i0 (.int .u32 0) 1 Try.underlying22 hi hz0 hz1 _ _ _ _ n rfl rfl (by omega) (by omega) (by rw [hz2]; omega) (by unfold maxLen; omega) (by simp) ?_)
  intro w1 hown hgrow
  have HO := Lib.hid hown; clear hown
  have HG := Lib.hid hgrow; clear hgrow
  go_wp2_with fail
  obtain ⟨q1, q2⟩ := two_cells w (.int .i64 p) (.int .i64 q) 2 2
  refine (KEY.out _ w1 ⟨w.heap.size, 0, none⟩ ⟨w.heap.size + 1, 0, none⟩ (w.heap.size + 1 + 1) (by simp) (onto (alb w (.cells #[.int .i64 p] 2)) (alb _ (.cells #[.int .i64 q] 2))) (by simp; omega) (by simp) q1 q2 (by simp; omega) HO.out HG.out).mono ?_
  rintro e w2 ⟨c, l, rfl, hb, hL, hl, hv, hbel⟩
  have HV := Lib.hid hv; clear hv
  have HL := Lib.hid hl; clear hl
  clear q1 q2
  go_wp2_with fail
  refine (short_any (hb.rd hL HL.out (Nat.le_refl _)) (by have := HL.out; omega)).mono ?_
  rintro e w3 ⟨⟨ad, k, cap, l', rfl, hr', hcan, hv'⟩, rfl⟩
  have HV' := Lib.hid hv'; clear hv'
  go_wp2
  go_ret
  exact ⟨ad, k, cap, l', rfl, hr', hcan, HV'.out.trans HV.out, hbel⟩

/-- The two numbers that the factors make. -/
theorem near_final {even : Bool} {X Y T x y A B C D : Nat} {a b c d : Int} (h : Near even (X / T) (Y / T) x y A B C D) (s : Signed even A B C D a b c d) (hb : b ≠ 0) (hT : 0 < T) :
    ∃ X' Y' : Nat, (X' : Int) = a * (X : Int) + b * (Y : Int) ∧ (Y' : Int) = c * (X : Int) + d * (Y : Int) ∧ Room a b ∧ Room c d ∧ Y' ≤ X' ∧ X' ≤ X ∧ Y' < Y ∧ Nat.gcd X' Y' = Nat.gcd X Y := by
  have sA := h.sA
  have sB := h.sB
  have sC := h.sC
  have sD := h.sD
  have hB : B ≠ 0 := by
    intro e
    unfold Signed at s
    cases even with
    | true => simp only [if_true] at s; exact hb (by rw [s.2.1, e]; rfl)
    | false => simp only [Bool.false_eq_true, if_false] at s; exact hb (by rw [s.2.1, e]; rfl)
  obtain ⟨X', Y', hlt, he⟩ := h.whole hB hT rfl rfl
  obtain ⟨k1, k2, k3⟩ := h.gcd he
  obtain ⟨hC, hD⟩ := h.pos hB
  have u1 : X' ≤ D * X' := Nat.le_mul_of_pos_left _ hD
  have u2 : X' ≤ C * X' := Nat.le_mul_of_pos_left _ hC
  refine ⟨X', Y', ?_, ?_, ?_, ?_, by omega, by omega, by omega, k3⟩
  all_goals
    unfold Signed at s
    cases even with
    | true =>
      simp only [if_true] at s he
      obtain ⟨rfl, rfl, rfl, rfl⟩ := s
      have f1 := congrArg (fun n : Nat => (n : Int)) he.1
      have f2 := congrArg (fun n : Nat => (n : Int)) he.2
      simp only [Int.natCast_add, Int.natCast_mul] at f1 f2
      first
        | (rw [Int.neg_mul]; omega)
        | (unfold Room; omega)
    | false =>
      simp only [Bool.false_eq_true, if_false] at s he
      obtain ⟨rfl, rfl, rfl, rfl⟩ := s
      have f1 := congrArg (fun n : Nat => (n : Int)) he.1
      have f2 := congrArg (fun n : Nat => (n : Int)) he.2
      simp only [Int.natCast_add, Int.natCast_mul] at f1 f2
      first
        | (rw [Int.neg_mul]; omega)
        | (unfold Room; omega)

set_option maxHeartbeats 2000000 in
theorem nearer_any (w : World) (vx vy : Value) (x y : List Nat) (rx : Rd w vx x) (ry : Rd w vy y) (cx : Can x) (cy : Can y) (hle : val y ≤ val x) (h2 : 2 < x.length) (hlx : x.length ≤ 1000) (h0 : 0 < y.length) :
    Calls Try.prog 42 #[vx, vy] w (Neared w (val x) (val y)) := by
  obtain ⟨ady, ny, capy, rfl, -⟩ := id ry
  obtain ⟨m, hm⟩ : ∃ m, x.length = m + 3 := ⟨x.length - 3, by omega⟩
  have hly : y.length ≤ x.length := cy.len (Nat.lt_of_le_of_lt hle (val_lt x cx.1))
  have hy0 : 0 < val y := can_pos cy (k := y.length - 1) (by omega)
  have HLY := Lib.hid hly; clear hly
  have HM := Lib.hid hm; clear hm
  go_enter Try.func42, Try.ntmps42
  go_wp2_with fail
  refine (heads_any rx ry cx HM.out (by have := HM.out; omega) (by have := HM.out; have := HLY.out; omega) hle).mono ?_
  rintro e w1 ⟨T, hT, rfl, hfit, hb1⟩
  have rx1 := rx.below hb1
  have ry1 := ry.below hb1
  go_wp2_with fail
  refine (ahead_any (val x / T) (val y / T) w1 (Nat.div_le_div_right hle) hfit).mono ?_
  rintro e w2 ⟨even, A, B, C, D, x', y', a, b, c, d, rfl, hn, hs, hb2⟩
  have rx2 := rx1.below hb2
  have ry2 := ry1.below hb2
  have HB2 := onto hb1 hb2
  clear hb1 hb2 rx1 ry1
  have HN := Lib.hid hn; clear hn
  have HS := Lib.hid hs; clear hs
  by_cases hb : b = 0
  · subst hb
    go_wp2_with fail
    refine (div_yes (rx2.below (alb _ _)) (ry2.below (alb _ _)) hlx (by have := HLY.out; omega) hy0).mono ?_
    rintro e w3 ⟨adq, nq, cq, lq, adr, nr, cr, lr, rfl, rq, kq, vq, rr, kr, vr, hb⟩
    replace hb := past hb
    have ry3 := ry2.below hb
    have HB3 := onto HB2 hb
    have hlt : val lr < val y := by rw [vr]; exact Nat.mod_lt _ hy0
    have hg : Nat.gcd (val y) (val lr) = Nat.gcd (val x) (val y) := by rw [vr, Nat.gcd_comm, ← Nat.gcd_rec, Nat.gcd_comm]
    have HG := Lib.hid hg; clear hg
    clear vr vq hb
    go_wp2
    go_ret2
    exact ⟨_, _, _, y, _, _, _, lr, rfl, ry3, rr, cy, kr, by omega, hle, hlt, HG.out, HB3⟩
  · have hb1 : (b == 0) = false := by simpa using hb
    have HF := Lib.hid (near_final HN.out HS.out hb hT)
    have HB := Lib.hid hb; clear hb
    go_wp2_with fail
    have f4 : Four (w2.alloc (.cells #[.int .i64 a, .int .i64 b, .int .i64 c, .int .i64 d] 60)) w2.heap.size a b c d := heap_alloc_new _ _
    have rxW := rx2.below (alb w2 (.cells #[.int .i64 a, .int .i64 b, .int .i64 c, .int .i64 d] 60))
    have ryW := ry2.below (alb w2 (.cells #[.int .i64 a, .int .i64 b, .int .i64 c, .int .i64 d] 60))
    have HBW := onto HB2 (alb w2 (.cells #[.int .i64 a, .int .i64 b, .int .i64 c, .int .i64 d] 60))
    have hg : w2.heap.size < (w2.alloc (.cells #[.int .i64 a, .int .i64 b, .int .i64 c, .int .i64 d] 60)).heap.size := by simp
    obtain ⟨k0, k1, k2, k3⟩ := f4.cell
    clear f4
    generalize w2.alloc (.cells #[.int .i64 a, .int .i64 b, .int .i64 c, .int .i64 d] 60) = W at rxW ryW HBW hg k0 k1 k2 k3 ⊢
    generalize w2.heap.size = g at hg k0 k1 k2 k3 ⊢
    obtain ⟨X', Y', eX, eY, r1, r2, l1, l2, l3, hgcd⟩ := HF.out
    have c1 : ∀ W', Rd W' vx x → Rd W' (.slice ady ny capy) y → Calls Try.prog 54 #[vx, .slice ady ny capy, .int .i64 a, .int .i64 b] W' (Made W' X') := fun W' h1 h2 => blend_any h1 h2 hlx HLY.out r1 eX (Nat.lt_of_le_of_lt l2 (val_lt x cx.1))
    have c2 : ∀ W', Rd W' vx x → Rd W' (.slice ady ny capy) y → Calls Try.prog 54 #[vx, .slice ady ny capy, .int .i64 c, .int .i64 d] W' (Made W' Y') := fun W' h1 h2 => blend_any h1 h2 hlx HLY.out r2 eY (Nat.lt_of_le_of_lt (Nat.le_trans l1 l2) (val_lt x cx.1))
    have C1 := Lib.hid (c1 W.drew rxW ryW); clear c1
    have C2 := Lib.hid c2; clear c2
    have HGCD := Lib.hid hgcd; clear hgcd
    have hd : Below W.heap.size W W.drew := (Below.refl _ _).drew
    clear eX eY r1 r2 HF HN HS rx2 ry2 hb1
    go_region_held3 (fun w' => w'.cell? ⟨g, 0, none⟩ = some (.int .i64 a) ∧ w'.cell? ⟨g, 1, none⟩ = some (.int .i64 b) ∧ w'.cell? ⟨g, 2, none⟩ = some (.int .i64 c) ∧ w'.cell? ⟨g, 3, none⟩ = some (.int .i64 d))
      (first
        | exact ⟨k0, k1, k2, k3⟩
        | exact ⟨(hA.cell (p := ⟨g, 0, none⟩) hg).trans k0, (hA.cell (p := ⟨g, 1, none⟩) hg).trans k1, (hA.cell (p := ⟨g, 2, none⟩) hg).trans k2, (hA.cell (p := ⟨g, 3, none⟩) hg).trans k3⟩
        | exact ⟨(hB.cell (p := ⟨g, 0, none⟩) hg).trans k0, (hB.cell (p := ⟨g, 1, none⟩) hg).trans k1, (hB.cell (p := ⟨g, 2, none⟩) hg).trans k2, (hB.cell (p := ⟨g, 3, none⟩) hg).trans k3⟩
        | fail)
      ((first
        | (go_at_call 54; (with_reducible refine C1.out.mono ?_); rintro e wA ⟨adA, nA, cA, lA, rfl, rA, kA, vA, hbA⟩; have hA : Below W.heap.size W wA := hd.trans hbA; have VA := Lib.hid vA; clear vA)
        | (go_at_call 54; (with_reducible refine (C2.out wA (rxW.below hA) (ryW.below hA)).mono ?_); rintro e wB ⟨adB, nB, cB, lB, rfl, rB, kB, vB, hbB⟩; have hB : Below W.heap.size W wB := onto hA hbB; have VB := Lib.hid vB; clear vB)
        | fail))
    go_wp2
    go_ret2
    have hbAW : Below W.heap.size W wB := hB
    exact ⟨adA, nA, cA, lA, adB, nB, cB, lB, rfl, rA.below hbB, rB, kA, kB, by rw [VA.out, VB.out]; exact l1, by rw [VA.out]; exact l2, by rw [VB.out]; exact l3, by rw [VA.out, VB.out]; exact HGCD.out, onto HBW hbAW⟩

theorem near_ok : NearOk := fun w vx vy x y rx ry cx cy hle h2 hlx h0 => nearer_any w vx vy x y rx ry cx cy hle h2 hlx h0

/-- nat.Gcd, of any two numbers. -/
theorem gcd_any {w : World} {va vb : Value} {a b : List Nat} (ha : Rd w va a) (hb : Rd w vb b) (la : a.length ≤ 1000) (lb : b.length ≤ 1000) :
    Calls Try.prog 23 #[va, vb] w (Made w (Nat.gcd (val a) (val b))) := gcd_walk ha hb la lb fun _ => near_ok

end Go.Proofs.Ytpijjpjpedcbhaa
