/-
  nat.heads: the closure that reads the topmost bits of one number, and heads itself.
-/
import Derived.Test.YtpijjpjpedcbhaaHeads
namespace Go.Proofs.Ytpijjpjpedcbhaa
open Go.RowKit

theorem limb_q {w : World} {v : Value} {l : List Nat} (h : Rd w v l) (hl : l.length ≤ 1000000) (i : Int) (k : Nat) (hi : i = (k : Int)) :
    Calls Try.prog 45 #[v, .int .i64 i] w fun e w' => e = .returned (.int .u32 (at0 l k : Int)) ∧ w' = w := by
  subst hi
  exact (limb_any h hl k).mono fun e w' h => ⟨h.1, h.2.symm⟩

theorem head_end {H V x0 s s' : Nat} (f1 : H * 2 ^ s + x0 / 2 ^ (32 - s) < 18446744073709551616) (f2 : (H * 2 ^ s + x0 / 2 ^ (32 - s)) / 4 = V) (f3 : x0 / 2 ^ (32 - s) < 2 ^ s) (hs : s' + s = 32) :
    wrap64 (bits .or .u64 (IntKind.u64.wrap ((H : Int) * 2 ^ s)) ((x0 : Int) / 2 ^ min s' 64) / 4) = (V : Int) := by
  have e1 : (H : Int) * 2 ^ s = ((H * 2 ^ s : Nat) : Int) := by rw [Int.natCast_mul, Int.natCast_pow]; rfl
  have e2 : (x0 : Int) / 2 ^ min s' 64 = ((x0 / 2 ^ (32 - s) : Nat) : Int) := by
    rw [Nat.min_eq_left (show s' ≤ 64 by omega), show 32 - s = s' from by omega, Int.natCast_ediv, Int.natCast_pow]; rfl
  have e3 := Nat.mul_mod_left H (2 ^ s)
  rw [e1, e2]
  clear e1 e2
  generalize H * 2 ^ s = P at f1 f2 e3 ⊢
  generalize x0 / 2 ^ (32 - s) = Q at f1 f2 f3 ⊢
  rw [IntWalk.u64_in _ (by omega), u64_or_nat _ _ (by omega) (by omega), nat_join s _ _ e3 f3, IntWalk.wrap64_in _ (by omega)]
  omega

set_option maxHeartbeats 1000000 in
theorem head1_any {w : World} {va : Value} {l : List Nat} {m s : Nat} {pn pu : Addr} (ra : Rd w va l) (hlen : l.length ≤ m + 3) (hm : m ≤ 1000) (hs : s ≤ 31) (hfit : at0 l (m + 2) * 2 ^ s < 4294967296)
    (hn : w.cell? pn = some (.int .i64 ((m : Int) + 3))) (hu : w.cell? pu = some (.int .i64 (s : Int))) :
    Calls Try.prog 56 #[va, .pointer (some pn), .pointer (some pu)] w fun e w' => e = .returned (.int .i64 ((val l / (2 ^ (34 - s) * pw m) : Nat) : Int)) ∧ Below w.heap.size w w' := by
  obtain ⟨f1, f2, f3⟩ := head_val ra.lim hlen hs hfit
  have l2 := at0_lt ra.lim (m + 2)
  have l1 := at0_lt ra.lim (m + 1)
  have l0 := at0_lt ra.lim m
  have c2 := fun n => limb_q (ra.drewN n) (by omega) ((m : Int) + 2) (m + 2) (by omega)
  have c1 := fun n => limb_q (ra.drewN n) (by omega) ((m : Int) + 1) (m + 1) (by omega)
  have c0 := fun W (h : Rd W va l) n => limb_q (h.drewN n) (by omega) (m : Int) m rfl
  obtain ⟨V, hV⟩ : ∃ V, V = val l / (2 ^ (34 - s) * pw m) := ⟨_, rfl⟩
  rw [← hV] at f2 ⊢
  obtain ⟨x2, e2⟩ : ∃ x, x = at0 l (m + 2) := ⟨_, rfl⟩
  obtain ⟨x1, e1⟩ : ∃ x, x = at0 l (m + 1) := ⟨_, rfl⟩
  obtain ⟨x0, e0⟩ : ∃ x, x = at0 l m := ⟨_, rfl⟩
  rw [← e2] at f1 f2 hfit l2 c2
  rw [← e1] at f1 f2 l1 c1
  rw [← e0] at f1 f2 f3 l0 c0
  obtain ⟨H, hH⟩ : ∃ H : Nat, H = x2 * 4294967296 + x1 := ⟨_, rfl⟩
  have r1 : bits .or .u64 ((x2 : Int) * 4294967296) (x1 : Int) = (H : Int) := by
    rw [show (x2 : Int) * 4294967296 = ((x2 * 4294967296 : Nat) : Int) from by omega, u64_or_nat _ _ (by omega) (by omega), nat_join 32 _ _ (Nat.mul_mod_left _ _) l1, hH]
  rw [← hH] at f1 f2
  have C2 := Lib.hid c2; clear c2
  have C1 := Lib.hid c1; clear c1
  have C0 := Lib.hid c0; clear c0
  have F1 := Lib.hid f1; clear f1
  have F2 := Lib.hid f2; clear f2
  have F3 := Lib.hid f3; clear f3
  have HH := Lib.hid hH; clear hH
  have HF := Lib.hid hfit; clear hfit
  clear e0 e1 e2 hV
  obtain ⟨s', hs'⟩ : ∃ s' : Nat, s' + s = 32 := ⟨32 - s, by omega⟩
  have w2 : IntKind.i64.wrap ((m : Int) + 3 - 1) = (m : Int) + 2 := by rw [IntWalk.i64_in _ (by omega)]; omega
  have w1 : IntKind.i64.wrap ((m : Int) + 3 - 2) = (m : Int) + 1 := by rw [IntWalk.i64_in _ (by omega)]; omega
  have w0 : IntKind.i64.wrap ((m : Int) + 3 - 3) = (m : Int) := by rw [IntWalk.i64_in _ (by omega)]; omega
  have ws : IntKind.i64.wrap (32 - (s : Int)) = (s' : Int) := by rw [IntWalk.i64_in _ (by omega)]; omega
  have HS := Lib.hid hs'; clear hs'
  go_enter Try.func56, Try.ntmps56
  go_wp2_with fail
  go_quiet ((go_at_call 45; first | with_reducible exact Calls.quiet_of_same (C2.out _) | with_reducible exact Calls.quiet_of_same (C1.out _)))
  have hbW := drewN_below w nq
  have raW := ra.drewN nq
  have hnW : (w.drewN nq).cell? pn = some (.int .i64 ((m : Int) + 3)) := hn
  have huW : (w.drewN nq).cell? pu = some (.int .i64 (s : Int)) := hu
  generalize w.drewN nq = W at hbW raW hnW huW ⊢
  clear hn hu ra C1 C2
  have c0' := C0.out W raW
  have C0' := Lib.hid c0'; clear c0' C0
  go_wp2_with fail
  go_quiet ((go_at_call 45; exact Calls.quiet_of_same (C0'.out _)))
  go_wp2_with fail
  go_ret
  refine ⟨?_, draw_below hbW _⟩
  show Ending.returned (.int .i64 (wrap64 _)) = _
  rw [head_end F1.out F2.out F3.out HS.out]

theorem two_cells (w : World) (u v : Value) (t1 t2 : TypeId) : ((w.alloc (.cells #[u] t1)).alloc (.cells #[v] t2)).cell? ⟨w.heap.size, 0, none⟩ = some u ∧ ((w.alloc (.cells #[u] t1)).alloc (.cells #[v] t2)).cell? ⟨w.heap.size + 1, 0, none⟩ = some v := by
  have h1 := heap_alloc_new w (.cells #[u] t1)
  have h2 := (Below.heap_alloc (w.alloc (.cells #[u] t1)) (.cells #[v] t2) w.heap.size (by simp)).trans h1
  have h3 := heap_alloc_new (w.alloc (.cells #[u] t1)) (.cells #[v] t2)
  rw [show (w.alloc (Obj.cells #[u] t1)).heap.size = w.heap.size + 1 from by simp] at h3
  constructor
  · unfold World.cell?; rw [h2]; rfl
  · unfold World.cell?; rw [h3]; rfl

/-- What heads answers. -/
def Headed (x y : List Nat) (w : World) (e : Ending) (w' : World) : Prop :=
  ∃ T, 0 < T ∧ e = .returned (.tuple #[.int .i64 ((val x / T : Nat) : Int), .int .i64 ((val y / T : Nat) : Int)]) ∧ val x / T < 4611686018427387904 ∧ Below w.heap.size w w'

set_option maxHeartbeats 1000000 in
theorem heads_any {w : World} {vx vy : Value} {x y : List Nat} {m : Nat} (rx : Rd w vx x) (ry : Rd w vy y) (cx : Can x) (hlx : x.length = m + 3) (hm : m ≤ 1000) (hly : y.length ≤ m + 3) (hle : val y ≤ val x) :
    Calls Try.prog 53 #[vx, vy] w (Headed x y w) := by
  obtain ⟨adx, nx, capx, rfl, -⟩ := id rx
  obtain ⟨hnx, hcx, hlimx, hcell⟩ := rx.open
  obtain rfl : nx = m + 3 := by omega
  obtain ⟨b1, o1, rfl, hb1, hc⟩ := hcell (by omega)
  have hx1 := hc (m + 2) (by omega)
  clear hc hcell hnx
  have z0 : 0 < at0 x (m + 2) := by
    have := cx.2 (by omega)
    rw [hlx] at this
    have e : m + 3 - 1 = m + 2 := by omega
    rw [e] at this
    omega
  have z1 := at0_lt hlimx (m + 2)
  have hzy : at0 y (m + 2) ≤ at0 x (m + 2) := by
    rcases Nat.lt_or_ge (at0 x (m + 2)) (at0 y (m + 2)) with c | c
    · have := sm_less (x := at0 x) (y := at0 y) (fun j => at0_lt hlimx j) (i := m + 2) (n := m + 3) (by omega) (fun j h1 h2 => absurd h2 (by omega)) c
      rw [sm_all x (by omega), sm_all y hly] at this
      omega
    · exact c
  obtain ⟨z, hz⟩ : ∃ z, z = at0 x (m + 2) := ⟨_, rfl⟩
  rw [← hz] at hx1 z0 z1
  have HZ := Lib.hid hz; clear hz
  have HZY := Lib.hid hzy; clear hzy
  have HLX := Lib.hid hlx; clear hlx
  go_enter Try.func53, Try.ntmps53
  go_wp2_with (go_at_call 33; refine (lead_any z _ z1 z0).mono ?_; rintro e w' ⟨⟨s, rfl, hup⟩, rfl⟩)
  have hs : s ≤ 31 := hup.1
  have hfx : at0 x (m + 2) * 2 ^ s < 4294967296 := by rw [← HZ.out, Nat.mul_comm]; exact hup.2.2
  have hfy : at0 y (m + 2) * 2 ^ s < 4294967296 := Nat.lt_of_le_of_lt (Nat.mul_le_mul_right _ HZY.out) hfx
  have HUP := Lib.hid hup; clear hup
  obtain ⟨q1, q2⟩ := two_cells w (.int .i64 ((m : Int) + 3)) (.int .i64 (s : Int)) 3 3
  have hbW : Below w.heap.size w ((w.alloc (.cells #[.int .i64 ((m : Int) + 3)] 3)).alloc (.cells #[.int .i64 (s : Int)] 3)) := onto (alb _ _) (alb _ _)
  have big := head_val hlimx (m := m) (s := s) (by have := HLX.out; omega) hs hfx
  have BIG := Lib.hid big; clear big
  have HFX := Lib.hid hfx; clear hfx
  have HFY := Lib.hid hfy; clear hfy
  have rxW := rx.below hbW
  have ryW := ry.below hbW
  generalize (w.alloc (.cells #[.int .i64 ((m : Int) + 3)] 3)).alloc (.cells #[.int .i64 (s : Int)] 3) = W at q1 q2 hbW rxW ryW ⊢
  obtain ⟨pn, hpn⟩ : ∃ p : Addr, p = ⟨w.heap.size, 0, none⟩ := ⟨_, rfl⟩
  obtain ⟨pu, hpu⟩ : ∃ p : Addr, p = ⟨w.heap.size + 1, 0, none⟩ := ⟨_, rfl⟩
  rw [← hpn] at q1 ⊢
  rw [← hpu] at q2 ⊢
  have HPN := Lib.hid hpn; clear hpn
  have HPU := Lib.hid hpu; clear hpu
  have hsz : w.heap.size + 2 ≤ W.heap.size := by
    have h1 := World.block_lt_of_cell? W pu q2
    rw [HPU.out] at h1
    exact h1
  refine (head1_any (m := m) (s := s) rxW (by have := HLX.out; omega) hm hs HFX.out q1 q2).mono ?_
  rintro e w1 ⟨rfl, hb1'⟩
  have q1' : w1.cell? pn = some (.int .i64 ((m : Int) + 3)) := (hb1'.cell (by rw [HPN.out]; show w.heap.size < W.heap.size; omega)).trans q1
  have q2' : w1.cell? pu = some (.int .i64 (s : Int)) := (hb1'.cell (by rw [HPU.out]; show w.heap.size + 1 < W.heap.size; omega)).trans q2
  have ryW1 := ryW.below hb1'
  have hbW1 := onto hbW hb1'
  clear q1 q2 hb1' hbW ryW
  go_wp2_with fail
  refine (head1_any (m := m) (s := s) ryW1 hly hm hs HFY.out q1' q2').mono ?_
  rintro e w2 ⟨rfl, hb2'⟩
  have hbW2 := onto hbW1 hb2'
  clear hb2' hbW1
  go_wp2
  go_ret2
  refine ⟨2 ^ (34 - s) * pw m, Nat.mul_pos (Nat.two_pow_pos _) (pw_pos m), rfl, ?_, hbW2⟩
  obtain ⟨g1, g2, _⟩ := BIG.out
  rw [← g2]
  omega

end Go.Proofs.Ytpijjpjpedcbhaa
