/-
  nat.take: how often one number is in another one's row of limbs, and what is left there: a guess, that goes back by a goto while it was too great. The row has one limb more than the number, and less than 2^32 times it.
-/
import Derived.Test.YtkfododihdopiaaDoorLead
import Derived.ScopeJumps
namespace Go.Proofs.YtkfododihdopiaaDoor
open Go.RowKit

set_option maxHeartbeats 400000 in
theorem minus_any (t : Int) (w : World) :
    Calls Tryd.prog 56 #[.int .u32 t] w fun e w' => e = .returned (.func (.func 59) #[] #[.pointer (some ⟨w.heap.size, 0, none⟩)]) ∧ w' = w.alloc (.cells #[.int .u32 t] 35) := by
  go_enter Tryd.func56, Tryd.ntmps56
  go_wp2
  go_ret
  exact ⟨rfl, rfl⟩

/-- What has been taken from a row so far. -/
def InvMinus (t : Nat) (x : Nat → Nat) (y : List Nat) (k : Nat) (l : List Nat) (c : Nat) : Prop := val l + t * sm (at0 y) k = sm x k + pw k * c

theorem minus_step (t : Nat) (ht : t < 4294967296) (x : Nat → Nat) (y : List Nat) (hy : Lim y) (p : Addr) (k : Nat) (hx : x k < 4294967296) (l : List Nat) (c : Nat) (w : World) (hl : l.length = k) (h : InvMinus t x y k l c) (hc : c < 4294967296) (hcell : w.cell? p = some (.int .u32 (t : Int))) :
    Calls Tryd.prog 59 (#[.int .u32 (x k : Int), .int .u32 (at0 y k : Int), .int .u32 (c : Int)] ++ #[.pointer (some p)]) w (Stepped (InvMinus t x y) k l w) := by
  have hy' := at0_lt hy k
  obtain ⟨h1, h2⟩ := minus_wide (x k) (at0 y k) c t hx hy' hc ht
  refine (minus1_any (x k) (at0 y k) c t p w hx hy' hc ht hcell).mono ?_
  rintro e w' ⟨rfl, rfl⟩
  refine ⟨⟨_, _, rfl, Nat.mod_lt _ (by decide), h1, ?_⟩, rfl⟩
  unfold InvMinus at h ⊢
  have e := congrArg (pw k * ·) h2
  simp only [Nat.mul_add] at e
  rw [Nat.mul_left_comm (pw k) t] at e
  simp only [sm]
  rw [val_snoc, hl, pw_succ, Nat.mul_add, Nat.mul_comm 4294967296 (pw k), Nat.mul_assoc, Nat.mul_add, Nat.mul_add]
  omega

theorem addrow_step (x : Nat → Nat) (y : List Nat) (hy : Lim y) (k : Nat) (hx : x k < 4294967296) (l : List Nat) (c : Nat) (w : World) (hl : l.length = k) (h : InvPlus 1 x y k l c) (hc : c < 4294967296) :
    Calls Tryd.prog 34 (#[.int .u32 (x k : Int), .int .u32 (at0 y k : Int), .int .u32 (c : Int)] ++ #[]) w (Stepped (InvPlus 1 x y) k l w) := by
  have hy' := at0_lt hy k
  refine (add32_any _ _ _ w hx hy' hc).mono ?_
  rintro e w' ⟨rfl, rfl⟩
  refine ⟨⟨_, _, rfl, Nat.mod_lt _ (by decide), by omega, ?_⟩, rfl⟩
  unfold InvPlus at h ⊢
  have e := limb_parts (pw k) (x k + at0 y k + c)
  simp only [sm]
  rw [val_snoc, hl, pw_succ]
  rw [Nat.mul_add, Nat.mul_add] at e
  omega

theorem Rd.grown {w w' : World} {b2 o2 n cap g : Nat} {y : List Nat} (h : Rd w (.slice (some ⟨b2, o2, none⟩) n cap) y) (hne : b2 ≠ g) (hg : w.grownBy w' (some g)) : Rd w' (.slice (some ⟨b2, o2, none⟩) n cap) y := by
  obtain ⟨ad, n', cap', e, hn, hcap, hlim, hc⟩ := h
  simp only [Value.slice.injEq] at e
  obtain ⟨rfl, rfl, rfl⟩ := e
  refine ⟨_, _, _, rfl, hn, hcap, hlim, fun h0 => ?_⟩
  obtain ⟨b, o, e, hb, hcell⟩ := hc h0
  simp only [Option.some.injEq, Addr.mk.injEq, and_true] at e
  obtain ⟨rfl, rfl⟩ := e
  exact ⟨_, _, rfl, Nat.lt_of_lt_of_le hb hg.size, fun i x hi => hg.cell (hcell i x hi) (by simp; exact hne)⟩

theorem put_put (L : List Nat) (off : Nat) (l m : List Nat) (h : off + l.length ≤ L.length) (hm : m.length = l.length) : put (put L off l) off m = put L off m := by
  have h1 := put_length L off l h
  refine same_at (n := L.length) (fun j _ => ?_) (by rw [put_length _ _ _ (by omega), h1]) (by rw [put_length _ _ _ (by omega)])
  rw [put_at _ _ _ (by omega), put_at _ _ _ h, put_at _ _ m (by omega), hm]
  by_cases c : off ≤ j ∧ j < off + l.length
  · rw [if_pos c, if_pos c]
  · rw [if_neg c, if_neg c, if_neg c]

/-- What stands in a row of n + 1 limbs. -/
def rowVal (L : List Nat) (off n : Nat) : Nat := sm (fun j => at0 L (off + j)) (n + 1)

/-- While take guesses: q times y have been taken away; o is owed. -/
def TakeAt (w : World) (g off n : Nat) (L y : List Nat) (q o : Nat) (w' : World) : Prop :=
  ∃ m, w.grownBy w' (some g) ∧ Blk w' g (put L off m) ∧ m.length = n + 1 ∧ Lim m ∧ o < 4294967296 ∧ q < 4294967296 ∧ val m + q * val y = rowVal L off n + pw (n + 1) * o ∧ rowVal L off n < (q + 1) * val y

/-- What take answers. -/
def Taken (w : World) (g off n : Nat) (L y : List Nat) (e : Ending) (w' : World) : Prop :=
  ∃ q m, e = .returned (.int .u32 ((q : Nat) : Int)) ∧ q < 4294967296 ∧ w.grownBy w' (some g) ∧ Blk w' g (put L off m) ∧ Lim m ∧ m.length = n + 1 ∧ val m + q * val y = rowVal L off n ∧ val m < val y

theorem take_none {w w' : World} {g off n : Nat} {L y : List Nat} {q : Nat} (h : TakeAt w g off n L y q 0 w') : Taken w g off n L y (.returned (.int .u32 (q : Int))) w' := by
  obtain ⟨m, h1, h2, h3, h4, h5, h6, h7, h8⟩ := h
  rw [Nat.mul_zero, Nat.add_zero] at h7
  refine ⟨q, m, rfl, h6, h1, h2, h4, h3, h7, ?_⟩
  rw [← h7, Nat.add_mul, Nat.one_mul] at h8
  omega

/-- One guess back. -/
theorem take_back {w w' : World} {g off n capr b2 o2 capy : Nat} {L y : List Nat} {q o : Nat} (hat : TakeAt w g off n L y q o w') (ho : 0 < o) (hL : off + n + 1 ≤ L.length) (hn : n ≤ 10000) (hcap : n + 1 ≤ capr)
    (hy : Rd w (.slice (some ⟨b2, o2, none⟩) n capy) y) (hly : y.length = n) (hne : b2 ≠ g) (hLim : Lim L) :
    0 < q ∧ Calls Tryd.prog 33 #[.slice (some ⟨g, off, none⟩) (n + 1) capr, .slice (some ⟨g, off, none⟩) (n + 1) capr, .slice (some ⟨b2, o2, none⟩) n capy, .func (.func 34) #[] #[]] w' fun e w2 =>
      ∃ c, e = .returned (.int .u32 ((c : Nat) : Int)) ∧ c ≤ o ∧ TakeAt w g off n L y (q - 1) (o - c) w2 := by
  obtain ⟨m, h1, h2, h3, h4, h5, h6, h7, h8⟩ := hat
  have hm := val_lt m h4
  rw [h3] at hm
  have hop : pw (n + 1) * 1 ≤ pw (n + 1) * o := Nat.mul_le_mul_left _ ho
  have hq : 0 < q := by
    rcases Nat.eq_zero_or_pos q with h | h
    · subst h; rw [Nat.zero_mul] at h7; omega
    · exact h
  refine ⟨hq, ?_⟩
  have hlp := put_length L off m (by omega)
  refine (row_along w' g off (n + 1) capr (put L off m) _ y 34 #[] (InvPlus 1 (fun j => at0 (put L off m) (off + j)) y) (by omega) hcap h2 (by omega)
    (fun w2 hg => hy.grown hne (grown_trans h1 hg)) (by omega) (fun k l c w2 hk hl hg hinv hc => addrow_step (fun j => at0 (put L off m) (off + j)) y hy.lim k (at0_lt (put_lim hLim h4) _) l c w2 hl hinv hc)
    (by simp [InvPlus, val, sm]) (fun _ _ => by simp [go_sem])).mono ?_
  rintro e w2 ⟨l, c, rfl, hl, hc, hlim, hinv, hsta⟩
  unfold InvPlus at hinv
  have e1 : sm (fun j => at0 (put L off m) (off + j)) (n + 1) = val m := by
    rw [← sm_all m (k := n + 1) (by omega)]
    exact sm_congr fun j hj => by rw [put_at _ _ _ (by omega), if_pos ⟨by omega, by omega⟩, Nat.add_sub_cancel_left]
  rw [e1, sm_all y (by omega), Nat.one_mul] at hinv
  have hyl := val_lt y hy.lim
  rw [hly] at hyl
  have hl' := val_lt l hlim
  rw [hl] at hl'
  have hc1 : c ≤ 1 := by
    rcases Nat.lt_or_ge 1 c with h | h
    · have := Nat.mul_le_mul_left (pw (n + 1)) (show 2 ≤ c from h)
      have := pw_succ n
      omega
    · exact h
  have hsub : q * val y = (q - 1) * val y + val y := by
    obtain ⟨q', rfl⟩ : ∃ q', q = q' + 1 := ⟨q - 1, by omega⟩
    rw [Nat.add_sub_cancel, Nat.add_mul, Nat.one_mul]
  have hoc : pw (n + 1) * o = pw (n + 1) * (o - c) + pw (n + 1) * c := by rw [← Nat.mul_add]; congr 1; omega
  refine ⟨c, rfl, by omega, l, grown_trans h1 hsta.1, ?_, hl, hlim, by omega, by omega, by omega, ?_⟩
  · have := hsta.2
    rwa [put_put _ _ _ _ (by omega) (by omega)] at this
  · rw [show q - 1 + 1 = q from by omega]
    omega

/-- The first guess is not too small. -/
theorem take_guess {L y : List Nat} {off n : Nat} (hL : Lim L) (hlen : y.length = n + 1) (hR : rowVal L off (n + 1) < 4294967296 * val y) (q : Nat)
    (hq : 0 < at0 y n) (h : (q = 4294967295) ∨ (at0 L (off + (n + 1)) * 4294967296 + at0 L (off + n)) / at0 y n = q) : rowVal L off (n + 1) < (q + 1) * val y := by
  rcases h with rfl | h
  · exact hR
  · have h1 : at0 L (off + (n + 1)) * 4294967296 + at0 L (off + n) + 1 ≤ (q + 1) * at0 y n := by
      have := Nat.lt_mul_div_succ (at0 L (off + (n + 1)) * 4294967296 + at0 L (off + n)) hq
      rw [h, Nat.mul_comm (at0 y n)] at this
      exact this
    have h2 := sm_lt (x := fun j => at0 L (off + j)) (fun j => at0_lt hL _) n
    have h3 : rowVal L off (n + 1) < (at0 L (off + (n + 1)) * 4294967296 + at0 L (off + n) + 1) * pw n := by
      unfold rowVal
      show sm (fun j => at0 L (off + j)) n + pw n * at0 L (off + n) + pw (n + 1) * at0 L (off + (n + 1)) < _
      rw [pw_succ, Nat.add_mul, Nat.add_mul, Nat.one_mul, Nat.mul_comm (pw n) (at0 L (off + n)), Nat.mul_comm (4294967296 * pw n) _, ← Nat.mul_assoc]
      omega
    have h4 : (at0 L (off + (n + 1)) * 4294967296 + at0 L (off + n) + 1) * pw n ≤ (q + 1) * (at0 y n * pw n) := by
      rw [← Nat.mul_assoc]; exact Nat.mul_le_mul_right _ h1
    have h5 : at0 y n * pw n ≤ val y := by
      rw [← sm_all y (k := n + 1) (by omega)]
      show _ ≤ sm (at0 y) n + pw n * at0 y n
      rw [Nat.mul_comm]; omega
    have h6 := Nat.mul_le_mul_left (q + 1) h5
    omega

/-- The first guess is taken away. -/
theorem take_first {w W : World} {g off n capr b2 o2 capy : Nat} {L y : List Nat} {q : Nat} (hW : w.grownBy W (some g)) (hblk : Blk W g L) (p : Addr) (hp : W.cell? p = some (.int .u32 (q : Int))) (hpg : p.block ≠ g) (hL : off + n + 1 ≤ L.length) (hn : n ≤ 10000) (hcap : n + 1 ≤ capr)
    (hy : Rd w (.slice (some ⟨b2, o2, none⟩) n capy) y) (hly : y.length = n) (hne : b2 ≠ g) (hLim : Lim L) (hq : q < 4294967296) (hR : rowVal L off n < (q + 1) * val y) :
    Calls Tryd.prog 33 #[.slice (some ⟨g, off, none⟩) (n + 1) capr, .slice (some ⟨g, off, none⟩) (n + 1) capr, .slice (some ⟨b2, o2, none⟩) n capy, .func (.func 59) #[] #[.pointer (some p)]] W fun e w2 =>
      ∃ o, e = .returned (.int .u32 ((o : Nat) : Int)) ∧ TakeAt w g off n L y q o w2 := by
  refine (row_along W g off (n + 1) capr L _ y 59 #[.pointer (some p)] (InvMinus q (fun j => at0 L (off + j)) y) (by omega) hcap hblk (by omega)
    (fun w2 hg => hy.grown hne (grown_trans hW hg)) (by omega) (fun k l c w2 hk hl hg hinv hc => minus_step q hq (fun j => at0 L (off + j)) y hy.lim p k (at0_lt hLim _) l c w2 hl hinv hc (hg.cell hp (by simp; exact hpg)))
    (by simp [InvMinus, val, sm]) (fun _ _ => by simp [go_sem])).mono ?_
  rintro e w2 ⟨l, c, rfl, hl, hc, hlim, hinv, hsta⟩
  unfold InvMinus at hinv
  rw [sm_all y (by omega)] at hinv
  exact ⟨c, rfl, l, grown_trans hW hsta.1, hsta.2, hl, hlim, hc, hq, hinv, hR⟩

theorem new_cell (w : World) (n : Nat) (v : Value) (t : TypeId) : ((w.drewN n).alloc (.cells #[v] t)).cell? ⟨w.heap.size, 0, none⟩ = some v := by
  have h := heap_alloc_new (w.drewN n) (.cells #[v] t)
  have h' : ((w.drewN n).alloc (.cells #[v] t)).heap[w.heap.size]? = some (.cells #[v] t) := h
  unfold World.cell?
  rw [h']
  rfl

theorem grown_draw (w : World) (n : Nat) (r : Option Nat) : w.grownBy (w.drewN n) r := ⟨rfl, rfl, rfl, Nat.le_refl _, fun _ _ _ => rfl⟩

/-- The frame at the label. -/
def TakeFrame (g off n capr b2 o2 capy : Nat) (q o : Nat) (a : Act) : Prop :=
  ∃ (u6 u9 u10 u11 u12 u13 u14 u15 u16 u17 u18 u19 u20 u21 u22 u23 u24 u25 u26 u27 u28 u29 u30 u31 u32 u33 u34 u35 u36 u37 u38 u39 u40 u41 u42 u43 u44 u45 u46 u47 u48 u49 u50 : Value), a = { tmps := #[.slice (some ⟨g, off, none⟩) (n + 1 + 1) capr, .slice (some ⟨b2, o2, none⟩) (n + 1) capy, undef, undef, .int .u32 0, .int .i64 ((n : Int) + 1), u6, .int .u32 (q : Int), .int .u32 (o : Int), u9, u10, u11, u12, u13, u14, u15, u16, u17, u18, u19, u20, u21, u22, u23, u24, u25, u26, u27, u28, u29, u30, u31, u32, u33, u34, u35, u36, u37, u38, u39, u40, u41, u42, u43, u44, u45, u46, u47, u48, u49, u50], defers := [] }

set_option maxHeartbeats 2000000 in
theorem take_any {w : World} {g off n capr b2 o2 capy : Nat} {L y : List Nat} (hblk : Blk w g L) (hLim : Lim L) (hL : off + (n + 1) + 1 ≤ L.length) (hn : n + 1 ≤ 10000) (hcap : n + 1 + 1 ≤ capr)
    (hy : Rd w (.slice (some ⟨b2, o2, none⟩) (n + 1) capy) y) (hne : b2 ≠ g) (hy0 : 0 < at0 y n) (hR : rowVal L off (n + 1) < 4294967296 * val y) :
    Calls Tryd.prog 49 #[.slice (some ⟨g, off, none⟩) (n + 1 + 1) capr, .slice (some ⟨b2, o2, none⟩) (n + 1) capy] w (Taken w g off (n + 1) L y) := by
  obtain ⟨hly, hcapy, hyl, hcy⟩ := hy.open
  obtain ⟨b2', o2', e, hb2, hcy⟩ := hcy (by omega)
  simp only [Option.some.injEq, Addr.mk.injEq, and_true] at e
  obtain ⟨rfl, rfl⟩ := e
  have hx1 := hblk.cell (i := off + (n + 1)) (x := at0 L (off + (n + 1))) (by unfold at0; rw [List.getD_eq_getElem?_getD, List.getElem?_eq_getElem (by omega)]; rfl)
  have hx2 := hblk.cell (i := off + n) (x := at0 L (off + n)) (by unfold at0; rw [List.getD_eq_getElem?_getD, List.getElem?_eq_getElem (by omega)]; rfl)
  have hx3 := hcy n (by omega)
  have l1 := at0_lt hLim (off + (n + 1))
  have l2 := at0_lt hLim (off + n)
  have l3 := at0_lt hyl n
  have gs := fun q => take_guess hLim hly.symm hR q hy0
  obtain ⟨x, hx⟩ : ∃ x, x = at0 L (off + (n + 1)) := ⟨_, rfl⟩
  obtain ⟨x', hx'⟩ : ∃ x, x = at0 L (off + n) := ⟨_, rfl⟩
  obtain ⟨z, hz⟩ : ∃ z, z = at0 y n := ⟨_, rfl⟩
  rw [← hx, ← hx', ← hz] at gs
  rw [← hx] at hx1 l1
  rw [← hx'] at hx2 l2
  rw [← hz] at hx3 l3 hy0
  clear hx hx' hz hcy hR
  obtain ⟨T, hT⟩ : ∃ T : Nat, T = x * 4294967296 + x' := ⟨_, rfl⟩
  obtain ⟨q0, hq0⟩ : ∃ q : Nat, q = T / z := ⟨_, rfl⟩
  obtain ⟨q, hq⟩ : ∃ q : Nat, q = min q0 4294967295 := ⟨_, rfl⟩
  have hq1 : q < 4294967296 := by omega
  have hR := gs q (by rw [← hT, ← hq0]; omega)
  clear gs
  have e1 : bits .or .u64 ((x : Int) * 4294967296) (x' : Int) = (T : Int) := by
    rw [show (x : Int) * 4294967296 = ((x * 4294967296 : Nat) : Int) from by omega, u64_or_nat _ _ (by omega) (by omega), nat_join 32 _ _ (Nat.mul_mod_left _ _) l2, hT]
  have hT2 : T / z ≤ T := Nat.div_le_self _ _
  have e2 : IntKind.u64.wrap ((T : Int).tdiv (z : Int)) = (q0 : Int) := by
    rw [IntWalk.u64_in _ ?_, hq0]
    · rfl
    · rw [show (T : Int).tdiv (z : Int) = ((T / z : Nat) : Int) from rfl]; omega
  have e3 : min (q0 : Int) 4294967295 % 4294967296 = (q : Int) := by omega
  have e5 : min (q0 : Int) 4294967295 = (q : Int) := by omega
  have e4 : IntKind.u64.wrap ((T : Int) / (z : Int)) = (q0 : Int) := by
    rw [← e2]; rfl
  have HT := Lib.hid hT; clear hT
  have HQ0 := Lib.hid hq0; clear hq0
  have HQ := Lib.hid hq; clear hq
  have HR := Lib.hid hR; clear hR
  have HLY := Lib.hid hly; clear hly
  clear hT2
  have HYL := Lib.hid hyl; clear hyl
  go_enter Tryd.func49, Tryd.ntmps49
  go_wp2
  refine wp_scope_jumps 0 (fun a' w' => ∃ q o : Nat, TakeFrame g off n capr b2 o2 capy q o a' ∧ TakeAt w g off (n + 1) L y q o w') (fun a' _ => (intOf (a'.tmps.getD 7 undef)).toNat) rfl ?_ ?_
  · go_wp2
    go_quiet (fail)
    go_wp2_with (go_at_call 56; refine (minus_any _ _).mono ?_; rintro e w' ⟨rfl, rfl⟩)
    refine (take_first (w := w) (q := q) (grown_trans (grown_draw w nq (some g)) (World.grownBy_alloc _ _ _)) (blk_below (blk_below hblk (drewN_below w nq)) ((Below.refl _ _).alloc (Nat.le_refl _) _)) ⟨w.heap.size, 0, none⟩ (new_cell _ _ _ _) (Nat.ne_of_gt hblk.lt) (by omega) hn hcap hy HLY.out.symm hne hLim hq1 HR.out).mono ?_
    rintro e w2 ⟨o, rfl, hat⟩
    clear e1 e2 e3 e4 e5 hx1 hx2 hx3
    by_cases ho : o = 0
    · subst ho
      go_wp2
      go_step3
      go_wp2
      simp only [Exit.jump]
      go_ret
      exact take_none hat
    · have ho1 : ((o : Int) != 0) = true := by rw [bne_iff_ne]; omega
      obtain ⟨hq, hback⟩ := take_back hat (by omega) (by omega) hn hcap hy HLY.out.symm hne hLim
      have HBK := Lib.hid hback; clear hback
      have HAT := Lib.hid hat; clear hat
      have HO := Lib.hid ho; clear ho
      have ho3 : o < 4294967296 := by obtain ⟨_, _, _, _, _, h, _⟩ := HAT.out; exact h
      obtain ⟨q', rfl⟩ : ∃ q', q = q' + 1 := ⟨q - 1, by omega⟩
      go_wp2
      go_step3
      go_wp2_with fail
      refine HBK.out.mono ?_
      rintro e w3 ⟨c, rfl, hco, hat'⟩
      obtain ⟨o', rfl⟩ : ∃ o', o = o' + c := ⟨o - c, by omega⟩
      rw [Nat.add_sub_cancel, Nat.add_sub_cancel] at hat'
      have HAT' := Lib.hid hat'; clear hat'
      go_wp2
      go_step3
      exact ⟨rfl, q', o', ⟨_, _, _, _, _, _, _, _, _, _, _, _, _, _, _, _, _, _, _, _, _, _, _, _, _, _, _, _, _, _, _, _, _, _, _, _, _, _, _, _, _, _, _, rfl⟩, HAT'.out⟩
  · rintro a' w' ⟨q, o, ⟨u6, u9, u10, u11, u12, u13, u14, u15, u16, u17, u18, u19, u20, u21, u22, u23, u24, u25, u26, u27, u28, u29, u30, u31, u32, u33, u34, u35, u36, u37, u38, u39, u40, u41, u42, u43, u44, u45, u46, u47, u48, u49, u50, rfl⟩, hat⟩
    clear e1 e2 e3 e4 e5 hx1 hx2 hx3 HR HQ
    by_cases ho : o = 0
    · subst ho
      go_wp2
      simp only [Exit.jump]
      go_ret
      exact take_none hat
    · have ho1 : ((o : Int) != 0) = true := by rw [bne_iff_ne]; omega
      obtain ⟨hq, hback⟩ := take_back hat (by omega) (by omega) hn hcap hy HLY.out.symm hne hLim
      have HBK := Lib.hid hback; clear hback
      have HAT := Lib.hid hat; clear hat
      have HO := Lib.hid ho; clear ho
      have ho3 : o < 4294967296 := by obtain ⟨_, _, _, _, _, h, _⟩ := HAT.out; exact h
      have hq1 : q < 4294967296 := by obtain ⟨_, _, _, _, _, _, h, _⟩ := HAT.out; exact h
      obtain ⟨q', rfl⟩ : ∃ q', q = q' + 1 := ⟨q - 1, by omega⟩
      go_wp2_with fail
      refine HBK.out.mono ?_
      rintro e w3 ⟨c, rfl, hco, hat'⟩
      obtain ⟨o', rfl⟩ : ∃ o', o = o' + c := ⟨o - c, by omega⟩
      rw [Nat.add_sub_cancel, Nat.add_sub_cancel] at hat'
      have HAT' := Lib.hid hat'; clear hat'
      go_wp2
      go_step3
      refine ⟨rfl, ⟨q', o', ⟨_, _, _, _, _, _, _, _, _, _, _, _, _, _, _, _, _, _, _, _, _, _, _, _, _, _, _, _, _, _, _, _, _, _, _, _, _, _, _, _, _, _, _, rfl⟩, HAT'.out⟩, ?_⟩
      show (intOf (.int .u32 (q' : Int))).toNat < (intOf (.int .u32 ((q' : Int) + 1))).toNat
      simp only [intOf]
      omega

end Go.Proofs.YtkfododihdopiaaDoor
