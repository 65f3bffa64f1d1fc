/-
  nat.Mul: the product of two lists, in short, in new memory: each limb of the one puts a row of the other's to what is there. No condition but that each list has at most ten thousand limbs.
-/
import Derived.Test.YtkfododihdopiaaDoorShift
namespace Go.Proofs.YtkfododihdopiaaDoor
open Go.RowKit

theorem put_get (L : List Nat) (off : Nat) (l : List Nat) (h : off + l.length < L.length) : (put L off l)[off + l.length]? = some (at0 L (off + l.length)) := by
  have h1 : (L.take off).length = off := by rw [List.length_take]; omega
  unfold put at0
  rw [List.append_assoc, List.getElem?_append_right (by omega), h1, Nat.add_sub_cancel_left, List.getElem?_append_right (Nat.le_refl _), Nat.sub_self, List.getElem?_drop, Nat.add_zero, List.getD_eq_getElem?_getD, List.getElem?_eq_getElem h]
  rfl

/-- along over a row of a block, which is read and written at once. -/
theorem row_along (W : World) (g off n cap : Nat) (L : List Nat) (vb : Value) (y : List Nat) (fid : Nat) (caps : Array Value) (Inv : Nat → List Nat → Nat → Prop)
    (hL : off + n ≤ L.length) (hcap : n ≤ cap) (hg : Blk W g L) (hn : n ≤ 1000000) (hy : ∀ w', W.grownBy w' (some g) → Rd w' vb y) (ly : y.length ≤ 1000000)
    (hF : ∀ (k : Nat) l (c : Nat) w', k < n → l.length = k → W.grownBy w' (some g) → Inv k l c → c < 4294967296 →
      Calls Tryd.prog fid (#[.int .u32 (at0 L (off + k) : Int), .int .u32 (at0 y k : Int), .int .u32 (c : Int)] ++ caps) w' (Stepped Inv k l w'))
    (h0 : Inv 0 [] 0) (hcall : ∀ args w, (callFunc fid args).run Tryd.prog w = .ok (.enter fid args) w) :
    Calls Tryd.prog 33 #[.slice (some ⟨g, off, none⟩) n cap, .slice (some ⟨g, off, none⟩) n cap, vb, .func (.func fid) #[] caps] W (Alonged W g off n L Inv) := by
  refine along_any W g off n cap L _ vb fid caps (fun k => at0 L (off + k)) (at0 y) Inv hL hcap hg hn ?_ (fun k l w' _ _ h => limb_any (hy w' h.1) ly k) (fun k l c w' hk hl h hi hc => hF k l c w' hk hl h.1 hi hc) h0 hcall
  intro k l w' hk hl h
  subst hl
  exact limb_in g off n cap l.length _ w' hk hn (h.2.cell (put_get L off l (by omega)))

set_option maxHeartbeats 400000 in
theorem plus_any (t : Int) (w : World) :
    Calls Tryd.prog 36 #[.int .u32 t] w fun e w' => e = .returned (.func (.func 46) #[] #[.pointer (some ⟨w.heap.size, 0, none⟩)]) ∧ w' = w.alloc (.cells #[.int .u32 t] 35) := by
  go_enter Tryd.func36, Tryd.ntmps36
  go_wp2
  go_ret
  exact ⟨rfl, rfl⟩

/-- What has been put to a row so far. -/
def InvPlus (t : Nat) (x : Nat → Nat) (y : List Nat) (k : Nat) (l : List Nat) (c : Nat) : Prop := val l + pw k * c = sm x k + t * sm (at0 y) k

theorem plus_step (t : Nat) (ht : t < 4294967296) (x : Nat → Nat) (y : List Nat) (hy : Lim y) (p : Addr) (k : Nat) (hx : x k < 4294967296) (l : List Nat) (c : Nat) (w : World) (hl : l.length = k) (h : InvPlus t x y k l c) (hc : c < 4294967296) (hcell : w.cell? p = some (.int .u32 (t : Int))) :
    Calls Tryd.prog 46 (#[.int .u32 (x k : Int), .int .u32 (at0 y k : Int), .int .u32 (c : Int)] ++ #[.pointer (some p)]) w (Stepped (InvPlus t x y) k l w) := by
  have hy' := at0_lt hy k
  have hless := plus_less (x k) (at0 y k) c t hx hy' hc ht
  refine (plus1_any (x k) (at0 y k) c t p w hx hy' hc ht hcell).mono ?_
  rintro e w' ⟨rfl, rfl⟩
  refine ⟨⟨_, _, rfl, Nat.mod_lt _ (by decide), by omega, ?_⟩, rfl⟩
  unfold InvPlus at h ⊢
  have e := limb_parts (pw k) (t * at0 y k + x k + c)
  simp only [sm]
  rw [val_snoc, hl, pw_succ]
  rw [Nat.mul_add, Nat.mul_add, Nat.mul_left_comm] at e
  rw [Nat.mul_add]
  omega

/-- A limb of a list that another one has been put into. -/
theorem put_at (L : List Nat) (off : Nat) (l : List Nat) (h : off + l.length ≤ L.length) (j : Nat) : at0 (put L off l) j = if off ≤ j ∧ j < off + l.length then at0 l (j - off) else at0 L j := by
  have h1 : (L.take off).length = off := by rw [List.length_take]; omega
  unfold put at0
  simp only [List.getD_eq_getElem?_getD]
  by_cases c1 : j < off
  · rw [if_neg (by omega), List.append_assoc, List.getElem?_append_left (by omega), List.getElem?_take_of_lt c1]
  · by_cases c2 : j < off + l.length
    · rw [if_pos ⟨by omega, c2⟩, List.append_assoc, List.getElem?_append_right (by omega), h1, List.getElem?_append_left (by omega)]
    · rw [if_neg (by omega), List.getElem?_append_right (by rw [List.length_append, h1]; omega), List.length_append, h1, List.getElem?_drop, show off + l.length + (j - (off + l.length)) = j by omega]

theorem sm_shift (x : Nat → Nat) (off n : Nat) : sm x (off + n) = sm x off + pw off * sm (fun j => x (off + j)) n := by
  induction n with
  | zero => simp [sm]
  | succ n ih =>
    rw [← Nat.add_assoc]
    show sm x (off + n) + pw (off + n) * x (off + n) = sm x off + pw off * (sm (fun j => x (off + j)) n + pw n * x (off + n))
    rw [ih, pw_add, Nat.mul_add, Nat.mul_assoc]
    omega

theorem sm_congr {x y : Nat → Nat} {n : Nat} (h : ∀ j, j < n → x j = y j) : sm x n = sm y n := by
  induction n with
  | zero => rfl
  | succ n ih =>
    show sm x n + pw n * x n = sm y n + pw n * y n
    rw [ih fun j hj => h j (by omega), h n (by omega)]

/-- What a list is worth when one is put into it. -/
theorem put_val (L : List Nat) (off : Nat) (l : List Nat) (h : off + l.length ≤ L.length) :
    val (put L off l) + pw off * sm (fun j => at0 L (off + j)) l.length = val L + pw off * val l := by
  have hp := put_length L off l h
  have hsame : sm (at0 (put L off l)) L.length + sm (at0 L) (off + l.length) = sm (at0 L) L.length + sm (at0 (put L off l)) (off + l.length) :=
    sm_same h fun j h1 h2 => by rw [put_at _ _ _ h, if_neg (by omega)]
  have e1 : sm (at0 (put L off l)) (off + l.length) = sm (at0 L) off + pw off * val l := by
    rw [sm_shift, ← sm_all l (Nat.le_refl _)]
    congr 1
    · exact sm_congr fun j hj => by rw [put_at _ _ _ h, if_neg (by omega)]
    · congr 1
      exact sm_congr fun j hj => by rw [put_at _ _ _ h, if_pos ⟨by omega, by omega⟩, Nat.add_sub_cancel_left]
  rw [e1, sm_all _ (by omega), sm_all _ (Nat.le_refl _), sm_shift] at hsame
  omega

theorem put_lim {L : List Nat} {off : Nat} {l : List Nat} (h1 : Lim L) (h2 : Lim l) : Lim (put L off l) := by
  intro x hx
  unfold put at hx
  rcases List.mem_append.1 hx with h | h
  · rcases List.mem_append.1 h with h | h
    · exact h1 x (List.mem_of_mem_take h)
    · exact h2 x h
  · exact h1 x (List.mem_of_mem_drop h)

/-- After k rounds of Mul. -/
def MulAt (w : World) (a b : List Nat) (k : Nat) (wr : World) : Prop :=
  ∃ l, Blk wr w.heap.size l ∧ Lim l ∧ l.length = a.length + b.length ∧ val l = val a * sm (at0 b) k ∧ (∀ j, a.length + k ≤ j → at0 l j = 0) ∧ Below w.heap.size w wr

theorem at0_over {l : List Nat} {j : Nat} (h : l.length ≤ j) : at0 l j = 0 := by
  unfold at0; rw [List.getD_eq_getElem?_getD, List.getElem?_eq_none h]; rfl

theorem mul_round {a l m : List Nat} {k n t c : Nat} (ha : Lim a) (hl : Lim l) (ht : t < 4294967296) (hk : k + a.length + 1 ≤ l.length) (hm : m.length = a.length + 1) (hz : ∀ j, a.length + k ≤ j → at0 l j = 0)
    (hv : val l = val a * n) (hinv : InvPlus t (fun j => at0 l (k + j)) a (a.length + 1) m c) :
    val (put l k m) = val a * (n + pw k * t) ∧ ∀ j, a.length + (k + 1) ≤ j → at0 (put l k m) j = 0 := by
  have hp := put_val l k m (by omega)
  unfold InvPlus at hinv
  rw [hm] at hp
  rw [sm_all a (by omega)] at hinv
  have hrow : sm (fun j => at0 l (k + j)) (a.length + 1) < pw a.length := by
    show sm (fun j => at0 l (k + j)) a.length + pw a.length * at0 l (k + a.length) < _
    rw [hz _ (by omega)]
    have := sm_lt (x := fun j => at0 l (k + j)) (fun j => at0_lt hl _) a.length
    omega
  have hprod : t * val a ≤ 4294967295 * val a := Nat.mul_le_mul_right _ (by omega)
  have hva := val_lt a ha
  have hc : c = 0 := by
    rcases Nat.eq_zero_or_pos c with h | h
    · exact h
    · have := Nat.mul_le_mul_left (pw (a.length + 1)) h
      rw [pw_succ] at this hinv
      omega
  subst hc
  refine ⟨?_, fun j hj => ?_⟩
  · have e : pw k * val m = pw k * sm (fun j => at0 l (k + j)) (a.length + 1) + pw k * (t * val a) := by rw [← Nat.mul_add]; congr 1
    rw [Nat.mul_add, ← hv, Nat.mul_left_comm (val a), Nat.mul_comm (val a) t]
    omega
  · rw [put_at _ _ _ (by omega), if_neg (by omega)]; exact hz j (by omega)

/-- The row of one round. -/
theorem mul_row {w wr : World} {va : Value} {a l : List Nat} (ha : Rd w va a) (la : a.length ≤ 10000) {k n t R C : Nat} (hbel : Below w.heap.size w wr) (hblk : Blk wr w.heap.size l) (hl : Lim l) (ht : t < 4294967296)
    (hR : R = a.length + 1) (hC : R ≤ C) (hlen : k + R ≤ l.length) (hz : ∀ j, a.length + k ≤ j → at0 l j = 0) (hv : val l = val a * n) :
    Calls Tryd.prog 33 #[.slice (some ⟨w.heap.size, k, none⟩) R C, .slice (some ⟨w.heap.size, k, none⟩) R C, va, .func (.func 46) #[] #[.pointer (some ⟨wr.heap.size, 0, none⟩)]] (wr.alloc (.cells #[.int .u32 (t : Int)] 35)) fun e w2 =>
      ∃ c m, e = .returned (.int .u32 ((c : Nat) : Int)) ∧ Blk w2 w.heap.size (put l k m) ∧ Lim (put l k m) ∧ (put l k m).length = l.length ∧ val (put l k m) = val a * (n + pw k * t) ∧ (∀ j, a.length + (k + 1) ≤ j → at0 (put l k m) j = 0) ∧ Below w.heap.size w w2 := by
  subst hR
  have hne : w.heap.size < wr.heap.size := hblk.lt
  have hblk' : Blk (wr.alloc (.cells #[.int .u32 (t : Int)] 35)) w.heap.size l := blk_below hblk ((Below.refl _ _).alloc (Nat.le_refl _) _)
  have hcell : (wr.alloc (.cells #[.int .u32 (t : Int)] 35)).cell? ⟨wr.heap.size, 0, none⟩ = some (.int .u32 (t : Int)) := by simp
  have hbelA : Below w.heap.size w (wr.alloc (.cells #[.int .u32 (t : Int)] 35)) := hbel.alloc (by omega) _
  generalize wr.alloc (.cells #[.int .u32 (t : Int)] 35) = W at hblk' hcell hbelA
  have hbelB : ∀ w', W.grownBy w' (some w.heap.size) → Below w.heap.size w w' := fun w' h => hbelA.trans ⟨h.os, h.tape, h.output, h.size, fun j hj => h.block j (Nat.lt_of_lt_of_le hj hbelA.size) (by simp; omega)⟩
  refine (row_along W w.heap.size k (a.length + 1) C l va a 46 #[.pointer (some ⟨wr.heap.size, 0, none⟩)] (InvPlus t (fun j => at0 l (k + j)) a) hlen hC hblk' (by omega)
    (fun w' h => ha.below (hbelB w' h)) (by omega) (fun j m c w' hj hm hg hinv hc => plus_step t ht (fun j => at0 l (k + j)) a ha.lim _ j (at0_lt hl _) m c w' hm hinv hc (hg.cell hcell (by simp; omega)))
    (by simp [InvPlus, val, sm]) (fun _ _ => by simp [go_sem])).mono ?_
  rintro e w2 ⟨m, c, rfl, hm, hc, hlm, hinv, hsta⟩
  obtain ⟨r1, r2⟩ := mul_round ha.lim hl ht (by omega) hm hz hv hinv
  exact ⟨c, m, rfl, hsta.2, put_lim hl hlm, put_length _ _ _ (by omega), r1, r2, hbelB _ hsta.1⟩

set_option maxHeartbeats 1000000 in
theorem mul_any {w : World} {va vb : Value} {a b : List Nat} (ha : Rd w va a) (hb : Rd w vb b) (la : a.length ≤ 10000) (lb : b.length ≤ 10000) :
    Calls Tryd.prog 23 #[va, vb] w (Made w (val a * val b)) := by
  obtain ⟨i0, hi, hz0, hz1, hz2⟩ := info_parts Tryd.info36
  obtain ⟨ada, na, ca, rfl, hna0, -⟩ := id ha
  obtain ⟨adb, nb, cb, rfl, hnb0, -⟩ := id hb
  obtain ⟨hna, hca, hxa, -⟩ := ha.open
  obtain ⟨hnb, hcb, hxb, hcellb⟩ := hb.open
  clear hna0 hnb0
  have la' : na ≤ 10000 := by omega
  have lb' : nb ≤ 10000 := by omega
  clear la lb
  have HA := Lib.hid hna; clear hna
  have HB := Lib.hid hnb; clear hnb
  have HXA := Lib.hid hxa; clear hxa
  have HXB := Lib.hid hxb; clear hxb
  have HCB := Lib.hid hcellb; clear hcellb
  have HRA := Lib.hid ha; clear ha
  go_enter Tryd.func23, Tryd.ntmps23
  go_wp2_with (at_make; refine wpList_make_full _ rfl _ _ 22 rfl w.heap.size 35 i0 (.int .u32 0) 1 Tryd.underlying22 hi hz0 hz1 _ _ _ _ (na + nb) rfl rfl (by omega) (by omega) (by rw [hz2]; omega) (by unfold maxLen; omega) (Nat.le_refl _) ?_)
  intro w1 hown hgrow
  have H0 : MulAt w a b 0 w1 := by
    refine ⟨_, made_row hown, ?_, ?_, ?_, ?_, ?_⟩
    · intro x hx; rw [List.eq_of_mem_replicate hx]; decide
    · rw [List.length_replicate, ← HA.out, ← HB.out]
    · rw [← sm_all _ (Nat.le_refl _), List.length_replicate, sm_zeros (k := 0) (Nat.zero_le _)]
      · simp [sm]
      · intro j _ hj; unfold at0; simp [hj]
    · intro j _
      unfold at0; rw [List.getD_eq_getElem?_getD, List.getElem?_replicate]; split <;> rfl
    · exact grown_below hgrow (World.grownBy.refl _ _) (Nat.le_refl _)
  clear hown hgrow
  go_wp2_with fail
  go_loopw [17] (fun s wr => ∃ k : Nat, s = .int .i64 k ∧ k ≤ nb ∧ MulAt w a b k wr) (fun s _ => nb - (intOf s).toNat)
  case atStart => exact ⟨0, rfl, Nat.zero_le _, H0⟩
  case round =>
    obtain ⟨k, rfl, hk, hat⟩ := hrel
    clear H0
    obtain ⟨l, hblk, hlim, hlen, hval, hzero, hbel⟩ := hat
    rw [← HA.out, ← HB.out] at hlen
    have HL := Lib.hid hlen; clear hlen
    have HV := Lib.hid hval; clear hval
    have HZ := Lib.hid hzero; clear hzero
    by_cases hlt : k < nb
    · obtain ⟨b2, o2, rfl, hb2, hc2⟩ := HCB.out (by omega)
      have hd2 : wr.cell? ⟨b2, o2 + k, none⟩ = some (.int .u32 (at0 b k : Int)) := (hbel.cell (p := ⟨b2, o2 + k, none⟩) hb2).trans (hc2 k hlt)
      clear hc2
      have ht := at0_lt HXB.out k
      obtain ⟨t, het⟩ : ∃ t : Nat, t = at0 b k := ⟨_, rfl⟩
      rw [← het] at hd2 ht
      have HT := Lib.hid het; clear het
      go_wp2_with (go_at_call 36; refine (plus_any _ _).mono ?_; rintro e w' ⟨rfl, rfl⟩)
      refine (mul_row HRA.out (by have := HA.out; omega) hbel hblk hlim ht (by have := HA.out; omega) (by omega) (by have := HL.out; omega) HZ.out HV.out).mono ?_
      rintro e w2 ⟨c, m, rfl, r1, r2, r3, r4, r5, r6⟩
      have R3 := Lib.hid r3; clear r3
      have R4 := Lib.hid r4; clear r4
      have R5 := Lib.hid r5; clear r5
      go_wp2
      go_roundw
      case rel =>
        refine ⟨k + 1, by go_num, by omega, _, r1, r2, ?_, ?_, R5.out, r6⟩
        · rw [R3.out, HL.out, HA.out, HB.out]
        · rw [R4.out, HT.out]; rfl
      case measure => simp [intOf]; omega
    · obtain rfl : k = nb := by omega
      go_wp2_with fail
      refine (short_any (hblk.rd hlim HL.out (Nat.le_refl _)) (by have := HL.out; omega)).mono ?_
      rintro e w3 ⟨⟨ad, k', cap, l', rfl, hr', hcan, hv'⟩, rfl⟩
      have HV' := Lib.hid hv'; clear hv'
      go_wp2
      go_ret
      refine ⟨ad, k', cap, l', rfl, hr', hcan, ?_, hbel⟩
      rw [HV'.out, HV.out, sm_all b (by have := HB.out; omega)]

end Go.Proofs.YtkfododihdopiaaDoor
