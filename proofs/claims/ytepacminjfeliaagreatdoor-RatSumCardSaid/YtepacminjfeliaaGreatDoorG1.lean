/-
  A part of the proof: Same, Shift, Mul, Shelf, Lead, Take, DivNum.
-/
import Derived.Test.YtepacminjfeliaaGreatDoorG0
import Derived.Shelf.Small.Bits
import Derived.Test.YtepacminjfeliaaGreatDoorProg
import Derived.ScopeJumps
/-
  The document's Same: are two lists alike, limb by limb. Lists of at most a million limbs.
-/
namespace Go.Proofs.YtepacminjfeliaaGreatDoor
open Go.RowKit

/-- What Same answers. -/
def Samed (w : World) (t : Bool) (e : Ending) (w' : World) : Prop := e = .returned (.bool t) ∧ Below w.heap.size w w'

theorem same_at {a b : List Nat} {n : Nat} (h : ∀ j, j < n → at0 a j = at0 b j) (hna : n = a.length) (hnb : n = b.length) : a = b :=
  agree_same (n := n) (fun j _ h2 => h j (by omega)) hna.symm hnb.symm

end Go.Proofs.YtepacminjfeliaaGreatDoor

/-
  nat.shift: a list times 2 to a power of 32 at most, in one limb more. No condition but that the list has at most ten thousand limbs.
-/
namespace Go.Proofs.YtepacminjfeliaaGreatDoor
open Go.RowKit

/-- What has been shifted so far. -/
def InvShift (s : Nat) (a : List Nat) (k : Nat) (l : List Nat) (c : Nat) : Prop := val l + pw k * c = 2 ^ s * sm (at0 a) k ∧ c < 2 ^ s

/-- A wide limb is its low part and what is handed on. -/
theorem limb_parts (p m : Nat) : p * (m % 4294967296) + 4294967296 * p * (m / 4294967296) = p * m := by
  rw [Nat.mul_comm 4294967296 p, Nat.mul_assoc, ← Nat.mul_add, Nat.mod_add_div]

theorem shift_step (s : Nat) (hs : s ≤ 32) (a : List Nat) (ha : Lim a) (p : Addr) (k : Nat) (l : List Nat) (c : Nat) (w : World) (hl : l.length = k) (h : InvShift s a k l c) (hcell : w.cell? p = some (.int .i64 (s : Int))) :
    Calls Tryz.prog 133 (#[.int .u32 (at0 a k : Int), .int .u32 (at0 [] k : Int), .int .u32 (c : Int)] ++ #[.pointer (some p)]) w (Stepped (InvShift s a) k l w) := by
  obtain ⟨h, hc⟩ := h
  have hx := at0_lt ha k
  obtain ⟨_, h1, h2⟩ := shift_wide (at0 a k) c s hx hc hs
  refine (shift1_any (at0 a k) (at0 [] k) c s p w hx hc hs hcell).mono ?_
  rintro e w' ⟨rfl, rfl⟩
  refine ⟨⟨_, _, rfl, Nat.mod_lt _ (by decide), by omega, ?_, h2⟩, rfl⟩
  have e := limb_parts (pw k) (2 ^ s * at0 a k + c)
  simp only [sm]
  rw [val_snoc, hl, pw_succ]
  rw [Nat.mul_add, Nat.mul_left_comm] at e
  rw [Nat.mul_add]
  omega

/-- What shift answers of a list a of na limbs. -/
def Shifted (w : World) (s : Nat) (a : List Nat) (na : Nat) (e : Ending) (w' : World) : Prop :=
  ∃ g l, w.heap.size ≤ g ∧ e = .returned (.slice (some ⟨g, 0, none⟩) (na + 1) (na + 1)) ∧ Blk w' g l ∧ Lim l ∧ l.length = na + 1 ∧ val l = 2 ^ s * val a ∧ Below w.heap.size w w'

theorem blk_below {w w' : World} {g : Nat} {L : List Nat} (h : Blk w g L) (hb : Below w.heap.size w w') : Blk w' g L := (hb.block g h.lt).trans h

set_option maxRecDepth 100000 in
set_option maxHeartbeats 1000000 in
theorem shift_any {w : World} {va : Value} {a : List Nat} (ha : Rd w va a) (la : a.length ≤ 10000) (s : Nat) (hs : s ≤ 32) :
    Calls Tryz.prog 109 #[va, .int .i64 (s : Int)] w (Shifted w s a a.length) := by
  obtain ⟨i0, hi, hz0, hz1, hz2⟩ := info_parts Tryz.info36
  obtain ⟨ada, na, ca, rfl, hna, hca, hxa, -⟩ := id ha
  have la' : na ≤ 10000 := by omega
  rw [← hna]
  have HA := Lib.hid hna; clear hna
  have HXA := Lib.hid hxa; clear hxa
  have key : ∀ (W w1 : World) (p : Addr) (G : Nat), W.heap.size = G → Below w.heap.size w W → p.block < W.heap.size → W.cell? p = some (.int .i64 (s : Int)) → w.heap.size ≤ W.heap.size →
      w1.ownsRow G 75 1 (.slice (some ⟨G, 0, none⟩) (na + 1) (na + 1)) (na + 1) (madeCells #[Value.int .u32 0] (na + 1)).toList → W.grownBy w1 none →
      Calls Tryz.prog 86 #[.slice (some ⟨G, 0, none⟩) (na + 1) (na + 1), .slice ada na ca, .slice none 0 0, .func (.func 133) #[] #[.pointer (some p)]] w1 fun e w2 => ∃ c l, e = .returned (.int .u32 ((c : Nat) : Int)) ∧ Blk w2 G l ∧ Lim l ∧ l.length = na + 1 ∧ val l = 2 ^ s * val a ∧ Below w.heap.size w w2 := by
    intro W w1 p G hG hW hp hcell hsz hown hgrow
    subst hG
    have hblk := made_row hown
    have hold : ∀ l w', Sta w1 W.heap.size 0 (List.replicate (na + 1) 0) l w' → Below w.heap.size w w' := fun l w' h => hW.trans ((grown_below hgrow h.1 (Nat.le_refl _)).mono hsz)
    have hcell' : ∀ l w', Sta w1 W.heap.size 0 (List.replicate (na + 1) 0) l w' → w'.cell? p = some (.int .i64 (s : Int)) := fun l w' h => ((grown_below hgrow h.1 (Nat.le_refl _)).cell hp).trans hcell
    refine (along_any w1 W.heap.size 0 (na + 1) (na + 1) (List.replicate (na + 1) 0) _ _ 133 #[.pointer (some p)] (at0 a) (at0 []) (InvShift s a) (by simp) (Nat.le_refl _) hblk (by omega)
      (fun k l w' _ _ h => limb_any (ha.below (hold l w' h)) (by omega) k) (fun k l w' _ _ h => limb_any (Rd.nil _) (by simp) k)
      (fun k l c w' _ hl h hinv hc => shift_step s hs a HXA.out p k l c w' hl hinv (hcell' l w' h)) ⟨by simp [val, sm], Nat.two_pow_pos s⟩ (fun _ _ => by simp [go_sem])).mono ?_
    rintro e w2 ⟨l, c, rfl, hl, hc, hL, ⟨hinv, _⟩, hsta⟩
    have hbel := hold l w2 hsta
    have h4 := hsta.2
    rw [put_whole hl] at h4
    refine ⟨c, l, rfl, h4, hL, hl, ?_, hbel⟩
    have e1 := HA.out
    rw [sm_all a (by omega)] at hinv
    have v1 := val_lt a HXA.out
    rw [← e1] at v1
    have h2 : 2 ^ s ≤ 4294967296 := Nat.pow_le_pow_right (by decide) hs (n := 2)
    have h3 : 2 ^ s * val a < 4294967296 * pw na := by
      have := Nat.mul_le_mul_right (val a) h2
      omega
    have : c = 0 := by
      rcases Nat.eq_zero_or_pos c with h | h
      · exact h
      · have := Nat.mul_le_mul_left (pw (na + 1)) h
        rw [pw_succ] at this hinv
        omega
    subst this
    omega
  have KEY := Lib.hid key; clear key
  have HRA := Lib.hid ha; clear ha
  go_enter Tryz.func109, Tryz.ntmps109
  go_wp2_with (at_make; refine wpList_make_full _ rfl _ _ 38 rfl (w.heap.size + 1) 75 i0 (.int .u32 0) 1 Tryz.underlying38 hi hz0 hz1 _ _ _ _ (na + 1) rfl rfl (by omega) (by omega) (by rw [hz2]; omega) (by unfold maxLen; omega) (by simp) ?_)
  intro w1 hown hgrow
  have HO := Lib.hid hown; clear hown
  have HG := Lib.hid hgrow; clear hgrow
  go_wp2_with fail
  refine (KEY.out (w.alloc (.cells #[.int .i64 (s : Int)] 3)) w1 ⟨w.heap.size, 0, none⟩ (w.heap.size + 1) (by simp) ((Below.refl _ _).alloc (Nat.le_refl _) _) (by simp) (by simp) (by simp) HO.out HG.out).mono ?_
  rintro e w2 ⟨c, l, rfl, hb, hL, hl, hv, hbel⟩
  have HV := Lib.hid hv; clear hv
  have HL := Lib.hid hl; clear hl
  go_wp2
  go_ret
  exact ⟨w.heap.size + 1, l, by omega, rfl, hb, hL, HL.out, HV.out, hbel⟩

end Go.Proofs.YtepacminjfeliaaGreatDoor

/-
  nat.Mul: the product of two lists, in short, in new memory: each limb of the one puts a row of the other's to what is there. No condition but that each list has at most ten thousand limbs.
-/
namespace Go.Proofs.YtepacminjfeliaaGreatDoor
open Go.RowKit

theorem put_get (L : List Nat) (off : Nat) (l : List Nat) (h : off + l.length < L.length) : (put L off l)[off + l.length]? = some (at0 L (off + l.length)) := by
  have h1 : (L.take off).length = off := by rw [List.length_take]; omega
  unfold put at0
  rw [List.append_assoc, List.getElem?_append_right (by omega), h1, Nat.add_sub_cancel_left, List.getElem?_append_right (Nat.le_refl _), Nat.sub_self, List.getElem?_drop, Nat.add_zero, List.getD_eq_getElem?_getD, List.getElem?_eq_getElem h]
  rfl

/-- along over a row of a block, which is read and written at once. -/
theorem row_along (W : World) (g off n cap : Nat) (L : List Nat) (vb : Value) (y : List Nat) (fid : Nat) (caps : Array Value) (Inv : Nat → List Nat → Nat → Prop)
    (hL : off + n ≤ L.length) (hcap : n ≤ cap) (hg : Blk W g L) (hn : n ≤ 1000000) (hy : ∀ w', W.grownBy w' (some g) → Rd w' vb y) (ly : y.length ≤ 1000000)
    (hF : ∀ (k : Nat) l (c : Nat) w', k < n → l.length = k → W.grownBy w' (some g) → Inv k l c → c < 4294967296 →
      Calls Tryz.prog fid (#[.int .u32 (at0 L (off + k) : Int), .int .u32 (at0 y k : Int), .int .u32 (c : Int)] ++ caps) w' (Stepped Inv k l w'))
    (h0 : Inv 0 [] 0) (hcall : ∀ args w, (callFunc fid args).run Tryz.prog w = .ok (.enter fid args) w) :
    Calls Tryz.prog 86 #[.slice (some ⟨g, off, none⟩) n cap, .slice (some ⟨g, off, none⟩) n cap, vb, .func (.func fid) #[] caps] W (Alonged W g off n L Inv) := by
  refine along_any W g off n cap L _ vb fid caps (fun k => at0 L (off + k)) (at0 y) Inv hL hcap hg hn ?_ (fun k l w' _ _ h => limb_any (hy w' h.1) ly k) (fun k l c w' hk hl h hi hc => hF k l c w' hk hl h.1 hi hc) h0 hcall
  intro k l w' hk hl h
  subst hl
  exact limb_in g off n cap l.length _ w' hk hn (h.2.cell (put_get L off l (by omega)))

set_option maxRecDepth 100000 in
set_option maxHeartbeats 400000 in
theorem plus_any (t : Int) (w : World) :
    Calls Tryz.prog 87 #[.int .u32 t] w fun e w' => e = .returned (.func (.func 119) #[] #[.pointer (some ⟨w.heap.size, 0, none⟩)]) ∧ w' = w.alloc (.cells #[.int .u32 t] 75) := by
  go_enter Tryz.func87, Tryz.ntmps87
  go_wp2
  go_ret
  exact ⟨rfl, rfl⟩

/-- What has been put to a row so far. -/
def InvPlus (t : Nat) (x : Nat → Nat) (y : List Nat) (k : Nat) (l : List Nat) (c : Nat) : Prop := val l + pw k * c = sm x k + t * sm (at0 y) k

theorem plus_step (t : Nat) (ht : t < 4294967296) (x : Nat → Nat) (y : List Nat) (hy : Lim y) (p : Addr) (k : Nat) (hx : x k < 4294967296) (l : List Nat) (c : Nat) (w : World) (hl : l.length = k) (h : InvPlus t x y k l c) (hc : c < 4294967296) (hcell : w.cell? p = some (.int .u32 (t : Int))) :
    Calls Tryz.prog 119 (#[.int .u32 (x k : Int), .int .u32 (at0 y k : Int), .int .u32 (c : Int)] ++ #[.pointer (some p)]) w (Stepped (InvPlus t x y) k l w) := by
  have hy' := at0_lt hy k
  have hless := plus_less (x k) (at0 y k) c t hx hy' hc ht
  refine (plus1_any (x k) (at0 y k) c t p w hx hy' hc ht hcell).mono ?_
  rintro e w' ⟨rfl, rfl⟩
  refine ⟨⟨_, _, rfl, Nat.mod_lt _ (by decide), by omega, ?_⟩, rfl⟩
  unfold InvPlus at h ⊢
  have e := limb_parts (pw k) (t * at0 y k + x k + c)
  simp only [sm]
  rw [val_snoc, hl, pw_succ]
  rw [Nat.mul_add, Nat.mul_add, Nat.mul_left_comm] at e
  rw [Nat.mul_add]
  omega

/-- A limb of a list that another one has been put into. -/
theorem put_at (L : List Nat) (off : Nat) (l : List Nat) (h : off + l.length ≤ L.length) (j : Nat) : at0 (put L off l) j = if off ≤ j ∧ j < off + l.length then at0 l (j - off) else at0 L j := by
  have h1 : (L.take off).length = off := by rw [List.length_take]; omega
  unfold put at0
  simp only [List.getD_eq_getElem?_getD]
  by_cases c1 : j < off
  · rw [if_neg (by omega), List.append_assoc, List.getElem?_append_left (by omega), List.getElem?_take_of_lt c1]
  · by_cases c2 : j < off + l.length
    · rw [if_pos ⟨by omega, c2⟩, List.append_assoc, List.getElem?_append_right (by omega), h1, List.getElem?_append_left (by omega)]
    · rw [if_neg (by omega), List.getElem?_append_right (by rw [List.length_append, h1]; omega), List.length_append, h1, List.getElem?_drop, show off + l.length + (j - (off + l.length)) = j by omega]

theorem sm_shift (x : Nat → Nat) (off n : Nat) : sm x (off + n) = sm x off + pw off * sm (fun j => x (off + j)) n := by
  induction n with
  | zero => simp [sm]
  | succ n ih =>
    rw [← Nat.add_assoc]
    show sm x (off + n) + pw (off + n) * x (off + n) = sm x off + pw off * (sm (fun j => x (off + j)) n + pw n * x (off + n))
    rw [ih, pw_add, Nat.mul_add, Nat.mul_assoc]
    omega

theorem sm_congr {x y : Nat → Nat} {n : Nat} (h : ∀ j, j < n → x j = y j) : sm x n = sm y n := by
  induction n with
  | zero => rfl
  | succ n ih =>
    show sm x n + pw n * x n = sm y n + pw n * y n
    rw [ih fun j hj => h j (by omega), h n (by omega)]

/-- What a list is worth when one is put into it. -/
theorem put_val (L : List Nat) (off : Nat) (l : List Nat) (h : off + l.length ≤ L.length) :
    val (put L off l) + pw off * sm (fun j => at0 L (off + j)) l.length = val L + pw off * val l := by
  have hp := put_length L off l h
  have hsame : sm (at0 (put L off l)) L.length + sm (at0 L) (off + l.length) = sm (at0 L) L.length + sm (at0 (put L off l)) (off + l.length) :=
    sm_same h fun j h1 h2 => by rw [put_at _ _ _ h, if_neg (by omega)]
  have e1 : sm (at0 (put L off l)) (off + l.length) = sm (at0 L) off + pw off * val l := by
    rw [sm_shift, ← sm_all l (Nat.le_refl _)]
    congr 1
    · exact sm_congr fun j hj => by rw [put_at _ _ _ h, if_neg (by omega)]
    · congr 1
      exact sm_congr fun j hj => by rw [put_at _ _ _ h, if_pos ⟨by omega, by omega⟩, Nat.add_sub_cancel_left]
  rw [e1, sm_all _ (by omega), sm_all _ (Nat.le_refl _), sm_shift] at hsame
  omega

theorem put_lim {L : List Nat} {off : Nat} {l : List Nat} (h1 : Lim L) (h2 : Lim l) : Lim (put L off l) := by
  intro x hx
  unfold put at hx
  rcases List.mem_append.1 hx with h | h
  · rcases List.mem_append.1 h with h | h
    · exact h1 x (List.mem_of_mem_take h)
    · exact h2 x h
  · exact h1 x (List.mem_of_mem_drop h)

/-- After k rounds of Mul. -/
def MulAt (w : World) (a b : List Nat) (k : Nat) (wr : World) : Prop :=
  ∃ l, Blk wr w.heap.size l ∧ Lim l ∧ l.length = a.length + b.length ∧ val l = val a * sm (at0 b) k ∧ (∀ j, a.length + k ≤ j → at0 l j = 0) ∧ Below w.heap.size w wr

theorem at0_over {l : List Nat} {j : Nat} (h : l.length ≤ j) : at0 l j = 0 := by
  unfold at0; rw [List.getD_eq_getElem?_getD, List.getElem?_eq_none h]; rfl

theorem mul_round {a l m : List Nat} {k n t c : Nat} (ha : Lim a) (hl : Lim l) (ht : t < 4294967296) (hk : k + a.length + 1 ≤ l.length) (hm : m.length = a.length + 1) (hz : ∀ j, a.length + k ≤ j → at0 l j = 0)
    (hv : val l = val a * n) (hinv : InvPlus t (fun j => at0 l (k + j)) a (a.length + 1) m c) :
    val (put l k m) = val a * (n + pw k * t) ∧ ∀ j, a.length + (k + 1) ≤ j → at0 (put l k m) j = 0 := by
  have hp := put_val l k m (by omega)
  unfold InvPlus at hinv
  rw [hm] at hp
  rw [sm_all a (by omega)] at hinv
  have hrow : sm (fun j => at0 l (k + j)) (a.length + 1) < pw a.length := by
    show sm (fun j => at0 l (k + j)) a.length + pw a.length * at0 l (k + a.length) < _
    rw [hz _ (by omega)]
    have := sm_lt (x := fun j => at0 l (k + j)) (fun j => at0_lt hl _) a.length
    omega
  have hprod : t * val a ≤ 4294967295 * val a := Nat.mul_le_mul_right _ (by omega)
  have hva := val_lt a ha
  have hc : c = 0 := by
    rcases Nat.eq_zero_or_pos c with h | h
    · exact h
    · have := Nat.mul_le_mul_left (pw (a.length + 1)) h
      rw [pw_succ] at this hinv
      omega
  subst hc
  refine ⟨?_, fun j hj => ?_⟩
  · have e : pw k * val m = pw k * sm (fun j => at0 l (k + j)) (a.length + 1) + pw k * (t * val a) := by rw [← Nat.mul_add]; congr 1
    rw [Nat.mul_add, ← hv, Nat.mul_left_comm (val a), Nat.mul_comm (val a) t]
    omega
  · rw [put_at _ _ _ (by omega), if_neg (by omega)]; exact hz j (by omega)

/-- The row of one round. -/
theorem mul_row {w wr : World} {va : Value} {a l : List Nat} (ha : Rd w va a) (la : a.length ≤ 10000) {k n t R C : Nat} (hbel : Below w.heap.size w wr) (hblk : Blk wr w.heap.size l) (hl : Lim l) (ht : t < 4294967296)
    (hR : R = a.length + 1) (hC : R ≤ C) (hlen : k + R ≤ l.length) (hz : ∀ j, a.length + k ≤ j → at0 l j = 0) (hv : val l = val a * n) :
    Calls Tryz.prog 86 #[.slice (some ⟨w.heap.size, k, none⟩) R C, .slice (some ⟨w.heap.size, k, none⟩) R C, va, .func (.func 119) #[] #[.pointer (some ⟨wr.heap.size, 0, none⟩)]] (wr.alloc (.cells #[.int .u32 (t : Int)] 75)) fun e w2 =>
      ∃ c m, e = .returned (.int .u32 ((c : Nat) : Int)) ∧ Blk w2 w.heap.size (put l k m) ∧ Lim (put l k m) ∧ (put l k m).length = l.length ∧ val (put l k m) = val a * (n + pw k * t) ∧ (∀ j, a.length + (k + 1) ≤ j → at0 (put l k m) j = 0) ∧ Below w.heap.size w w2 := by
  subst hR
  have hne : w.heap.size < wr.heap.size := hblk.lt
  have hblk' : Blk (wr.alloc (.cells #[.int .u32 (t : Int)] 75)) w.heap.size l := blk_below hblk ((Below.refl _ _).alloc (Nat.le_refl _) _)
  have hcell : (wr.alloc (.cells #[.int .u32 (t : Int)] 75)).cell? ⟨wr.heap.size, 0, none⟩ = some (.int .u32 (t : Int)) := by simp
  have hbelA : Below w.heap.size w (wr.alloc (.cells #[.int .u32 (t : Int)] 75)) := hbel.alloc (by omega) _
  generalize wr.alloc (.cells #[.int .u32 (t : Int)] 75) = W at hblk' hcell hbelA
  have hbelB : ∀ w', W.grownBy w' (some w.heap.size) → Below w.heap.size w w' := fun w' h => hbelA.trans ⟨h.os, h.tape, h.output, h.size, fun j hj => h.block j (Nat.lt_of_lt_of_le hj hbelA.size) (by simp; omega)⟩
  refine (row_along W w.heap.size k (a.length + 1) C l va a 119 #[.pointer (some ⟨wr.heap.size, 0, none⟩)] (InvPlus t (fun j => at0 l (k + j)) a) hlen hC hblk' (by omega)
    (fun w' h => ha.below (hbelB w' h)) (by omega) (fun j m c w' hj hm hg hinv hc => plus_step t ht (fun j => at0 l (k + j)) a ha.lim _ j (at0_lt hl _) m c w' hm hinv hc (hg.cell hcell (by simp; omega)))
    (by simp [InvPlus, val, sm]) (fun _ _ => by simp [go_sem])).mono ?_
  rintro e w2 ⟨m, c, rfl, hm, hc, hlm, hinv, hsta⟩
  obtain ⟨r1, r2⟩ := mul_round ha.lim hl ht (by omega) hm hz hv hinv
  exact ⟨c, m, rfl, hsta.2, put_lim hl hlm, put_length _ _ _ (by omega), r1, r2, hbelB _ hsta.1⟩

set_option maxRecDepth 100000 in
set_option maxHeartbeats 1000000 in
theorem mul_any {w : World} {va vb : Value} {a b : List Nat} (ha : Rd w va a) (hb : Rd w vb b) (la : a.length ≤ 10000) (lb : b.length ≤ 10000) :
    Calls Tryz.prog 63 #[va, vb] w (Made w (val a * val b)) := by
  obtain ⟨i0, hi, hz0, hz1, hz2⟩ := info_parts Tryz.info36
  obtain ⟨ada, na, ca, rfl, hna0, -⟩ := id ha
  obtain ⟨adb, nb, cb, rfl, hnb0, -⟩ := id hb
  obtain ⟨hna, hca, hxa, -⟩ := ha.open
  obtain ⟨hnb, hcb, hxb, hcellb⟩ := hb.open
  clear hna0 hnb0
  have la' : na ≤ 10000 := by omega
  have lb' : nb ≤ 10000 := by omega
  clear la lb
  have HA := Lib.hid hna; clear hna
  have HB := Lib.hid hnb; clear hnb
  have HXA := Lib.hid hxa; clear hxa
  have HXB := Lib.hid hxb; clear hxb
  have HCB := Lib.hid hcellb; clear hcellb
  have HRA := Lib.hid ha; clear ha
  go_enter Tryz.func63, Tryz.ntmps63
  go_wp2_with (at_make; refine wpList_make_full _ rfl _ _ 38 rfl w.heap.size 75 i0 (.int .u32 0) 1 Tryz.underlying38 hi hz0 hz1 _ _ _ _ (na + nb) rfl rfl (by omega) (by omega) (by rw [hz2]; omega) (by unfold maxLen; omega) (Nat.le_refl _) ?_)
  intro w1 hown hgrow
  have H0 : MulAt w a b 0 w1 := by
    refine ⟨_, made_row hown, ?_, ?_, ?_, ?_, ?_⟩
    · intro x hx; rw [List.eq_of_mem_replicate hx]; decide
    · rw [List.length_replicate, ← HA.out, ← HB.out]
    · rw [← sm_all _ (Nat.le_refl _), List.length_replicate, sm_zeros (k := 0) (Nat.zero_le _)]
      · simp [sm]
      · intro j _ hj; unfold at0; simp [hj]
    · intro j _
      unfold at0; rw [List.getD_eq_getElem?_getD, List.getElem?_replicate]; split <;> rfl
    · exact grown_below hgrow (World.grownBy.refl _ _) (Nat.le_refl _)
  clear hown hgrow
  go_wp2_with fail
  go_loopw [17] (fun s wr => ∃ k : Nat, s = .int .i64 k ∧ k ≤ nb ∧ MulAt w a b k wr) (fun s _ => nb - (intOf s).toNat)
  case atStart => exact ⟨0, rfl, Nat.zero_le _, H0⟩
  case round =>
    obtain ⟨k, rfl, hk, hat⟩ := hrel
    clear H0
    obtain ⟨l, hblk, hlim, hlen, hval, hzero, hbel⟩ := hat
    rw [← HA.out, ← HB.out] at hlen
    have HL := Lib.hid hlen; clear hlen
    have HV := Lib.hid hval; clear hval
    have HZ := Lib.hid hzero; clear hzero
    by_cases hlt : k < nb
    · obtain ⟨b2, o2, rfl, hb2, hc2⟩ := HCB.out (by omega)
      have hd2 : wr.cell? ⟨b2, o2 + k, none⟩ = some (.int .u32 (at0 b k : Int)) := (hbel.cell (p := ⟨b2, o2 + k, none⟩) hb2).trans (hc2 k hlt)
      clear hc2
      have ht := at0_lt HXB.out k
      obtain ⟨t, het⟩ : ∃ t : Nat, t = at0 b k := ⟨_, rfl⟩
      rw [← het] at hd2 ht
      have HT := Lib.hid het; clear het
      go_wp2_with (go_at_call 87; refine (plus_any _ _).mono ?_; rintro e w' ⟨rfl, rfl⟩)
      refine (mul_row HRA.out (by have := HA.out; omega) hbel hblk hlim ht (by have := HA.out; omega) (by omega) (by have := HL.out; omega) HZ.out HV.out).mono ?_
      rintro e w2 ⟨c, m, rfl, r1, r2, r3, r4, r5, r6⟩
      have R3 := Lib.hid r3; clear r3
      have R4 := Lib.hid r4; clear r4
      have R5 := Lib.hid r5; clear r5
      go_wp2
      go_roundw
      case rel =>
        refine ⟨k + 1, by go_num, by omega, _, r1, r2, ?_, ?_, R5.out, r6⟩
        · rw [R3.out, HL.out, HA.out, HB.out]
        · rw [R4.out, HT.out]; rfl
      case measure => simp [intOf]; omega
    · obtain rfl : k = nb := by omega
      go_wp2_with fail
      refine (short_any (hblk.rd hlim HL.out (Nat.le_refl _)) (by have := HL.out; omega)).mono ?_
      rintro e w3 ⟨⟨ad, k', cap, l', rfl, hr', hcan, hv'⟩, rfl⟩
      have HV' := Lib.hid hv'; clear hv'
      go_wp2
      go_ret
      refine ⟨ad, k', cap, l', rfl, hr', hcan, ?_, hbel⟩
      rw [HV'.out, HV.out, sm_all b (by have := HB.out; omega)]

end Go.Proofs.YtepacminjfeliaaGreatDoor

/-
  The library's contract on math/bits.LeadingZeros32 at this program (laid by the shelf's own tool, in plain words).
-/
namespace Go.Proofs.YtepacminjfeliaaGreatDoor
open Go.Shelf
def Tryz.lays133_ren : Go.Shelf.Ren := ⟨fun | 133 => 108 | 128 => 99 | n => n, fun | 51 => 75 | 3 => 3 | 4 => 4 | 46 => 89 | 5 => 5 | 9 => 9 | n => n, fun | n => n⟩
theorem Tryz.lays133 : Go.Proofs.Lays.n133 Tryz.prog Tryz.lays133_ren := {
  mixed := by kernel_rfl
  f128 := Tryz.func99.trans (congrArg some (by kernel_rfl))
  f133 := Tryz.func108.trans (congrArg some (by kernel_rfl))
  t3 := Tryz.underlying3
  a3 := Tryz.isAgg3
  z3 := Tryz.sizeOf3
  v3 := Tryz.zeroValue3
  t4 := Tryz.underlying4
  a4 := Tryz.isAgg4
  z4 := Tryz.sizeOf4
  v4 := Tryz.zeroValue4
  t5 := Tryz.underlying5
  a5 := Tryz.isAgg5
  z5 := Tryz.sizeOf5
  v5 := Tryz.zeroValue5
  t9 := Tryz.underlying9
  a9 := Tryz.isAgg9
  z9 := Tryz.sizeOf9
  v9 := Tryz.zeroValue9
  t46 := Tryz.underlying89
  a46 := Tryz.isAgg89
  z46 := Tryz.sizeOf89
  v46 := Tryz.zeroValue89
  t51 := Tryz.underlying75
  a51 := Tryz.isAgg75
  z51 := Tryz.sizeOf75
  v51 := Tryz.zeroValue75 }
theorem Tryz.bits_LeadingZeros32 (x : Int) (w : World) (h0 : 0 ≤ x) (h1 : x ≤ 4294967295) :
    Calls Tryz.prog 108 #[.int .u32 x] w fun e w' => e = .returned (.int .i64 (32 - (Lib.bitLen x.toNat : Int))) ∧ w' = w := Any.bits_LeadingZeros32 Tryz.lays133 x w h0 h1
end Go.Proofs.YtepacminjfeliaaGreatDoor

/-
  bits.LeadingZeros32 of a number that is not 0: so many places up its topmost bit is the 32nd.
-/
namespace Go.Proofs.YtepacminjfeliaaGreatDoor
open Go.RowKit

theorem bitLen_room (x : Nat) (h : x < 4294967296) (h0 : 0 < x) : 1 ≤ Lib.bitLen x ∧ Lib.bitLen x ≤ 32 ∧ 2 ^ (Lib.bitLen x - 1) ≤ x ∧ x < 2 ^ Lib.bitLen x := by
  have gen : ∀ n x : Nat, x < 2 ^ n → n ≤ 32 → 0 < x → 1 ≤ Lib.bitLen x ∧ Lib.bitLen x ≤ n ∧ 2 ^ (Lib.bitLen x - 1) ≤ x ∧ x < 2 ^ Lib.bitLen x := by
    intro n
    induction n with
    | zero => intro x hx _ h0; simp at hx; omega
    | succ n ih =>
      intro x hx hn h0
      have h64 : (2 : Nat) ^ (n + 1) ≤ 2 ^ 64 := Nat.pow_le_pow_right (by decide) (by omega)
      rw [Lib.bitLen_half x (by omega) (by omega)]
      rw [Nat.pow_succ] at hx
      by_cases h1 : x / 2 = 0
      · have : x = 1 := by omega
        subst this
        have e : Lib.bitLen (1 / 2) = 0 := by decide +kernel
        rw [e]; simp
      · obtain ⟨a, b, c, d⟩ := ih (x / 2) (by omega) (by omega) (by omega)
        obtain ⟨m, hm⟩ : ∃ m, Lib.bitLen (x / 2) = m + 1 := ⟨Lib.bitLen (x / 2) - 1, by omega⟩
        rw [hm] at c d b ⊢
        rw [Nat.pow_succ] at d
        refine ⟨by omega, by omega, ?_, ?_⟩
        · rw [show 1 + (m + 1) - 1 = m + 1 from by omega, Nat.pow_succ]
          simp only [Nat.add_sub_cancel] at c
          omega
        · rw [show 1 + (m + 1) = m + 1 + 1 from by omega, Nat.pow_succ, Nat.pow_succ]
          omega
  exact gen 32 x h (by decide) h0

/-- How far up x may go. -/
def Up (x s : Nat) : Prop := s ≤ 31 ∧ 2147483648 ≤ 2 ^ s * x ∧ 2 ^ s * x < 4294967296

theorem lead_any (x : Nat) (w : World) (h : x < 4294967296) (h0 : 0 < x) :
    Calls Tryz.prog 108 #[.int .u32 (x : Int)] w fun e w' => (∃ s : Nat, e = .returned (.int .i64 (s : Int)) ∧ Up x s) ∧ w = w' := by
  refine (Tryz.bits_LeadingZeros32 (x : Int) w (by omega) (by omega)).mono ?_
  rintro e w' ⟨rfl, rfl⟩
  obtain ⟨h1, h2, h3, h4⟩ := bitLen_room x h h0
  rw [Int.toNat_natCast]
  refine ⟨⟨32 - Lib.bitLen x, ?_, by omega, ?_, ?_⟩, rfl⟩
  · rw [Int.ofNat_sub h2]; rfl
  · have := Nat.mul_le_mul_left (2 ^ (32 - Lib.bitLen x)) h3
    rw [← Nat.pow_add, show 32 - Lib.bitLen x + (Lib.bitLen x - 1) = 31 from by omega] at this
    exact this
  · have := Nat.mul_lt_mul_of_pos_left h4 (Nat.two_pow_pos (32 - Lib.bitLen x))
    rw [← Nat.pow_add, show 32 - Lib.bitLen x + Lib.bitLen x = 32 from by omega] at this
    exact this

end Go.Proofs.YtepacminjfeliaaGreatDoor

/-
  nat.take: how often one number is in another one's row of limbs, and what is left there: a guess, that goes back by a goto while it was too great. The row has one limb more than the number, and less than 2^32 times it.
-/
namespace Go.Proofs.YtepacminjfeliaaGreatDoor
open Go.RowKit

set_option maxRecDepth 100000 in
set_option maxHeartbeats 400000 in
theorem minus_any (t : Int) (w : World) :
    Calls Tryz.prog 134 #[.int .u32 t] w fun e w' => e = .returned (.func (.func 142) #[] #[.pointer (some ⟨w.heap.size, 0, none⟩)]) ∧ w' = w.alloc (.cells #[.int .u32 t] 75) := by
  go_enter Tryz.func134, Tryz.ntmps134
  go_wp2
  go_ret
  exact ⟨rfl, rfl⟩

/-- What has been taken from a row so far. -/
def InvMinus (t : Nat) (x : Nat → Nat) (y : List Nat) (k : Nat) (l : List Nat) (c : Nat) : Prop := val l + t * sm (at0 y) k = sm x k + pw k * c

theorem minus_step (t : Nat) (ht : t < 4294967296) (x : Nat → Nat) (y : List Nat) (hy : Lim y) (p : Addr) (k : Nat) (hx : x k < 4294967296) (l : List Nat) (c : Nat) (w : World) (hl : l.length = k) (h : InvMinus t x y k l c) (hc : c < 4294967296) (hcell : w.cell? p = some (.int .u32 (t : Int))) :
    Calls Tryz.prog 142 (#[.int .u32 (x k : Int), .int .u32 (at0 y k : Int), .int .u32 (c : Int)] ++ #[.pointer (some p)]) w (Stepped (InvMinus t x y) k l w) := by
  have hy' := at0_lt hy k
  obtain ⟨h1, h2⟩ := minus_wide (x k) (at0 y k) c t hx hy' hc ht
  refine (minus1_any (x k) (at0 y k) c t p w hx hy' hc ht hcell).mono ?_
  rintro e w' ⟨rfl, rfl⟩
  refine ⟨⟨_, _, rfl, Nat.mod_lt _ (by decide), h1, ?_⟩, rfl⟩
  unfold InvMinus at h ⊢
  have e := congrArg (pw k * ·) h2
  simp only [Nat.mul_add] at e
  rw [Nat.mul_left_comm (pw k) t] at e
  simp only [sm]
  rw [val_snoc, hl, pw_succ, Nat.mul_add, Nat.mul_comm 4294967296 (pw k), Nat.mul_assoc, Nat.mul_add, Nat.mul_add]
  omega

theorem addrow_step (x : Nat → Nat) (y : List Nat) (hy : Lim y) (k : Nat) (hx : x k < 4294967296) (l : List Nat) (c : Nat) (w : World) (hl : l.length = k) (h : InvPlus 1 x y k l c) (hc : c < 4294967296) :
    Calls Tryz.prog 103 (#[.int .u32 (x k : Int), .int .u32 (at0 y k : Int), .int .u32 (c : Int)] ++ #[]) w (Stepped (InvPlus 1 x y) k l w) := by
  have hy' := at0_lt hy k
  refine (add32_any _ _ _ w hx hy' hc).mono ?_
  rintro e w' ⟨rfl, rfl⟩
  refine ⟨⟨_, _, rfl, Nat.mod_lt _ (by decide), by omega, ?_⟩, rfl⟩
  unfold InvPlus at h ⊢
  have e := limb_parts (pw k) (x k + at0 y k + c)
  simp only [sm]
  rw [val_snoc, hl, pw_succ]
  rw [Nat.mul_add, Nat.mul_add] at e
  omega

theorem Rd.grown {w w' : World} {b2 o2 n cap g : Nat} {y : List Nat} (h : Rd w (.slice (some ⟨b2, o2, none⟩) n cap) y) (hne : b2 ≠ g) (hg : w.grownBy w' (some g)) : Rd w' (.slice (some ⟨b2, o2, none⟩) n cap) y := by
  obtain ⟨ad, n', cap', e, hn, hcap, hlim, hc⟩ := h
  simp only [Value.slice.injEq] at e
  obtain ⟨rfl, rfl, rfl⟩ := e
  refine ⟨_, _, _, rfl, hn, hcap, hlim, fun h0 => ?_⟩
  obtain ⟨b, o, e, hb, hcell⟩ := hc h0
  simp only [Option.some.injEq, Addr.mk.injEq, and_true] at e
  obtain ⟨rfl, rfl⟩ := e
  exact ⟨_, _, rfl, Nat.lt_of_lt_of_le hb hg.size, fun i x hi => hg.cell (hcell i x hi) (by simp; exact hne)⟩

theorem put_put (L : List Nat) (off : Nat) (l m : List Nat) (h : off + l.length ≤ L.length) (hm : m.length = l.length) : put (put L off l) off m = put L off m := by
  have h1 := put_length L off l h
  refine same_at (n := L.length) (fun j _ => ?_) (by rw [put_length _ _ _ (by omega), h1]) (by rw [put_length _ _ _ (by omega)])
  rw [put_at _ _ _ (by omega), put_at _ _ _ h, put_at _ _ m (by omega), hm]
  by_cases c : off ≤ j ∧ j < off + l.length
  · rw [if_pos c, if_pos c]
  · rw [if_neg c, if_neg c, if_neg c]

/-- What stands in a row of n + 1 limbs. -/
def rowVal (L : List Nat) (off n : Nat) : Nat := sm (fun j => at0 L (off + j)) (n + 1)

/-- While take guesses: q times y have been taken away; o is owed. -/
def TakeAt (w : World) (g off n : Nat) (L y : List Nat) (q o : Nat) (w' : World) : Prop :=
  ∃ m, w.grownBy w' (some g) ∧ Blk w' g (put L off m) ∧ m.length = n + 1 ∧ Lim m ∧ o < 4294967296 ∧ q < 4294967296 ∧ val m + q * val y = rowVal L off n + pw (n + 1) * o ∧ rowVal L off n < (q + 1) * val y

/-- What take answers. -/
def Taken (w : World) (g off n : Nat) (L y : List Nat) (e : Ending) (w' : World) : Prop :=
  ∃ q m, e = .returned (.int .u32 ((q : Nat) : Int)) ∧ q < 4294967296 ∧ w.grownBy w' (some g) ∧ Blk w' g (put L off m) ∧ Lim m ∧ m.length = n + 1 ∧ val m + q * val y = rowVal L off n ∧ val m < val y

theorem take_none {w w' : World} {g off n : Nat} {L y : List Nat} {q : Nat} (h : TakeAt w g off n L y q 0 w') : Taken w g off n L y (.returned (.int .u32 (q : Int))) w' := by
  obtain ⟨m, h1, h2, h3, h4, h5, h6, h7, h8⟩ := h
  rw [Nat.mul_zero, Nat.add_zero] at h7
  refine ⟨q, m, rfl, h6, h1, h2, h4, h3, h7, ?_⟩
  rw [← h7, Nat.add_mul, Nat.one_mul] at h8
  omega

/-- One guess back. -/
theorem take_back {w w' : World} {g off n capr b2 o2 capy : Nat} {L y : List Nat} {q o : Nat} (hat : TakeAt w g off n L y q o w') (ho : 0 < o) (hL : off + n + 1 ≤ L.length) (hn : n ≤ 10000) (hcap : n + 1 ≤ capr)
    (hy : Rd w (.slice (some ⟨b2, o2, none⟩) n capy) y) (hly : y.length = n) (hne : b2 ≠ g) (hLim : Lim L) :
    0 < q ∧ Calls Tryz.prog 86 #[.slice (some ⟨g, off, none⟩) (n + 1) capr, .slice (some ⟨g, off, none⟩) (n + 1) capr, .slice (some ⟨b2, o2, none⟩) n capy, .func (.func 103) #[] #[]] w' fun e w2 =>
      ∃ c, e = .returned (.int .u32 ((c : Nat) : Int)) ∧ c ≤ o ∧ TakeAt w g off n L y (q - 1) (o - c) w2 := by
  obtain ⟨m, h1, h2, h3, h4, h5, h6, h7, h8⟩ := hat
  have hm := val_lt m h4
  rw [h3] at hm
  have hop : pw (n + 1) * 1 ≤ pw (n + 1) * o := Nat.mul_le_mul_left _ ho
  have hq : 0 < q := by
    rcases Nat.eq_zero_or_pos q with h | h
    · subst h; rw [Nat.zero_mul] at h7; omega
    · exact h
  refine ⟨hq, ?_⟩
  have hlp := put_length L off m (by omega)
  refine (row_along w' g off (n + 1) capr (put L off m) _ y 103 #[] (InvPlus 1 (fun j => at0 (put L off m) (off + j)) y) (by omega) hcap h2 (by omega)
    (fun w2 hg => hy.grown hne (grown_trans h1 hg)) (by omega) (fun k l c w2 hk hl hg hinv hc => addrow_step (fun j => at0 (put L off m) (off + j)) y hy.lim k (at0_lt (put_lim hLim h4) _) l c w2 hl hinv hc)
    (by simp [InvPlus, val, sm]) (fun _ _ => by simp [go_sem])).mono ?_
  rintro e w2 ⟨l, c, rfl, hl, hc, hlim, hinv, hsta⟩
  unfold InvPlus at hinv
  have e1 : sm (fun j => at0 (put L off m) (off + j)) (n + 1) = val m := by
    rw [← sm_all m (k := n + 1) (by omega)]
    exact sm_congr fun j hj => by rw [put_at _ _ _ (by omega), if_pos ⟨by omega, by omega⟩, Nat.add_sub_cancel_left]
  rw [e1, sm_all y (by omega), Nat.one_mul] at hinv
  have hyl := val_lt y hy.lim
  rw [hly] at hyl
  have hl' := val_lt l hlim
  rw [hl] at hl'
  have hc1 : c ≤ 1 := by
    rcases Nat.lt_or_ge 1 c with h | h
    · have := Nat.mul_le_mul_left (pw (n + 1)) (show 2 ≤ c from h)
      have := pw_succ n
      omega
    · exact h
  have hsub : q * val y = (q - 1) * val y + val y := by
    obtain ⟨q', rfl⟩ : ∃ q', q = q' + 1 := ⟨q - 1, by omega⟩
    rw [Nat.add_sub_cancel, Nat.add_mul, Nat.one_mul]
  have hoc : pw (n + 1) * o = pw (n + 1) * (o - c) + pw (n + 1) * c := by rw [← Nat.mul_add]; congr 1; omega
  refine ⟨c, rfl, by omega, l, grown_trans h1 hsta.1, ?_, hl, hlim, by omega, by omega, by omega, ?_⟩
  · have := hsta.2
    rwa [put_put _ _ _ _ (by omega) (by omega)] at this
  · rw [show q - 1 + 1 = q from by omega]
    omega

/-- The first guess is not too small. -/
theorem take_guess {L y : List Nat} {off n : Nat} (hL : Lim L) (hlen : y.length = n + 1) (hR : rowVal L off (n + 1) < 4294967296 * val y) (q : Nat)
    (hq : 0 < at0 y n) (h : (q = 4294967295) ∨ (at0 L (off + (n + 1)) * 4294967296 + at0 L (off + n)) / at0 y n = q) : rowVal L off (n + 1) < (q + 1) * val y := by
  rcases h with rfl | h
  · exact hR
  · have h1 : at0 L (off + (n + 1)) * 4294967296 + at0 L (off + n) + 1 ≤ (q + 1) * at0 y n := by
      have := Nat.lt_mul_div_succ (at0 L (off + (n + 1)) * 4294967296 + at0 L (off + n)) hq
      rw [h, Nat.mul_comm (at0 y n)] at this
      exact this
    have h2 := sm_lt (x := fun j => at0 L (off + j)) (fun j => at0_lt hL _) n
    have h3 : rowVal L off (n + 1) < (at0 L (off + (n + 1)) * 4294967296 + at0 L (off + n) + 1) * pw n := by
      unfold rowVal
      show sm (fun j => at0 L (off + j)) n + pw n * at0 L (off + n) + pw (n + 1) * at0 L (off + (n + 1)) < _
      rw [pw_succ, Nat.add_mul, Nat.add_mul, Nat.one_mul, Nat.mul_comm (pw n) (at0 L (off + n)), Nat.mul_comm (4294967296 * pw n) _, ← Nat.mul_assoc]
      omega
    have h4 : (at0 L (off + (n + 1)) * 4294967296 + at0 L (off + n) + 1) * pw n ≤ (q + 1) * (at0 y n * pw n) := by
      rw [← Nat.mul_assoc]; exact Nat.mul_le_mul_right _ h1
    have h5 : at0 y n * pw n ≤ val y := by
      rw [← sm_all y (k := n + 1) (by omega)]
      show _ ≤ sm (at0 y) n + pw n * at0 y n
      rw [Nat.mul_comm]; omega
    have h6 := Nat.mul_le_mul_left (q + 1) h5
    omega

/-- The first guess is taken away. -/
theorem take_first {w W : World} {g off n capr b2 o2 capy : Nat} {L y : List Nat} {q : Nat} (hW : w.grownBy W (some g)) (hblk : Blk W g L) (p : Addr) (hp : W.cell? p = some (.int .u32 (q : Int))) (hpg : p.block ≠ g) (hL : off + n + 1 ≤ L.length) (hn : n ≤ 10000) (hcap : n + 1 ≤ capr)
    (hy : Rd w (.slice (some ⟨b2, o2, none⟩) n capy) y) (hly : y.length = n) (hne : b2 ≠ g) (hLim : Lim L) (hq : q < 4294967296) (hR : rowVal L off n < (q + 1) * val y) :
    Calls Tryz.prog 86 #[.slice (some ⟨g, off, none⟩) (n + 1) capr, .slice (some ⟨g, off, none⟩) (n + 1) capr, .slice (some ⟨b2, o2, none⟩) n capy, .func (.func 142) #[] #[.pointer (some p)]] W fun e w2 =>
      ∃ o, e = .returned (.int .u32 ((o : Nat) : Int)) ∧ TakeAt w g off n L y q o w2 := by
  refine (row_along W g off (n + 1) capr L _ y 142 #[.pointer (some p)] (InvMinus q (fun j => at0 L (off + j)) y) (by omega) hcap hblk (by omega)
    (fun w2 hg => hy.grown hne (grown_trans hW hg)) (by omega) (fun k l c w2 hk hl hg hinv hc => minus_step q hq (fun j => at0 L (off + j)) y hy.lim p k (at0_lt hLim _) l c w2 hl hinv hc (hg.cell hp (by simp; exact hpg)))
    (by simp [InvMinus, val, sm]) (fun _ _ => by simp [go_sem])).mono ?_
  rintro e w2 ⟨l, c, rfl, hl, hc, hlim, hinv, hsta⟩
  unfold InvMinus at hinv
  rw [sm_all y (by omega)] at hinv
  exact ⟨c, rfl, l, grown_trans hW hsta.1, hsta.2, hl, hlim, hc, hq, hinv, hR⟩

theorem new_cell (w : World) (n : Nat) (v : Value) (t : TypeId) : ((w.drewN n).alloc (.cells #[v] t)).cell? ⟨w.heap.size, 0, none⟩ = some v := by
  have h := heap_alloc_new (w.drewN n) (.cells #[v] t)
  have h' : ((w.drewN n).alloc (.cells #[v] t)).heap[w.heap.size]? = some (.cells #[v] t) := h
  unfold World.cell?
  rw [h']
  rfl

theorem grown_draw (w : World) (n : Nat) (r : Option Nat) : w.grownBy (w.drewN n) r := ⟨rfl, rfl, rfl, Nat.le_refl _, fun _ _ _ => rfl⟩

/-- The frame at the label. -/
def TakeFrame (g off n capr b2 o2 capy : Nat) (q o : Nat) (a : Act) : Prop :=
  ∃ (u6 u9 u10 u11 u12 u13 u14 u15 u16 u17 u18 u19 u20 u21 u22 u23 u24 u25 u26 u27 u28 u29 u30 u31 u32 u33 u34 u35 u36 u37 u38 u39 u40 u41 u42 u43 u44 u45 u46 u47 u48 u49 u50 : Value), a = { tmps := #[.slice (some ⟨g, off, none⟩) (n + 1 + 1) capr, .slice (some ⟨b2, o2, none⟩) (n + 1) capy, undef, undef, .int .u32 0, .int .i64 ((n : Int) + 1), u6, .int .u32 (q : Int), .int .u32 (o : Int), u9, u10, u11, u12, u13, u14, u15, u16, u17, u18, u19, u20, u21, u22, u23, u24, u25, u26, u27, u28, u29, u30, u31, u32, u33, u34, u35, u36, u37, u38, u39, u40, u41, u42, u43, u44, u45, u46, u47, u48, u49, u50], defers := [] }

set_option maxRecDepth 100000 in
set_option maxHeartbeats 2000000 in
theorem take_any {w : World} {g off n capr b2 o2 capy : Nat} {L y : List Nat} (hblk : Blk w g L) (hLim : Lim L) (hL : off + (n + 1) + 1 ≤ L.length) (hn : n + 1 ≤ 10000) (hcap : n + 1 + 1 ≤ capr)
    (hy : Rd w (.slice (some ⟨b2, o2, none⟩) (n + 1) capy) y) (hne : b2 ≠ g) (hy0 : 0 < at0 y n) (hR : rowVal L off (n + 1) < 4294967296 * val y) :
    Calls Tryz.prog 110 #[.slice (some ⟨g, off, none⟩) (n + 1 + 1) capr, .slice (some ⟨b2, o2, none⟩) (n + 1) capy] w (Taken w g off (n + 1) L y) := by
  obtain ⟨hly, hcapy, hyl, hcy⟩ := hy.open
  obtain ⟨b2', o2', e, hb2, hcy⟩ := hcy (by omega)
  simp only [Option.some.injEq, Addr.mk.injEq, and_true] at e
  obtain ⟨rfl, rfl⟩ := e
  have hx1 := hblk.cell (i := off + (n + 1)) (x := at0 L (off + (n + 1))) (by unfold at0; rw [List.getD_eq_getElem?_getD, List.getElem?_eq_getElem (by omega)]; rfl)
  have hx2 := hblk.cell (i := off + n) (x := at0 L (off + n)) (by unfold at0; rw [List.getD_eq_getElem?_getD, List.getElem?_eq_getElem (by omega)]; rfl)
  have hx3 := hcy n (by omega)
  have l1 := at0_lt hLim (off + (n + 1))
  have l2 := at0_lt hLim (off + n)
  have l3 := at0_lt hyl n
  have gs := fun q => take_guess hLim hly.symm hR q hy0
  obtain ⟨x, hx⟩ : ∃ x, x = at0 L (off + (n + 1)) := ⟨_, rfl⟩
  obtain ⟨x', hx'⟩ : ∃ x, x = at0 L (off + n) := ⟨_, rfl⟩
  obtain ⟨z, hz⟩ : ∃ z, z = at0 y n := ⟨_, rfl⟩
  rw [← hx, ← hx', ← hz] at gs
  rw [← hx] at hx1 l1
  rw [← hx'] at hx2 l2
  rw [← hz] at hx3 l3 hy0
  clear hx hx' hz hcy hR
  obtain ⟨T, hT⟩ : ∃ T : Nat, T = x * 4294967296 + x' := ⟨_, rfl⟩
  obtain ⟨q0, hq0⟩ : ∃ q : Nat, q = T / z := ⟨_, rfl⟩
  obtain ⟨q, hq⟩ : ∃ q : Nat, q = min q0 4294967295 := ⟨_, rfl⟩
  have hq1 : q < 4294967296 := by omega
  have hR := gs q (by rw [← hT, ← hq0]; omega)
  clear gs
  have e1 : bits .or .u64 ((x : Int) * 4294967296) (x' : Int) = (T : Int) := by
    rw [show (x : Int) * 4294967296 = ((x * 4294967296 : Nat) : Int) from by omega, u64_or_nat _ _ (by omega) (by omega), nat_join 32 _ _ (Nat.mul_mod_left _ _) l2, hT]
  have hT2 : T / z ≤ T := Nat.div_le_self _ _
  have e2 : IntKind.u64.wrap ((T : Int).tdiv (z : Int)) = (q0 : Int) := by
    rw [IntWalk.u64_in _ ?_, hq0]
    · rfl
    · rw [show (T : Int).tdiv (z : Int) = ((T / z : Nat) : Int) from rfl]; omega
  have e3 : min (q0 : Int) 4294967295 % 4294967296 = (q : Int) := by omega
  have e5 : min (q0 : Int) 4294967295 = (q : Int) := by omega
  have e4 : IntKind.u64.wrap ((T : Int) / (z : Int)) = (q0 : Int) := by
    rw [← e2]; rfl
  have HT := Lib.hid hT; clear hT
  have HQ0 := Lib.hid hq0; clear hq0
  have HQ := Lib.hid hq; clear hq
  have HR := Lib.hid hR; clear hR
  have HLY := Lib.hid hly; clear hly
  clear hT2
  have HYL := Lib.hid hyl; clear hyl
  go_enter Tryz.func110, Tryz.ntmps110
  go_wp2
  refine wp_scope_jumps 0 (fun a' w' => ∃ q o : Nat, TakeFrame g off n capr b2 o2 capy q o a' ∧ TakeAt w g off (n + 1) L y q o w') (fun a' _ => (intOf (a'.tmps.getD 7 undef)).toNat) rfl ?_ ?_
  · go_wp2
    go_quiet (fail)
    go_wp2_with (go_at_call 134; refine (minus_any _ _).mono ?_; rintro e w' ⟨rfl, rfl⟩)
    refine (take_first (w := w) (q := q) (grown_trans (grown_draw w nq (some g)) (World.grownBy_alloc _ _ _)) (blk_below (blk_below hblk (drewN_below w nq)) ((Below.refl _ _).alloc (Nat.le_refl _) _)) ⟨w.heap.size, 0, none⟩ (new_cell _ _ _ _) (Nat.ne_of_gt hblk.lt) (by omega) hn hcap hy HLY.out.symm hne hLim hq1 HR.out).mono ?_
    rintro e w2 ⟨o, rfl, hat⟩
    clear e1 e2 e3 e4 e5 hx1 hx2 hx3
    by_cases ho : o = 0
    · subst ho
      go_wp2
      go_step3
      go_wp2
      simp only [Exit.jump]
      go_ret
      exact take_none hat
    · have ho1 : ((o : Int) != 0) = true := by rw [bne_iff_ne]; omega
      obtain ⟨hq, hback⟩ := take_back hat (by omega) (by omega) hn hcap hy HLY.out.symm hne hLim
      have HBK := Lib.hid hback; clear hback
      have HAT := Lib.hid hat; clear hat
      have HO := Lib.hid ho; clear ho
      have ho3 : o < 4294967296 := by obtain ⟨_, _, _, _, _, h, _⟩ := HAT.out; exact h
      obtain ⟨q', rfl⟩ : ∃ q', q = q' + 1 := ⟨q - 1, by omega⟩
      go_wp2
      go_step3
      go_wp2_with fail
      refine HBK.out.mono ?_
      rintro e w3 ⟨c, rfl, hco, hat'⟩
      obtain ⟨o', rfl⟩ : ∃ o', o = o' + c := ⟨o - c, by omega⟩
      rw [Nat.add_sub_cancel, Nat.add_sub_cancel] at hat'
      have HAT' := Lib.hid hat'; clear hat'
      go_wp2
      go_step3
      exact ⟨rfl, q', o', ⟨_, _, _, _, _, _, _, _, _, _, _, _, _, _, _, _, _, _, _, _, _, _, _, _, _, _, _, _, _, _, _, _, _, _, _, _, _, _, _, _, _, _, _, rfl⟩, HAT'.out⟩
  · rintro a' w' ⟨q, o, ⟨u6, u9, u10, u11, u12, u13, u14, u15, u16, u17, u18, u19, u20, u21, u22, u23, u24, u25, u26, u27, u28, u29, u30, u31, u32, u33, u34, u35, u36, u37, u38, u39, u40, u41, u42, u43, u44, u45, u46, u47, u48, u49, u50, rfl⟩, hat⟩
    clear e1 e2 e3 e4 e5 hx1 hx2 hx3 HR HQ
    by_cases ho : o = 0
    · subst ho
      go_wp2
      simp only [Exit.jump]
      go_ret
      exact take_none hat
    · have ho1 : ((o : Int) != 0) = true := by rw [bne_iff_ne]; omega
      obtain ⟨hq, hback⟩ := take_back hat (by omega) (by omega) hn hcap hy HLY.out.symm hne hLim
      have HBK := Lib.hid hback; clear hback
      have HAT := Lib.hid hat; clear hat
      have HO := Lib.hid ho; clear ho
      have ho3 : o < 4294967296 := by obtain ⟨_, _, _, _, _, h, _⟩ := HAT.out; exact h
      have hq1 : q < 4294967296 := by obtain ⟨_, _, _, _, _, _, h, _⟩ := HAT.out; exact h
      obtain ⟨q', rfl⟩ : ∃ q', q = q' + 1 := ⟨q - 1, by omega⟩
      go_wp2_with fail
      refine HBK.out.mono ?_
      rintro e w3 ⟨c, rfl, hco, hat'⟩
      obtain ⟨o', rfl⟩ : ∃ o', o = o' + c := ⟨o - c, by omega⟩
      rw [Nat.add_sub_cancel, Nat.add_sub_cancel] at hat'
      have HAT' := Lib.hid hat'; clear hat'
      go_wp2
      go_step3
      refine ⟨rfl, ⟨q', o', ⟨_, _, _, _, _, _, _, _, _, _, _, _, _, _, _, _, _, _, _, _, _, _, _, _, _, _, _, _, _, _, _, _, _, _, _, _, _, _, _, _, _, _, _, rfl⟩, HAT'.out⟩, ?_⟩
      show (intOf (.int .u32 (q' : Int))).toNat < (intOf (.int .u32 ((q' : Int) + 1))).toNat
      simp only [intOf]
      omega

end Go.Proofs.YtepacminjfeliaaGreatDoor

/-
  Long division, as plain numbers: what holds before and behind each guess, and what it comes to. Nothing of the program is walked here.
-/
namespace Go.Proofs.YtepacminjfeliaaGreatDoor
open Go.RowKit

theorem sm_cons (x : Nat → Nat) (n : Nat) : sm x (n + 1) = x 0 + 4294967296 * sm (fun j => x (j + 1)) n := by
  induction n with
  | zero => simp [sm, pw]
  | succ n ih =>
    show sm x (n + 1) + pw (n + 1) * x (n + 1) = x 0 + 4294967296 * (sm (fun j => x (j + 1)) n + pw n * x (n + 1))
    rw [ih, pw_succ, Nat.mul_add, Nat.mul_assoc]; omega

theorem set_val {Q : List Nat} {k q : Nat} (hk : k < Q.length) (h0 : at0 Q k = 0) : val (Q.set k q) = val Q + pw k * q := by
  have e : Q.set k q = put Q k [q] := by
    refine same_at (n := Q.length) (fun j hj => ?_) (by rw [List.length_set]) (by rw [put_length _ _ _ (by simp only [List.length_cons, List.length_nil]; omega)])
    rw [put_at _ _ _ (by simp only [List.length_cons, List.length_nil]; omega)]
    unfold at0
    simp only [List.getD_eq_getElem?_getD, List.getElem?_set, List.length_cons, List.length_nil]
    by_cases c : k = j
    · subst c; simp [hk]
    · rw [if_neg c, if_neg (by omega)]
  have h := put_val Q k [q] (by simp only [List.length_cons, List.length_nil]; omega)
  rw [e]
  simp only [List.length_cons, List.length_nil, sm, pw, Nat.add_zero, h0, val] at h
  omega

theorem set_lim {Q : List Nat} {k q : Nat} (h : Lim Q) (hq : q < 4294967296) : Lim (Q.set k q) := by
  intro x hx
  rcases List.mem_or_eq_of_mem_set hx with h1 | h1
  · exact h x h1
  · omega

theorem at0_set {Q : List Nat} {k q j : Nat} (h : j ≠ k) : at0 (Q.set k q) j = at0 Q j := by
  unfold at0; rw [List.getD_eq_getElem?_getD, List.getD_eq_getElem?_getD, List.getElem?_set_ne (by omega)]

/-- The numbers of a division, with p limbs of the answer still to be found. -/
structure DivNum (A Y : Nat) (N n p : Nat) (L Q : List Nat) : Prop where
  limL : Lim L
  limQ : Lim Q
  lenL : L.length = N
  lenQ : Q.length = N - n
  sum : val L + Y * val Q = A
  low : ∀ j, j < p → at0 Q j = 0
  top : sm (fun j => at0 L (p + j)) n < Y
  high : ∀ j, p + n ≤ j → at0 L j = 0

theorem DivNum.row {A Y N n k : Nat} {L Q : List Nat} (h : DivNum A Y N n (k + 1) L Q) : rowVal L k n < 4294967296 * Y := by
  unfold rowVal
  rw [sm_cons]
  have h1 := at0_lt h.limL (k + 0)
  have h2 := h.top
  have e : sm (fun j => at0 L (k + (j + 1))) n = sm (fun j => at0 L (k + 1 + j)) n := sm_congr fun j _ => by rw [show k + (j + 1) = k + 1 + j from by omega]
  show at0 L (k + 0) + 4294967296 * sm (fun j => at0 L (k + (j + 1))) n < _
  rw [e]
  omega

theorem DivNum.step {A Y N n k : Nat} {L Q m : List Nat} {q : Nat} (h : DivNum A Y N n (k + 1) L Q) (hk : k + n + 1 ≤ N) (hq : q < 4294967296) (hm : Lim m) (hml : m.length = n + 1) (hv : val m + q * Y = rowVal L k n) (hlt : val m < Y) (hY : Y < pw n) :
    DivNum A Y N n k (put L k m) (Q.set k q) := by
  have hl := h.lenL
  have hq' := h.lenQ
  have hput := put_val L k m (by omega)
  rw [hml] at hput
  have hmn : at0 m n = 0 := by
    rcases Nat.eq_zero_or_pos (at0 m n) with h0 | h0
    · exact h0
    · have e := sm_all m (k := n + 1) (by omega)
      have : sm (at0 m) (n + 1) = sm (at0 m) n + pw n * at0 m n := rfl
      have := Nat.mul_le_mul_left (pw n) h0
      omega
  refine ⟨put_lim h.limL hm, set_lim h.limQ hq, by rw [put_length _ _ _ (by omega), hl], by rw [List.length_set, hq'], ?_, ?_, ?_, ?_⟩
  · rw [set_val (by omega) (h.low k (by omega)), Nat.mul_add]
    have e : pw k * rowVal L k n = pw k * val m + Y * (pw k * q) := by
      rw [← hv, Nat.mul_add, Nat.mul_comm q Y, Nat.mul_left_comm]
    have := h.sum
    have e2 : pw k * sm (fun j => at0 L (k + j)) (n + 1) = pw k * rowVal L k n := rfl
    omega
  · intro j hj
    rw [at0_set (by omega)]; exact h.low j (by omega)
  · have e : sm (fun j => at0 (put L k m) (k + j)) n = sm (at0 m) n := sm_congr fun j hj => by rw [put_at _ _ _ (by omega), if_pos ⟨by omega, by omega⟩, Nat.add_sub_cancel_left]
    rw [e]
    have e := sm_all m (k := n + 1) (by omega)
    have : sm (at0 m) (n + 1) = sm (at0 m) n + pw n * at0 m n := rfl
    rw [hmn] at this
    omega
  · intro j hj
    rw [put_at _ _ _ (by omega)]
    by_cases c : j < k + m.length
    · rw [if_pos ⟨by omega, c⟩, show j - k = n from by omega]; exact hmn
    · rw [if_neg (by omega)]; exact h.high j (by omega)

theorem DivNum.done {s A B N n : Nat} {L Q : List Nat} (h : DivNum (2 ^ s * A) (2 ^ s * B) N n 0 L Q) (hB : 0 < B) : val Q = A / B ∧ val L = 2 ^ s * (A % B) := by
  have h1 : val L < 2 ^ s * B := by
    have e : val L = sm (fun j => at0 L (0 + j)) n := by
      have e2 : sm (fun j => at0 L (0 + j)) n = sm (at0 L) n := sm_congr fun j _ => by rw [Nat.zero_add]
      rw [e2]
      rcases Nat.le_total L.length n with c | c
      · rw [sm_all L c]
      · rw [← sm_all L (Nat.le_refl _)]
        exact sm_zeros c fun j h1 _ => h.high j (by omega)
    rw [e]; exact h.top
  have h2 := h.sum
  have hp := Nat.two_pow_pos s
  rw [Nat.mul_assoc] at h2
  have h3 : B * val Q ≤ A := Nat.le_of_mul_le_mul_left (by omega) hp
  obtain ⟨r, rfl⟩ := Nat.exists_eq_add_of_le h3
  rw [Nat.mul_add] at h2
  have h4 : val L = 2 ^ s * r := by omega
  have h5 : r < B := by
    rw [h4] at h1
    exact Nat.lt_of_mul_lt_mul_left h1
  rw [Nat.mul_add_div hB, Nat.mul_add_mod, Nat.div_eq_of_lt h5, Nat.mod_eq_of_lt h5]
  exact ⟨rfl, h4⟩

/-- The start: nothing has been found yet; the topmost limbs are less than what is divided by. -/
theorem DivNum.start {s A B N n na : Nat} {L : List Nat} (hs : s ≤ 31) (hL : Lim L) (hlen : L.length = N) (hN : N = na + 1) (hv : val L = 2 ^ s * A) (hA : A < pw na) (hn : 1 ≤ n) (hY : 2147483648 * pw (n - 1) ≤ 2 ^ s * B) :
    DivNum (2 ^ s * A) (2 ^ s * B) N n (N - n) L (List.replicate (N - n) 0) := by
  have hz : val (List.replicate (N - n) 0) = 0 := by
    rw [← sm_all _ (Nat.le_refl _), List.length_replicate, sm_zeros (k := 0) (Nat.zero_le _)]
    · rfl
    · intro j _ hj; unfold at0; simp [hj]
  have h2 : 2 ^ s ≤ 2147483648 := Nat.pow_le_pow_right (by decide) hs (n := 2)
  refine ⟨hL, ?_, hlen, List.length_replicate, by rw [hz, hv]; rfl, ?_, ?_, ?_⟩
  · intro x hx; rw [List.eq_of_mem_replicate hx]; decide
  · intro j hj; unfold at0; simp [hj]
  · have e := sm_shift (at0 L) (N - n) n
    have e1 : sm (at0 L) (N - n + n) = val L := sm_all L (by omega)
    rw [e1, hv] at e
    have h3 : 2 ^ s * A < 2 ^ s * pw na := Nat.mul_lt_mul_of_pos_left hA (Nat.two_pow_pos s)
    by_cases c : n ≤ N
    · have e2 : pw na = pw (N - n) * pw (n - 1) := by rw [← pw_add]; congr 1; omega
      have h4 : pw (N - n) * sm (fun j => at0 L (N - n + j)) n < pw (N - n) * (2 ^ s * pw (n - 1)) := by
        rw [Nat.mul_left_comm, ← e2]; omega
      have h5 := Nat.lt_of_mul_lt_mul_left h4
      have h6 : 2 ^ s * pw (n - 1) ≤ 2147483648 * pw (n - 1) := Nat.mul_le_mul_right _ h2
      omega
    · have e2 : N - n = 0 := by omega
      rw [e2] at e ⊢
      have h4 : pw na ≤ pw (n - 1) := pw_le (by omega)
      have h5 : 2 ^ s * pw na ≤ 2147483648 * pw (n - 1) := Nat.mul_le_mul h2 h4
      simp only [sm, pw, Nat.one_mul, Nat.zero_add] at e
      simp only [Nat.zero_add]
      omega
  · intro j hj
    exact at0_over (by omega)

/-- Shifted so far up, the number that is divided by has as many limbs, and its topmost bit is set. -/
theorem div_up {l y : List Nat} {k s : Nat} (hl : Can l) (hk : l.length = k + 1) (hup : Up (at0 l k) s) (hy : Can y) (hv : val y = 2 ^ s * val l) :
    y.length = k + 1 ∧ 2147483648 * pw k ≤ 2 ^ s * val l ∧ val y < pw (k + 1) := by
  obtain ⟨hs, h1, h2⟩ := hup
  have e : val l = sm (at0 l) k + pw k * at0 l k := (sm_all l (k := k + 1) (by omega)).symm
  have hlow := sm_lt (x := at0 l) (fun j => at0_lt hl.1 j) k
  have hlo : 2147483648 * pw k ≤ 2 ^ s * val l := by
    rw [e, Nat.mul_add, Nat.mul_left_comm]
    have := Nat.mul_le_mul_left (pw k) h1
    rw [Nat.mul_comm 2147483648]; omega
  have hhi : 2 ^ s * val l < pw (k + 1) := by
    have h3 : 2 ^ s * (at0 l k + 1) ≤ 4294967296 := by
      have d : 2 ^ s * 2 ^ (32 - s) = 4294967296 := by rw [← Nat.pow_add, show s + (32 - s) = 32 from by omega]
      rw [← d] at h2 ⊢
      exact Nat.mul_le_mul_left _ (Nat.lt_of_mul_lt_mul_left h2)
    have h4 : val l < pw k * (at0 l k + 1) := by rw [e, Nat.mul_succ]; omega
    have h5 := Nat.mul_lt_mul_of_pos_left h4 (Nat.two_pow_pos s)
    rw [Nat.mul_left_comm] at h5
    have h6 := Nat.mul_le_mul_left (pw k) h3
    rw [pw_succ, Nat.mul_comm 4294967296]
    omega
  refine ⟨?_, hlo, by omega⟩
  have h3 := hy.len (k := k + 1) (by omega)
  rcases Nat.lt_or_ge y.length (k + 1) with c | c
  · have h4 := val_small hy.1 (show y.length ≤ k by omega)
    omega
  · omega

theorem tail_val {l : List Nat} {R : Nat} (hl : Lim l) (hne : 0 < l.length) (hv : val l = 4294967296 * R) : val l.tail = R ∧ Lim l.tail ∧ l.tail.length = l.length - 1 := by
  cases l with
  | nil => simp at hne
  | cons x l =>
    have hx := hl x (List.mem_cons_self)
    simp only [val] at hv
    exact ⟨by show val l = R; omega, fun y hy => hl y (List.mem_cons_of_mem _ hy), rfl⟩

end Go.Proofs.YtepacminjfeliaaGreatDoor
