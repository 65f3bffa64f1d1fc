/-
  NatPowers: a number times 2 to a power is shifted by its limbs; divided by it, what is left is what stood below: the law's body answers true of any list and any number.
-/
import Derived.Test.YtpijjpjpedcbhaaBack
namespace Go.Proofs.Ytpijjpjpedcbhaa
open Go.RowKit

theorem rd_empty (w : World) (ad : Option Addr) (cap : Nat) : Rd w (.slice ad 0 cap) [] := ⟨ad, 0, cap, rfl, rfl, Nat.zero_le _, by simp, by simp⟩

theorem rd_take {w : World} {ad : Option Addr} {n cap : Nat} {l : List Nat} (h : Rd w (.slice ad n cap) l) {k : Nat} (hk : k ≤ n) : Rd w (.slice ad k cap) (l.take k) := by
  obtain ⟨ad', n', cap', e, hn, hcap, hlim, hc⟩ := h
  simp only [Value.slice.injEq] at e
  obtain ⟨rfl, rfl, rfl⟩ := e
  refine ⟨_, _, _, rfl, by rw [List.length_take]; omega, by omega, fun x hx => hlim x (List.mem_of_mem_take hx), fun h0 => ?_⟩
  obtain ⟨b, o, e, hb, hc⟩ := hc (by omega)
  refine ⟨b, o, e, hb, fun i x hi => hc i x ?_⟩
  have : i < k := by
    have := (List.getElem?_eq_some_iff.1 hi).1
    rw [List.length_take] at this
    omega
  rwa [List.getElem?_take_of_lt this] at hi

theorem rd_drop {w : World} {b o n cap : Nat} {l : List Nat} (h : Rd w (.slice (some ⟨b, o, none⟩) n cap) l) {k : Nat} (hk : k ≤ n) : Rd w (.slice (some ⟨b, o + k, none⟩) (n - k) (cap - k)) (l.drop k) := by
  obtain ⟨ad', n', cap', e, hn, hcap, hlim, hc⟩ := h
  simp only [Value.slice.injEq] at e
  obtain ⟨rfl, rfl, rfl⟩ := e
  refine ⟨_, _, _, rfl, by rw [List.length_drop]; omega, by omega, fun x hx => hlim x (List.mem_of_mem_drop hx), fun h0 => ?_⟩
  obtain ⟨b', o', e, hb, hc⟩ := hc (by omega)
  simp only [Option.some.injEq, Addr.mk.injEq, and_true] at e
  obtain ⟨rfl, rfl⟩ := e
  refine ⟨_, _, rfl, hb, fun i x hi => ?_⟩
  rw [List.getElem?_drop] at hi
  have := hc (k + i) x hi
  rwa [← Nat.add_assoc] at this

/-- So many limbs 0 ahead of a list: what it is worth is shifted up. -/
theorem val_zeros (k : Nat) (l : List Nat) : val (List.replicate k 0 ++ l) = pw k * val l := by
  induction k with
  | zero => simp [pw]
  | succ k ih => rw [List.replicate_succ, List.cons_append]; simp only [val, pw, ih, Nat.mul_assoc, Nat.zero_add]

theorem lim_zeros (k : Nat) {l : List Nat} (h : Lim l) : Lim (List.replicate k 0 ++ l) := by
  intro x hx
  rcases List.mem_append.1 hx with h1 | h1
  · rw [List.eq_of_mem_replicate h1]; decide
  · exact h x h1

/-- What stands below place k, and from it on. -/
theorem cut_at {l : List Nat} (h : Lim l) (k : Nat) : val (l.take k) = val l % pw k ∧ val (l.drop k) = val l / pw k := by
  have e : val l = val (l.take k) + pw k * val (l.drop k) := by
    rcases Nat.le_total k l.length with c | c
    · have := val_append (l.take k) (l.drop k)
      rw [List.take_append_drop, List.length_take, Nat.min_eq_left c] at this
      exact this
    · rw [List.take_of_length_le c, List.drop_eq_nil_of_le c]; simp [val]
  have hlt : val (l.take k) < pw k := val_small (fun x hx => h x (List.mem_of_mem_take hx)) (by rw [List.length_take]; omega)
  rw [e, Nat.add_mul_mod_self_left, Nat.mod_eq_of_lt hlt, Nat.add_mul_div_left _ _ (pw_pos k), Nat.div_eq_of_lt hlt, Nat.zero_add]
  exact ⟨rfl, rfl⟩

theorem u8_low {n : Int} (h : (Lit.int .u8 n).wf = true) : 0 ≤ n := by
  simp only [Lit.wf, IntKind.min, IntKind.max, IntKind.bits, IntKind.signed, Bool.and_eq_true] at h
  have : 0 ≤ n ∧ n ≤ 255 := by simpa using h
  exact this.1

/-- An operation whose guard says yes is walked as one without a guard. -/
theorem wpList_wanted {P : Program} {ops : Array Oper} {Q : Exit → Act → World → Prop} {a : Act} {w : World} {rest : List Oper} {o : Oper} (hw : Region.wanted o (yielded ops a.tmps) = true)
    (h : wpList P ops Q ({ o with guard := none } :: rest) a w) : wpList P ops Q (o :: rest) a w := by
  obtain ⟨dst, op, ty, pos, after, guard⟩ := o
  unfold wpList at h ⊢
  rw [if_pos hw]
  rw [if_pos (by simp [Region.wanted])] at h
  exact h

/-- The row that an append has made behind so many limbs 0. -/
theorem own_zeros {w : World} {base k n : Nat} {v : Value} {l : List Nat} (hl : Lim l) (h : w.ownsRow base 36 1 v n ((madeCells #[Value.int .u32 0] k).toList ++ l.map fun (x : Nat) => Value.int .u32 (x : Int))) :
    ∃ ad cap, v = .slice ad n cap ∧ Rd w (.slice ad n cap) (List.replicate k 0 ++ l) := by
  refine own_rd (base := base) (l := List.replicate k 0 ++ l) ?_ (lim_zeros k hl)
  rw [toList_madeCells_one] at h
  simpa using h

set_option maxRecDepth 100000 in
set_option maxHeartbeats 2000000 in
theorem powers_great {w : World} (ada : Option Addr) (na ca n : Nat) (h : 20 < na) :
    Calls Try.prog 9 #[.slice ada na ca, .int .u8 (n : Int)] w (Samed w true) := by
  go_enter Try.func9, Try.ntmps9
  go_wp2_with fail
  refine (head_any w).mono ?_
  rintro e w1 ⟨rfl, hb⟩
  go_wp2
  go_ret
  exact ⟨rfl, hb⟩

set_option maxRecDepth 100000 in
set_option maxHeartbeats 4000000 in
theorem powers_low1 {w : World} {a0 : Addr} {na n k : Nat} {a : List Nat} (ra : Rd w (.slice (some a0) na na) a) (ha : na ≤ 20) (hk : n % 8 = k) (hc : na ≤ k) :
    Calls Try.prog 9 #[.slice (some a0) na na, .int .u8 (n : Int)] w (Samed w true) := by
  obtain ⟨i0, hi, hz0, hz1, hz2⟩ := info_parts Try.info36
  have HB := Below.refl w.heap.size w
  have sa := rd_small ra ha
  have la : a.length ≤ 20 := by rw [← ra.open.1]; exact ha
  have HLA := ra.lim
  have hca : na ≤ na := ra.open.2.1
  have hk7 : k ≤ 7 := by omega
  have e8 : (n : Int) % 8 = (k : Int) := by omega
  have em : min (k : Int) (na : Int) = (na : Int) := by omega
  have HK := Lib.hid hk; clear hk
  go_enter Try.func9, Try.ntmps9
  go_wp2_with fail
  refine (head_any w).mono ?_
  rintro e w1 ⟨rfl, hb⟩
  replace ra := ra.below hb
  replace HB := onto HB hb
  clear hb
  have RA1 := ra
  go_wp2_with (at_make; refine wpList_make_full _ rfl _ _ 22 rfl w1.heap.size 36 i0 (.int .u32 0) 1 Try.underlying22 hi hz0 hz1 _ _ _ _ k rfl rfl (by omega) (by omega) (by rw [hz2]; omega) (by unfold maxLen; omega) (Nat.le_refl _) ?_)
  intro w2 ho1 hg1
  have HO1 := Lib.hid ho1; clear ho1
  have hb : Below w1.heap.size w1 w2 := (Below.refl _ _).grown hg1 (Nat.le_refl _) (by simp)
  clear hg1
  replace ra := ra.below hb
  have HBm1 := HB
  have hbm1 := hb
  replace HB := onto HB hb
  clear hb
  go_wp2_with (at_builtin; refine wpList_append_own _ rfl _ _ 22 rfl w1.heap.size 36 i0 (.int .u32 0) 1 4 Try.underlying22 hi hz0 hz1 hz2 rfl (by decide) _ _ _ rfl (HO1.out.alloc _) ⟨w2.heap.size, 0, none⟩ 1 1 [.int .u32 1] rfl rfl ?c1 ?c2 ?c3 ?c4 ?c5 ?_)
  case c1 =>
    intro j u hj
    match j, hj with
    | 0, hj => simp at hj; subst hj; simp [Addr.add]
  case c2 => intro u hu; simp at hu; subst hu; rfl
  case c3 => unfold maxLen; omega
  case c4 => omega
  case c5 => have := hbm1.size; simp; omega
  intro vp w3 hop hgp _
  obtain ⟨adp, cp, rfl, rp⟩ := own_zeros (l := [1]) (fun x hx => by simp at hx; omega) hop
  clear hop
  have hb : Below w1.heap.size w1 w3 := (hbm1.trans ((alb w2 _).mono hbm1.size)).grown hgp (Nat.le_trans hbm1.size (by simp)) (by simp [Value.ownBlock])
  replace HB := onto HBm1 hb
  clear hbm1 HBm1 hgp
  replace ra := RA1.below hb
  clear hb
  have VP : Hid (val (List.replicate k 0 ++ [1]) = pw k) := by show val _ = pw k; rw [val_zeros, val1, Nat.mul_one]
  have lp : (List.replicate k 0 ++ [1]).length ≤ 8 := by simp; omega
  obtain ⟨p, hp⟩ : ∃ p, p = List.replicate k 0 ++ [1] := ⟨_, rfl⟩
  rw [← hp] at rp VP lp
  clear hp
  have sp : val p < pw 8 := val_small rp.lim lp
  go_wp2_with fail
  refine (mul_any ra rp (by omega) (by omega)).mono ?_
  rintro e w4 ⟨adm, nm, cm, lm, rfl, rm, km, vm, hb⟩
  replace ra := ra.below hb
  replace rp := rp.below hb
  replace HB := onto HB hb
  clear hb
  have Hvm := Lib.hid vm; clear vm
  have sm : val lm < pw 28 := by rw [Hvm.out]; exact lt_mul sa sp
  have bm : lm.length ≤ 28 := km.len sm
  go_wp2_with fail
  refine (div_yes ra rp (by omega) (by omega) (by rw [VP.out]; exact pw_pos k)).mono ?_
  rintro e w5 ⟨adq, nq, cq, lq, adr, nr, cr, lr, rfl, rq, kq, vq, rr, kr, vr, hb⟩
  replace ra := ra.below hb
  replace rp := rp.below hb
  replace rm := rm.below hb
  replace HB := onto HB hb
  clear hb
  have Hvq := Lib.hid vq; clear vq
  have Hvr := Lib.hid vr; clear vr
  have bq : lq.length ≤ 20 := kq.len (by rw [Hvq.out]; exact Nat.lt_of_le_of_lt (Nat.div_le_self _ _) sa)
  have br : lr.length ≤ 20 := kr.len (by rw [Hvr.out]; exact Nat.lt_of_le_of_lt (Nat.mod_le _ _) sa)
  have HCUT := Lib.hid (cut_at HLA k)
  go_wp2_with fail
  refine (norm_any ra (by omega)).mono ?_
  rintro e w6 ⟨adx, nx, cx, lx, rfl, rx, kx, vx, hb⟩
  replace ra := ra.below hb
  replace rp := rp.below hb
  replace rm := rm.below hb
  replace rq := rq.below hb
  replace rr := rr.below hb
  replace HB := onto HB hb
  clear hb
  have Hvx := Lib.hid vx; clear vx
  have EX : Hid (val lx = val a % pw k) := by show val lx = _; rw [Hvx.out]; exact (Nat.mod_eq_of_lt (val_small HLA (by rw [← ra.open.1]; exact hc))).symm
  go_wp2_with fail
  refine (norm_any (rd_empty _ _ _) (by simp)).mono ?_
  rintro e w7 ⟨ady, ny, cy, ly, rfl, ry, ky, vy, hb⟩
  replace ra := ra.below hb
  replace rp := rp.below hb
  replace rm := rm.below hb
  replace rq := rq.below hb
  replace rr := rr.below hb
  replace rx := rx.below hb
  replace HB := onto HB hb
  clear hb
  have Hvy := Lib.hid vy; clear vy
  have EY : Hid (val ly = val a / pw k) := by show val ly = _; rw [Hvy.out]; exact (Nat.div_eq_of_lt (val_small HLA (by rw [← ra.open.1]; exact hc))).symm
  have RY2 := ry
  have RX2 := rx
  have RR2 := rr
  have RQ2 := rq
  have RM2 := rm
  have RP2 := rp
  have RA2 := ra
  go_wp2_with (at_make; refine wpList_wanted (by rfl) ?_; refine wpList_make_full _ rfl _ _ 22 rfl w7.heap.size 36 i0 (.int .u32 0) 1 Try.underlying22 hi hz0 hz1 _ _ _ _ k rfl rfl (by omega) (by omega) (by rw [hz2]; omega) (by unfold maxLen; omega) (Nat.le_refl _) ?_)
  intro w8 ho2 hg2
  have HO2 := Lib.hid ho2; clear ho2
  have hb : Below w7.heap.size w7 w8 := (Below.refl _ _).grown hg2 (Nat.le_refl _) (by simp)
  clear hg2
  replace ra := ra.below hb
  replace rp := rp.below hb
  replace rm := rm.below hb
  replace rq := rq.below hb
  replace rr := rr.below hb
  replace rx := rx.below hb
  replace ry := ry.below hb
  have HBm2 := HB
  have hbm2 := hb
  replace HB := onto HB hb
  clear hb
  go_wp2_with (at_builtin; refine wpList_wanted (by rfl) ?_; refine wpList_append_own _ rfl _ _ 22 rfl w7.heap.size 36 i0 (.int .u32 0) 1 4 Try.underlying22 hi hz0 hz1 hz2 rfl (by decide) _ _ _ rfl HO2.out a0 na na (a.map fun (x : Nat) => Value.int .u32 (x : Int)) rfl (by simp [ra.open.1]) ?d1 ?d2 ?d3 ?d4 ?d5 ?_)
  case d1 =>
    intro j u hu
    rw [List.getElem?_map] at hu
    obtain ⟨x, hx, rfl⟩ := Option.map_eq_some_iff.1 hu
    obtain ⟨b, o, e, _, hcl⟩ := ra.open.2.2.2 (by have := (List.getElem?_eq_some_iff.1 hx).1; have := ra.open.1; omega)
    simp only [Option.some.injEq] at e
    subst e
    have hj : j < na := by have := (List.getElem?_eq_some_iff.1 hx).1; have := ra.open.1; omega
    have := hcl j hj
    rw [Addr.add_lit, this]
    unfold at0
    rw [List.getD_eq_getElem?_getD, hx]; rfl
  case d2 => intro u hu; obtain ⟨x, _, rfl⟩ := List.mem_map.1 hu; rfl
  case d3 => unfold maxLen; omega
  case d4 => omega
  case d5 => exact hbm2.size
  intro vt w9 hot hgt _
  obtain ⟨adt, ct, rfl, rt⟩ := own_zeros HLA hot
  clear hot
  have hb : Below w7.heap.size w7 w9 := hbm2.grown hgt hbm2.size (by simp [Value.ownBlock])
  replace HB := onto HBm2 hb
  replace ra := RA2.below hb
  replace rp := RP2.below hb
  replace rm := RM2.below hb
  replace rq := RQ2.below hb
  replace rr := RR2.below hb
  replace rx := RX2.below hb
  replace ry := RY2.below hb
  clear hb hbm2 HBm2 hgt
  have VT : Hid (val (List.replicate k 0 ++ a) = pw k * val a) := val_zeros k a
  have lt : (List.replicate k 0 ++ a).length ≤ 27 := by simp; omega
  go_wp2_with fail
  refine (norm_any rt (by omega)).mono ?_
  rintro e w10 ⟨adu, nu, cu, lu, rfl, ru, ku, vu, hb⟩
  replace ra := ra.below hb
  replace rp := rp.below hb
  replace rm := rm.below hb
  replace rq := rq.below hb
  replace rr := rr.below hb
  replace rx := rx.below hb
  replace ry := ry.below hb
  replace rt := rt.below hb
  replace HB := onto HB hb
  clear hb
  have Hvu := Lib.hid vu; clear vu
  have su : val lu < pw 27 := by rw [Hvu.out]; exact val_small rt.lim lt
  have bu : lu.length ≤ 27 := ku.len su
  go_wp2_with fail
  refine (same_vals rm ru (by omega) km ku (by rw [Hvm.out, Hvu.out, VP.out, VT.out, Nat.mul_comm])).mono ?_
  rintro e w11 ⟨rfl, hb⟩
  replace ra := ra.below hb
  replace rp := rp.below hb
  replace rm := rm.below hb
  replace rq := rq.below hb
  replace rr := rr.below hb
  replace rx := rx.below hb
  replace ry := ry.below hb
  replace rt := rt.below hb
  replace ru := ru.below hb
  replace HB := onto HB hb
  clear hb
  go_wp2_with fail
  refine (same_vals rr rx (by omega) kr kx (by rw [Hvr.out, VP.out, EX.out])).mono ?_
  rintro e w12 ⟨rfl, hb⟩
  replace ra := ra.below hb
  replace rp := rp.below hb
  replace rm := rm.below hb
  replace rq := rq.below hb
  replace rr := rr.below hb
  replace rx := rx.below hb
  replace ry := ry.below hb
  replace rt := rt.below hb
  replace ru := ru.below hb
  replace HB := onto HB hb
  clear hb
  go_wp2_with fail
  refine (same_vals rq ry (by omega) kq ky (by rw [Hvq.out, VP.out, EY.out])).mono ?_
  rintro e w13 ⟨rfl, hb⟩
  replace ra := ra.below hb
  replace rp := rp.below hb
  replace rm := rm.below hb
  replace rq := rq.below hb
  replace rr := rr.below hb
  replace rx := rx.below hb
  replace ry := ry.below hb
  replace rt := rt.below hb
  replace ru := ru.below hb
  replace HB := onto HB hb
  clear hb
  go_wp2
  go_ret
  exact ⟨rfl, HB⟩

set_option maxRecDepth 100000 in
set_option maxHeartbeats 4000000 in
theorem powers_low2 {w : World} {a0 : Addr} {na ca n k : Nat} {a : List Nat} (ra : Rd w (.slice (some a0) na ca) a) (ha : na ≤ 20) (hk : n % 8 = k) (hc : na ≤ k) (hcn : ¬ ca = na) :
    Calls Try.prog 9 #[.slice (some a0) na ca, .int .u8 (n : Int)] w (Samed w true) := by
  obtain ⟨i0, hi, hz0, hz1, hz2⟩ := info_parts Try.info36
  have HB := Below.refl w.heap.size w
  have sa := rd_small ra ha
  have la : a.length ≤ 20 := by rw [← ra.open.1]; exact ha
  have HLA := ra.lim
  have hca : na ≤ ca := ra.open.2.1
  have hk7 : k ≤ 7 := by omega
  have e8 : (n : Int) % 8 = (k : Int) := by omega
  have em : min (k : Int) (na : Int) = (na : Int) := by omega
  have HK := Lib.hid hk; clear hk
  go_enter Try.func9, Try.ntmps9
  go_wp2_with fail
  refine (head_any w).mono ?_
  rintro e w1 ⟨rfl, hb⟩
  replace ra := ra.below hb
  replace HB := onto HB hb
  clear hb
  have RA1 := ra
  go_wp2_with (at_make; refine wpList_make_full _ rfl _ _ 22 rfl w1.heap.size 36 i0 (.int .u32 0) 1 Try.underlying22 hi hz0 hz1 _ _ _ _ k rfl rfl (by omega) (by omega) (by rw [hz2]; omega) (by unfold maxLen; omega) (Nat.le_refl _) ?_)
  intro w2 ho1 hg1
  have HO1 := Lib.hid ho1; clear ho1
  have hb : Below w1.heap.size w1 w2 := (Below.refl _ _).grown hg1 (Nat.le_refl _) (by simp)
  clear hg1
  replace ra := ra.below hb
  have HBm1 := HB
  have hbm1 := hb
  replace HB := onto HB hb
  clear hb
  go_wp2_with (at_builtin; refine wpList_append_own _ rfl _ _ 22 rfl w1.heap.size 36 i0 (.int .u32 0) 1 4 Try.underlying22 hi hz0 hz1 hz2 rfl (by decide) _ _ _ rfl (HO1.out.alloc _) ⟨w2.heap.size, 0, none⟩ 1 1 [.int .u32 1] rfl rfl ?c1 ?c2 ?c3 ?c4 ?c5 ?_)
  case c1 =>
    intro j u hj
    match j, hj with
    | 0, hj => simp at hj; subst hj; simp [Addr.add]
  case c2 => intro u hu; simp at hu; subst hu; rfl
  case c3 => unfold maxLen; omega
  case c4 => omega
  case c5 => have := hbm1.size; simp; omega
  intro vp w3 hop hgp _
  obtain ⟨adp, cp, rfl, rp⟩ := own_zeros (l := [1]) (fun x hx => by simp at hx; omega) hop
  clear hop
  have hb : Below w1.heap.size w1 w3 := (hbm1.trans ((alb w2 _).mono hbm1.size)).grown hgp (Nat.le_trans hbm1.size (by simp)) (by simp [Value.ownBlock])
  replace HB := onto HBm1 hb
  clear hbm1 HBm1 hgp
  replace ra := RA1.below hb
  clear hb
  have VP : Hid (val (List.replicate k 0 ++ [1]) = pw k) := by show val _ = pw k; rw [val_zeros, val1, Nat.mul_one]
  have lp : (List.replicate k 0 ++ [1]).length ≤ 8 := by simp; omega
  obtain ⟨p, hp⟩ : ∃ p, p = List.replicate k 0 ++ [1] := ⟨_, rfl⟩
  rw [← hp] at rp VP lp
  clear hp
  have sp : val p < pw 8 := val_small rp.lim lp
  go_wp2_with fail
  refine (mul_any ra rp (by omega) (by omega)).mono ?_
  rintro e w4 ⟨adm, nm, cm, lm, rfl, rm, km, vm, hb⟩
  replace ra := ra.below hb
  replace rp := rp.below hb
  replace HB := onto HB hb
  clear hb
  have Hvm := Lib.hid vm; clear vm
  have sm : val lm < pw 28 := by rw [Hvm.out]; exact lt_mul sa sp
  have bm : lm.length ≤ 28 := km.len sm
  go_wp2_with fail
  refine (div_yes ra rp (by omega) (by omega) (by rw [VP.out]; exact pw_pos k)).mono ?_
  rintro e w5 ⟨adq, nq, cq, lq, adr, nr, cr, lr, rfl, rq, kq, vq, rr, kr, vr, hb⟩
  replace ra := ra.below hb
  replace rp := rp.below hb
  replace rm := rm.below hb
  replace HB := onto HB hb
  clear hb
  have Hvq := Lib.hid vq; clear vq
  have Hvr := Lib.hid vr; clear vr
  have bq : lq.length ≤ 20 := kq.len (by rw [Hvq.out]; exact Nat.lt_of_le_of_lt (Nat.div_le_self _ _) sa)
  have br : lr.length ≤ 20 := kr.len (by rw [Hvr.out]; exact Nat.lt_of_le_of_lt (Nat.mod_le _ _) sa)
  have HCUT := Lib.hid (cut_at HLA k)
  go_wp2_with fail
  refine (norm_any ra (by omega)).mono ?_
  rintro e w6 ⟨adx, nx, cx, lx, rfl, rx, kx, vx, hb⟩
  replace ra := ra.below hb
  replace rp := rp.below hb
  replace rm := rm.below hb
  replace rq := rq.below hb
  replace rr := rr.below hb
  replace HB := onto HB hb
  clear hb
  have Hvx := Lib.hid vx; clear vx
  have EX : Hid (val lx = val a % pw k) := by show val lx = _; rw [Hvx.out]; exact (Nat.mod_eq_of_lt (val_small HLA (by rw [← ra.open.1]; exact hc))).symm
  go_wp2_with fail
  refine (norm_any (rd_empty _ _ _) (by simp)).mono ?_
  rintro e w7 ⟨ady, ny, cy, ly, rfl, ry, ky, vy, hb⟩
  replace ra := ra.below hb
  replace rp := rp.below hb
  replace rm := rm.below hb
  replace rq := rq.below hb
  replace rr := rr.below hb
  replace rx := rx.below hb
  replace HB := onto HB hb
  clear hb
  have Hvy := Lib.hid vy; clear vy
  have EY : Hid (val ly = val a / pw k) := by show val ly = _; rw [Hvy.out]; exact (Nat.div_eq_of_lt (val_small HLA (by rw [← ra.open.1]; exact hc))).symm
  have RY2 := ry
  have RX2 := rx
  have RR2 := rr
  have RQ2 := rq
  have RM2 := rm
  have RP2 := rp
  have RA2 := ra
  go_wp2_with (at_make; refine wpList_wanted (by rfl) ?_; refine wpList_make_full _ rfl _ _ 22 rfl w7.heap.size 36 i0 (.int .u32 0) 1 Try.underlying22 hi hz0 hz1 _ _ _ _ k rfl rfl (by omega) (by omega) (by rw [hz2]; omega) (by unfold maxLen; omega) (Nat.le_refl _) ?_)
  intro w8 ho2 hg2
  have HO2 := Lib.hid ho2; clear ho2
  have hb : Below w7.heap.size w7 w8 := (Below.refl _ _).grown hg2 (Nat.le_refl _) (by simp)
  clear hg2
  replace ra := ra.below hb
  replace rp := rp.below hb
  replace rm := rm.below hb
  replace rq := rq.below hb
  replace rr := rr.below hb
  replace rx := rx.below hb
  replace ry := ry.below hb
  have HBm2 := HB
  have hbm2 := hb
  replace HB := onto HB hb
  clear hb
  go_wp2_with (at_builtin; refine wpList_wanted (by rfl) ?_; refine wpList_append_own _ rfl _ _ 22 rfl w7.heap.size 36 i0 (.int .u32 0) 1 4 Try.underlying22 hi hz0 hz1 hz2 rfl (by decide) _ _ _ rfl HO2.out a0 na ca (a.map fun (x : Nat) => Value.int .u32 (x : Int)) rfl (by simp [ra.open.1]) ?d1 ?d2 ?d3 ?d4 ?d5 ?_)
  case d1 =>
    intro j u hu
    rw [List.getElem?_map] at hu
    obtain ⟨x, hx, rfl⟩ := Option.map_eq_some_iff.1 hu
    obtain ⟨b, o, e, _, hcl⟩ := ra.open.2.2.2 (by have := (List.getElem?_eq_some_iff.1 hx).1; have := ra.open.1; omega)
    simp only [Option.some.injEq] at e
    subst e
    have hj : j < na := by have := (List.getElem?_eq_some_iff.1 hx).1; have := ra.open.1; omega
    have := hcl j hj
    rw [Addr.add_lit, this]
    unfold at0
    rw [List.getD_eq_getElem?_getD, hx]; rfl
  case d2 => intro u hu; obtain ⟨x, _, rfl⟩ := List.mem_map.1 hu; rfl
  case d3 => unfold maxLen; omega
  case d4 => omega
  case d5 => exact hbm2.size
  intro vt w9 hot hgt _
  obtain ⟨adt, ct, rfl, rt⟩ := own_zeros HLA hot
  clear hot
  have hb : Below w7.heap.size w7 w9 := hbm2.grown hgt hbm2.size (by simp [Value.ownBlock])
  replace HB := onto HBm2 hb
  replace ra := RA2.below hb
  replace rp := RP2.below hb
  replace rm := RM2.below hb
  replace rq := RQ2.below hb
  replace rr := RR2.below hb
  replace rx := RX2.below hb
  replace ry := RY2.below hb
  clear hb hbm2 HBm2 hgt
  have VT : Hid (val (List.replicate k 0 ++ a) = pw k * val a) := val_zeros k a
  have lt : (List.replicate k 0 ++ a).length ≤ 27 := by simp; omega
  go_wp2_with fail
  refine (norm_any rt (by omega)).mono ?_
  rintro e w10 ⟨adu, nu, cu, lu, rfl, ru, ku, vu, hb⟩
  replace ra := ra.below hb
  replace rp := rp.below hb
  replace rm := rm.below hb
  replace rq := rq.below hb
  replace rr := rr.below hb
  replace rx := rx.below hb
  replace ry := ry.below hb
  replace rt := rt.below hb
  replace HB := onto HB hb
  clear hb
  have Hvu := Lib.hid vu; clear vu
  have su : val lu < pw 27 := by rw [Hvu.out]; exact val_small rt.lim lt
  have bu : lu.length ≤ 27 := ku.len su
  go_wp2_with fail
  refine (same_vals rm ru (by omega) km ku (by rw [Hvm.out, Hvu.out, VP.out, VT.out, Nat.mul_comm])).mono ?_
  rintro e w11 ⟨rfl, hb⟩
  replace ra := ra.below hb
  replace rp := rp.below hb
  replace rm := rm.below hb
  replace rq := rq.below hb
  replace rr := rr.below hb
  replace rx := rx.below hb
  replace ry := ry.below hb
  replace rt := rt.below hb
  replace ru := ru.below hb
  replace HB := onto HB hb
  clear hb
  go_wp2_with fail
  refine (same_vals rr rx (by omega) kr kx (by rw [Hvr.out, VP.out, EX.out])).mono ?_
  rintro e w12 ⟨rfl, hb⟩
  replace ra := ra.below hb
  replace rp := rp.below hb
  replace rm := rm.below hb
  replace rq := rq.below hb
  replace rr := rr.below hb
  replace rx := rx.below hb
  replace ry := ry.below hb
  replace rt := rt.below hb
  replace ru := ru.below hb
  replace HB := onto HB hb
  clear hb
  go_wp2_with fail
  refine (same_vals rq ry (by omega) kq ky (by rw [Hvq.out, VP.out, EY.out])).mono ?_
  rintro e w13 ⟨rfl, hb⟩
  replace ra := ra.below hb
  replace rp := rp.below hb
  replace rm := rm.below hb
  replace rq := rq.below hb
  replace rr := rr.below hb
  replace rx := rx.below hb
  replace ry := ry.below hb
  replace rt := rt.below hb
  replace ru := ru.below hb
  replace HB := onto HB hb
  clear hb
  go_wp2
  go_ret
  exact ⟨rfl, HB⟩

set_option maxRecDepth 100000 in
set_option maxHeartbeats 4000000 in
theorem powers_high {w : World} {b0 o0 na ca n k : Nat} {a : List Nat} (ra : Rd w (.slice (some ⟨b0, o0, none⟩) na ca) a) (ha : na ≤ 20) (hk : n % 8 = k) (hc : k < na) :
    Calls Try.prog 9 #[.slice (some ⟨b0, o0, none⟩) na ca, .int .u8 (n : Int)] w (Samed w true) := by
  obtain ⟨i0, hi, hz0, hz1, hz2⟩ := info_parts Try.info36
  have HB := Below.refl w.heap.size w
  have sa := rd_small ra ha
  have la : a.length ≤ 20 := by rw [← ra.open.1]; exact ha
  have HLA := ra.lim
  have hca : na ≤ ca := ra.open.2.1
  have hk7 : k ≤ 7 := by omega
  have e8 : (n : Int) % 8 = (k : Int) := by omega
  have em : min (k : Int) (na : Int) = (k : Int) := by omega
  have HK := Lib.hid hk; clear hk
  go_enter Try.func9, Try.ntmps9
  go_wp2_with fail
  refine (head_any w).mono ?_
  rintro e w1 ⟨rfl, hb⟩
  replace ra := ra.below hb
  replace HB := onto HB hb
  clear hb
  have RA1 := ra
  go_wp2_with (at_make; refine wpList_make_full _ rfl _ _ 22 rfl w1.heap.size 36 i0 (.int .u32 0) 1 Try.underlying22 hi hz0 hz1 _ _ _ _ k rfl rfl (by omega) (by omega) (by rw [hz2]; omega) (by unfold maxLen; omega) (Nat.le_refl _) ?_)
  intro w2 ho1 hg1
  have HO1 := Lib.hid ho1; clear ho1
  have hb : Below w1.heap.size w1 w2 := (Below.refl _ _).grown hg1 (Nat.le_refl _) (by simp)
  clear hg1
  replace ra := ra.below hb
  have HBm1 := HB
  have hbm1 := hb
  replace HB := onto HB hb
  clear hb
  go_wp2_with (at_builtin; refine wpList_append_own _ rfl _ _ 22 rfl w1.heap.size 36 i0 (.int .u32 0) 1 4 Try.underlying22 hi hz0 hz1 hz2 rfl (by decide) _ _ _ rfl (HO1.out.alloc _) ⟨w2.heap.size, 0, none⟩ 1 1 [.int .u32 1] rfl rfl ?c1 ?c2 ?c3 ?c4 ?c5 ?_)
  case c1 =>
    intro j u hj
    match j, hj with
    | 0, hj => simp at hj; subst hj; simp [Addr.add]
  case c2 => intro u hu; simp at hu; subst hu; rfl
  case c3 => unfold maxLen; omega
  case c4 => omega
  case c5 => have := hbm1.size; simp; omega
  intro vp w3 hop hgp _
  obtain ⟨adp, cp, rfl, rp⟩ := own_zeros (l := [1]) (fun x hx => by simp at hx; omega) hop
  clear hop
  have hb : Below w1.heap.size w1 w3 := (hbm1.trans ((alb w2 _).mono hbm1.size)).grown hgp (Nat.le_trans hbm1.size (by simp)) (by simp [Value.ownBlock])
  replace HB := onto HBm1 hb
  clear hbm1 HBm1 hgp
  replace ra := RA1.below hb
  clear hb
  have VP : Hid (val (List.replicate k 0 ++ [1]) = pw k) := by show val _ = pw k; rw [val_zeros, val1, Nat.mul_one]
  have lp : (List.replicate k 0 ++ [1]).length ≤ 8 := by simp; omega
  obtain ⟨p, hp⟩ : ∃ p, p = List.replicate k 0 ++ [1] := ⟨_, rfl⟩
  rw [← hp] at rp VP lp
  clear hp
  have sp : val p < pw 8 := val_small rp.lim lp
  go_wp2_with fail
  refine (mul_any ra rp (by omega) (by omega)).mono ?_
  rintro e w4 ⟨adm, nm, cm, lm, rfl, rm, km, vm, hb⟩
  replace ra := ra.below hb
  replace rp := rp.below hb
  replace HB := onto HB hb
  clear hb
  have Hvm := Lib.hid vm; clear vm
  have sm : val lm < pw 28 := by rw [Hvm.out]; exact lt_mul sa sp
  have bm : lm.length ≤ 28 := km.len sm
  go_wp2_with fail
  refine (div_yes ra rp (by omega) (by omega) (by rw [VP.out]; exact pw_pos k)).mono ?_
  rintro e w5 ⟨adq, nq, cq, lq, adr, nr, cr, lr, rfl, rq, kq, vq, rr, kr, vr, hb⟩
  replace ra := ra.below hb
  replace rp := rp.below hb
  replace rm := rm.below hb
  replace HB := onto HB hb
  clear hb
  have Hvq := Lib.hid vq; clear vq
  have Hvr := Lib.hid vr; clear vr
  have bq : lq.length ≤ 20 := kq.len (by rw [Hvq.out]; exact Nat.lt_of_le_of_lt (Nat.div_le_self _ _) sa)
  have br : lr.length ≤ 20 := kr.len (by rw [Hvr.out]; exact Nat.lt_of_le_of_lt (Nat.mod_le _ _) sa)
  have HCUT := Lib.hid (cut_at HLA k)
  go_wp2_with fail
  refine (norm_any (rd_take ra (Nat.le_of_lt hc)) (by rw [List.length_take]; omega)).mono ?_
  rintro e w6 ⟨adx, nx, cx, lx, rfl, rx, kx, vx, hb⟩
  replace ra := ra.below hb
  replace rp := rp.below hb
  replace rm := rm.below hb
  replace rq := rq.below hb
  replace rr := rr.below hb
  replace HB := onto HB hb
  clear hb
  have Hvx := Lib.hid vx; clear vx
  have EX : Hid (val lx = val a % pw k) := by show val lx = _; rw [Hvx.out]; exact HCUT.out.1
  go_wp2_with fail
  refine (norm_any (rd_drop ra (Nat.le_of_lt hc)) (by rw [List.length_drop]; omega)).mono ?_
  rintro e w7 ⟨ady, ny, cy, ly, rfl, ry, ky, vy, hb⟩
  replace ra := ra.below hb
  replace rp := rp.below hb
  replace rm := rm.below hb
  replace rq := rq.below hb
  replace rr := rr.below hb
  replace rx := rx.below hb
  replace HB := onto HB hb
  clear hb
  have Hvy := Lib.hid vy; clear vy
  have EY : Hid (val ly = val a / pw k) := by show val ly = _; rw [Hvy.out]; exact HCUT.out.2
  have RY2 := ry
  have RX2 := rx
  have RR2 := rr
  have RQ2 := rq
  have RM2 := rm
  have RP2 := rp
  have RA2 := ra
  go_wp2_with (at_make; refine wpList_wanted (by rfl) ?_; refine wpList_make_full _ rfl _ _ 22 rfl w7.heap.size 36 i0 (.int .u32 0) 1 Try.underlying22 hi hz0 hz1 _ _ _ _ k rfl rfl (by omega) (by omega) (by rw [hz2]; omega) (by unfold maxLen; omega) (Nat.le_refl _) ?_)
  intro w8 ho2 hg2
  have HO2 := Lib.hid ho2; clear ho2
  have hb : Below w7.heap.size w7 w8 := (Below.refl _ _).grown hg2 (Nat.le_refl _) (by simp)
  clear hg2
  replace ra := ra.below hb
  replace rp := rp.below hb
  replace rm := rm.below hb
  replace rq := rq.below hb
  replace rr := rr.below hb
  replace rx := rx.below hb
  replace ry := ry.below hb
  have HBm2 := HB
  have hbm2 := hb
  replace HB := onto HB hb
  clear hb
  go_wp2_with (at_builtin; refine wpList_wanted (by rfl) ?_; refine wpList_append_own _ rfl _ _ 22 rfl w7.heap.size 36 i0 (.int .u32 0) 1 4 Try.underlying22 hi hz0 hz1 hz2 rfl (by decide) _ _ _ rfl HO2.out ⟨b0, o0, none⟩ na ca (a.map fun (x : Nat) => Value.int .u32 (x : Int)) rfl (by simp [ra.open.1]) ?d1 ?d2 ?d3 ?d4 ?d5 ?_)
  case d1 =>
    intro j u hu
    rw [List.getElem?_map] at hu
    obtain ⟨x, hx, rfl⟩ := Option.map_eq_some_iff.1 hu
    obtain ⟨b, o, e, _, hcl⟩ := ra.open.2.2.2 (by have := (List.getElem?_eq_some_iff.1 hx).1; have := ra.open.1; omega)
    simp only [Option.some.injEq, Addr.mk.injEq, and_true] at e
    obtain ⟨rfl, rfl⟩ := e
    have hj : j < na := by have := (List.getElem?_eq_some_iff.1 hx).1; have := ra.open.1; omega
    have := hcl j hj
    rw [Addr.add_lit, this]
    unfold at0
    rw [List.getD_eq_getElem?_getD, hx]; rfl
  case d2 => intro u hu; obtain ⟨x, _, rfl⟩ := List.mem_map.1 hu; rfl
  case d3 => unfold maxLen; omega
  case d4 => omega
  case d5 => exact hbm2.size
  intro vt w9 hot hgt _
  obtain ⟨adt, ct, rfl, rt⟩ := own_zeros HLA hot
  clear hot
  have hb : Below w7.heap.size w7 w9 := hbm2.grown hgt hbm2.size (by simp [Value.ownBlock])
  replace HB := onto HBm2 hb
  replace ra := RA2.below hb
  replace rp := RP2.below hb
  replace rm := RM2.below hb
  replace rq := RQ2.below hb
  replace rr := RR2.below hb
  replace rx := RX2.below hb
  replace ry := RY2.below hb
  clear hb hbm2 HBm2 hgt
  have VT : Hid (val (List.replicate k 0 ++ a) = pw k * val a) := val_zeros k a
  have lt : (List.replicate k 0 ++ a).length ≤ 27 := by simp; omega
  go_wp2_with fail
  refine (norm_any rt (by omega)).mono ?_
  rintro e w10 ⟨adu, nu, cu, lu, rfl, ru, ku, vu, hb⟩
  replace ra := ra.below hb
  replace rp := rp.below hb
  replace rm := rm.below hb
  replace rq := rq.below hb
  replace rr := rr.below hb
  replace rx := rx.below hb
  replace ry := ry.below hb
  replace rt := rt.below hb
  replace HB := onto HB hb
  clear hb
  have Hvu := Lib.hid vu; clear vu
  have su : val lu < pw 27 := by rw [Hvu.out]; exact val_small rt.lim lt
  have bu : lu.length ≤ 27 := ku.len su
  go_wp2_with fail
  refine (same_vals rm ru (by omega) km ku (by rw [Hvm.out, Hvu.out, VP.out, VT.out, Nat.mul_comm])).mono ?_
  rintro e w11 ⟨rfl, hb⟩
  replace ra := ra.below hb
  replace rp := rp.below hb
  replace rm := rm.below hb
  replace rq := rq.below hb
  replace rr := rr.below hb
  replace rx := rx.below hb
  replace ry := ry.below hb
  replace rt := rt.below hb
  replace ru := ru.below hb
  replace HB := onto HB hb
  clear hb
  go_wp2_with fail
  refine (same_vals rr rx (by omega) kr kx (by rw [Hvr.out, VP.out, EX.out])).mono ?_
  rintro e w12 ⟨rfl, hb⟩
  replace ra := ra.below hb
  replace rp := rp.below hb
  replace rm := rm.below hb
  replace rq := rq.below hb
  replace rr := rr.below hb
  replace rx := rx.below hb
  replace ry := ry.below hb
  replace rt := rt.below hb
  replace ru := ru.below hb
  replace HB := onto HB hb
  clear hb
  go_wp2_with fail
  refine (same_vals rq ry (by omega) kq ky (by rw [Hvq.out, VP.out, EY.out])).mono ?_
  rintro e w13 ⟨rfl, hb⟩
  replace ra := ra.below hb
  replace rp := rp.below hb
  replace rm := rm.below hb
  replace rq := rq.below hb
  replace rr := rr.below hb
  replace rx := rx.below hb
  replace ry := ry.below hb
  replace rt := rt.below hb
  replace ru := ru.below hb
  replace HB := onto HB hb
  clear hb
  go_wp2
  go_ret
  exact ⟨rfl, HB⟩

set_option maxRecDepth 100000 in
set_option maxHeartbeats 4000000 in
theorem powers_nil {w : World} {n k : Nat} {a : List Nat} (ra : Rd w (.slice none 0 0) a) (ha : 0 ≤ 20) (hk : n % 8 = k) (hc : 0 ≤ k) :
    Calls Try.prog 9 #[.slice none 0 0, .int .u8 (n : Int)] w (Samed w true) := by
  obtain ⟨i0, hi, hz0, hz1, hz2⟩ := info_parts Try.info36
  have HB := Below.refl w.heap.size w
  have sa := rd_small ra ha
  have la : a.length ≤ 20 := by rw [← ra.open.1]; exact ha
  have HLA := ra.lim
  have hca : 0 ≤ 0 := ra.open.2.1
  have hk7 : k ≤ 7 := by omega
  have e8 : (n : Int) % 8 = (k : Int) := by omega
  have em : min (k : Int) 0 = 0 := by omega
  have HK := Lib.hid hk; clear hk
  go_enter Try.func9, Try.ntmps9
  go_wp2_with fail
  refine (head_any w).mono ?_
  rintro e w1 ⟨rfl, hb⟩
  replace ra := ra.below hb
  replace HB := onto HB hb
  clear hb
  have RA1 := ra
  go_wp2_with (at_make; refine wpList_make_full _ rfl _ _ 22 rfl w1.heap.size 36 i0 (.int .u32 0) 1 Try.underlying22 hi hz0 hz1 _ _ _ _ k rfl rfl (by omega) (by omega) (by rw [hz2]; omega) (by unfold maxLen; omega) (Nat.le_refl _) ?_)
  intro w2 ho1 hg1
  have HO1 := Lib.hid ho1; clear ho1
  have hb : Below w1.heap.size w1 w2 := (Below.refl _ _).grown hg1 (Nat.le_refl _) (by simp)
  clear hg1
  replace ra := ra.below hb
  have HBm1 := HB
  have hbm1 := hb
  replace HB := onto HB hb
  clear hb
  go_wp2_with (at_builtin; refine wpList_append_own _ rfl _ _ 22 rfl w1.heap.size 36 i0 (.int .u32 0) 1 4 Try.underlying22 hi hz0 hz1 hz2 rfl (by decide) _ _ _ rfl (HO1.out.alloc _) ⟨w2.heap.size, 0, none⟩ 1 1 [.int .u32 1] rfl rfl ?c1 ?c2 ?c3 ?c4 ?c5 ?_)
  case c1 =>
    intro j u hj
    match j, hj with
    | 0, hj => simp at hj; subst hj; simp [Addr.add]
  case c2 => intro u hu; simp at hu; subst hu; rfl
  case c3 => unfold maxLen; omega
  case c4 => omega
  case c5 => have := hbm1.size; simp; omega
  intro vp w3 hop hgp _
  obtain ⟨adp, cp, rfl, rp⟩ := own_zeros (l := [1]) (fun x hx => by simp at hx; omega) hop
  clear hop
  have hb : Below w1.heap.size w1 w3 := (hbm1.trans ((alb w2 _).mono hbm1.size)).grown hgp (Nat.le_trans hbm1.size (by simp)) (by simp [Value.ownBlock])
  replace HB := onto HBm1 hb
  clear hbm1 HBm1 hgp
  replace ra := RA1.below hb
  clear hb
  have VP : Hid (val (List.replicate k 0 ++ [1]) = pw k) := by show val _ = pw k; rw [val_zeros, val1, Nat.mul_one]
  have lp : (List.replicate k 0 ++ [1]).length ≤ 8 := by simp; omega
  obtain ⟨p, hp⟩ : ∃ p, p = List.replicate k 0 ++ [1] := ⟨_, rfl⟩
  rw [← hp] at rp VP lp
  clear hp
  have sp : val p < pw 8 := val_small rp.lim lp
  go_wp2_with fail
  refine (mul_any ra rp (by omega) (by omega)).mono ?_
  rintro e w4 ⟨adm, nm, cm, lm, rfl, rm, km, vm, hb⟩
  replace ra := ra.below hb
  replace rp := rp.below hb
  replace HB := onto HB hb
  clear hb
  have Hvm := Lib.hid vm; clear vm
  have sm : val lm < pw 28 := by rw [Hvm.out]; exact lt_mul sa sp
  have bm : lm.length ≤ 28 := km.len sm
  go_wp2_with fail
  refine (div_yes ra rp (by omega) (by omega) (by rw [VP.out]; exact pw_pos k)).mono ?_
  rintro e w5 ⟨adq, nq, cq, lq, adr, nr, cr, lr, rfl, rq, kq, vq, rr, kr, vr, hb⟩
  replace ra := ra.below hb
  replace rp := rp.below hb
  replace rm := rm.below hb
  replace HB := onto HB hb
  clear hb
  have Hvq := Lib.hid vq; clear vq
  have Hvr := Lib.hid vr; clear vr
  have bq : lq.length ≤ 20 := kq.len (by rw [Hvq.out]; exact Nat.lt_of_le_of_lt (Nat.div_le_self _ _) sa)
  have br : lr.length ≤ 20 := kr.len (by rw [Hvr.out]; exact Nat.lt_of_le_of_lt (Nat.mod_le _ _) sa)
  have HCUT := Lib.hid (cut_at HLA k)
  go_wp2_with fail
  refine (norm_any ra (by omega)).mono ?_
  rintro e w6 ⟨adx, nx, cx, lx, rfl, rx, kx, vx, hb⟩
  replace ra := ra.below hb
  replace rp := rp.below hb
  replace rm := rm.below hb
  replace rq := rq.below hb
  replace rr := rr.below hb
  replace HB := onto HB hb
  clear hb
  have Hvx := Lib.hid vx; clear vx
  have EX : Hid (val lx = val a % pw k) := by show val lx = _; rw [Hvx.out]; exact (Nat.mod_eq_of_lt (val_small HLA (by rw [← ra.open.1]; exact hc))).symm
  go_wp2_with fail
  refine (norm_any (rd_empty _ _ _) (by simp)).mono ?_
  rintro e w7 ⟨ady, ny, cy, ly, rfl, ry, ky, vy, hb⟩
  replace ra := ra.below hb
  replace rp := rp.below hb
  replace rm := rm.below hb
  replace rq := rq.below hb
  replace rr := rr.below hb
  replace rx := rx.below hb
  replace HB := onto HB hb
  clear hb
  have Hvy := Lib.hid vy; clear vy
  have EY : Hid (val ly = val a / pw k) := by show val ly = _; rw [Hvy.out]; exact (Nat.div_eq_of_lt (val_small HLA (by rw [← ra.open.1]; exact hc))).symm
  have RY2 := ry
  have RX2 := rx
  have RR2 := rr
  have RQ2 := rq
  have RM2 := rm
  have RP2 := rp
  have RA2 := ra
  go_wp2_with (at_make; refine wpList_wanted (by rfl) ?_; refine wpList_make_full _ rfl _ _ 22 rfl w7.heap.size 36 i0 (.int .u32 0) 1 Try.underlying22 hi hz0 hz1 _ _ _ _ k rfl rfl (by omega) (by omega) (by rw [hz2]; omega) (by unfold maxLen; omega) (Nat.le_refl _) ?_)
  intro w8 ho2 hg2
  have HO2 := Lib.hid ho2; clear ho2
  have hb : Below w7.heap.size w7 w8 := (Below.refl _ _).grown hg2 (Nat.le_refl _) (by simp)
  clear hg2
  replace ra := ra.below hb
  replace rp := rp.below hb
  replace rm := rm.below hb
  replace rq := rq.below hb
  replace rr := rr.below hb
  replace rx := rx.below hb
  replace ry := ry.below hb
  have HBm2 := HB
  have hbm2 := hb
  replace HB := onto HB hb
  clear hb
  go_wp2_with (at_builtin; refine wpList_wanted (by rfl) ?_; refine wpList_append_own_none rfl _ _ 22 rfl w7.heap.size 36 i0 1 Try.underlying22 hi _ _ _ rfl HO2.out rfl ?_)
  obtain ⟨adt, ct, et, rt⟩ := own_zeros (k := k) (n := k) (l := []) (fun x hx => by simp at hx) (by simpa using HO2.out)
  simp only [Value.slice.injEq] at et
  obtain ⟨rfl, -, rfl⟩ := et
  clear hbm2 HBm2
  have VT : Hid (val (List.replicate k 0 ++ a) = pw k * val a) := val_zeros k a
  have lt : (List.replicate k 0 ++ a).length ≤ 27 := by simp; omega
  obtain rfl : a = [] := List.eq_nil_of_length_eq_zero ra.open.1.symm
  go_wp2_with fail
  refine (norm_any rt (by omega)).mono ?_
  rintro e w10 ⟨adu, nu, cu, lu, rfl, ru, ku, vu, hb⟩
  replace ra := ra.below hb
  replace rp := rp.below hb
  replace rm := rm.below hb
  replace rq := rq.below hb
  replace rr := rr.below hb
  replace rx := rx.below hb
  replace ry := ry.below hb
  replace rt := rt.below hb
  replace HB := onto HB hb
  clear hb
  have Hvu := Lib.hid vu; clear vu
  have su : val lu < pw 27 := by rw [Hvu.out]; exact val_small rt.lim lt
  have bu : lu.length ≤ 27 := ku.len su
  go_wp2_with fail
  refine (same_vals rm ru (by omega) km ku (by rw [Hvm.out, Hvu.out, VP.out, VT.out, Nat.mul_comm])).mono ?_
  rintro e w11 ⟨rfl, hb⟩
  replace ra := ra.below hb
  replace rp := rp.below hb
  replace rm := rm.below hb
  replace rq := rq.below hb
  replace rr := rr.below hb
  replace rx := rx.below hb
  replace ry := ry.below hb
  replace rt := rt.below hb
  replace ru := ru.below hb
  replace HB := onto HB hb
  clear hb
  go_wp2_with fail
  refine (same_vals rr rx (by omega) kr kx (by rw [Hvr.out, VP.out, EX.out])).mono ?_
  rintro e w12 ⟨rfl, hb⟩
  replace ra := ra.below hb
  replace rp := rp.below hb
  replace rm := rm.below hb
  replace rq := rq.below hb
  replace rr := rr.below hb
  replace rx := rx.below hb
  replace ry := ry.below hb
  replace rt := rt.below hb
  replace ru := ru.below hb
  replace HB := onto HB hb
  clear hb
  go_wp2_with fail
  refine (same_vals rq ry (by omega) kq ky (by rw [Hvq.out, VP.out, EY.out])).mono ?_
  rintro e w13 ⟨rfl, hb⟩
  replace ra := ra.below hb
  replace rp := rp.below hb
  replace rm := rm.below hb
  replace rq := rq.below hb
  replace rr := rr.below hb
  replace rx := rx.below hb
  replace ry := ry.below hb
  replace rt := rt.below hb
  replace ru := ru.below hb
  replace HB := onto HB hb
  clear hb
  go_wp2
  go_ret
  exact ⟨rfl, HB⟩

theorem powers_law {w : World} {ada : Option Addr} {na ca n : Nat} {a : List Nat} (ra : Rd w (.slice ada na ca) a) (hnil : ada = none → ca = 0) : Calls Try.prog 9 #[.slice ada na ca, .int .u8 (n : Int)] w (Samed w true) := by
  by_cases h : 20 < na
  · exact powers_great ada na ca n h
  · cases ada with
    | none =>
      obtain rfl := hnil rfl
      obtain rfl : na = 0 := Nat.le_zero.1 ra.open.2.1
      exact powers_nil ra (by omega) rfl (Nat.zero_le _)
    | some a0 =>
      by_cases h2 : n % 8 < na
      · obtain ⟨b, o, e, _⟩ := ra.open.2.2.2 (by omega)
        simp only [Option.some.injEq] at e
        subst e
        exact powers_high ra (by omega) rfl h2
      · by_cases hcn : ca = na
        · subst hcn
          exact powers_low1 ra (by omega) rfl (by omega)
        · exact powers_low2 ra (by omega) rfl (by omega) hcn

end Go.Proofs.Ytpijjpjpedcbhaa
