/-
  RatParts: the law's body answers true of any text.
-/
import Derived.Test.YtepacminjfeliaaDoorPartsNum
namespace Go.Proofs.YtepacminjfeliaaDoor
open Go.RowKit

theorem count_step {l : List UInt8} {k : Nat} {b : UInt8} (h : l[k]? = some b) : (l.take (k + 1)).count 47 = (l.take k).count 47 + (if b = 47 then 1 else 0) := by
  rw [List.take_add_one, h, List.count_append]
  simp [List.count_cons]

set_option maxRecDepth 100000 in
set_option maxHeartbeats 8000000 in
theorem rparts_zero {w : World} (x s n : ByteArray) (hx : x.size ≤ 160) (h0 : 0 < s.size) (h1 : s.size ≤ 400)
    (nx : ∀ w, Calls Tryd.prog 10 #[.string x] w fun e w' => e = .returned (.tuple #[.string s, .int .i64 0]) ∧ Below w.heap.size w w')
    (ng : ∀ w, Calls Tryd.prog 15 #[.string s] w fun e w' => e = .returned (.tuple #[.string n, .int .i64 0]) ∧ Below w.heap.size w w')
    (hby : Hid (∀ (k : Nat) (h : k < s.size), (48 ≤ (s[k]'h).toNat ∧ (s[k]'h).toNat ≤ 57) ∨ (s[k]'h).toNat = 47 ∨ ((s[k]'h).toNat = 45 ∧ k = 0))) (hct : Hid ((by0 s).count 47 ≤ 1))
    (z7 : (((s[0]'h0).toNat : Int) == 45) = false) (z8 : (s.toList == [48]) = true) (z9 : (n.toList == (s : ByteArray).toList) = true) : Calls Tryd.prog 7 #[.string x] w (Samed w true) := by
  have HB := Below.refl w.heap.size w
  have z : decide ((160 : Int) < (x.size : Int)) = false := decide_eq_false (by omega)
  have he : (s.toList == []) = false := by
    rw [beq_eq_false_iff_ne, toList_by0]
    intro e
    have := by0_len s
    rw [e] at this
    simp at this
    omega
  replace nx := Lib.hid nx
  replace ng := Lib.hid ng
  go_enter Tryd.func7, Tryd.ntmps7
  go_wp2_with fail
  refine (rhead_any _).mono ?_
  rintro e w1 ⟨rfl, hb⟩
  replace HB := onto HB hb
  clear hb
  go_wp2_with fail
  refine (nx.out _).mono ?_
  rintro e w2 ⟨rfl, hb⟩
  replace HB := onto HB hb
  clear hb
  go_wp2_with fail
  refine (ng.out _).mono ?_
  rintro e w3 ⟨rfl, hb⟩
  replace HB := onto HB hb
  clear hb
  go_wp2
  go_loopw [8, 9] (fun c i wr => ∃ (k cnt : Nat), c = .int .i64 cnt ∧ i = .int .i64 k ∧ wr = w3 ∧ k ≤ s.size ∧ cnt = ((by0 s).take k).count 47) (fun _ i _ => s.size - (intOf i).toNat)
  case atStart => exact ⟨0, 0, rfl, rfl, rfl, by omega, by simp⟩
  case round =>
    obtain ⟨k, cnt, rfl, rfl, rfl, hk, hc⟩ := hrel
    have HC := Lib.hid hc; clear hc
    have hcs : cnt ≤ 400 := by
      have h1 := List.count_le_length (a := (47 : UInt8)) (l := (by0 s).take k)
      rw [← HC.out, List.length_take, by0_len] at h1
      omega
    by_cases hlt : k < s.size
    · have hbk := by0_at s k hlt
      have hst := count_step hbk
      rw [← HC.out] at hst
      rcases hby.out k hlt with ⟨ha, hb9⟩ | ha | ⟨ha, rfl⟩
      · have y1 : (((s[k]'hlt).toNat : Int) == 47) = false := by simp; omega
        have y2 : decide ((48 : Int) ≤ ((s[k]'hlt).toNat : Int)) = true := decide_eq_true (by omega)
        have y3 : decide (((s[k]'hlt).toNat : Int) ≤ 57) = true := decide_eq_true (by omega)
        rw [if_neg (fun e => by rw [e] at ha; exact absurd ha (by decide))] at hst
        have HS := Lib.hid hst
        clear hst hbk ha hb9
        go_wp2
        go_roundw
        case rel => exact ⟨k + 1, cnt, rfl, by go_num, by first | trivial | rfl, by omega, by rw [HS.out]; rfl⟩
        case measure => simp [intOf]; omega
      · have y1 : ((s[k]'hlt).toNat : Int) = 47 := by rw [ha]; rfl
        rw [if_pos (show s[k]'hlt = 47 from UInt8.toNat_inj.1 ha)] at hst
        have HS := Lib.hid hst
        clear hst hbk ha
        go_wp2
        go_roundw
        case rel => exact ⟨k + 1, cnt + 1, by go_num, by go_num, by first | trivial | rfl, by omega, by rw [HS.out]⟩
        case measure => simp [intOf]; omega
      · have y1 : ((s[0]'hlt).toNat : Int) = 45 := by rw [ha]; rfl
        rw [if_neg (fun e => by rw [e] at ha; exact absurd ha (by decide))] at hst
        have HS := Lib.hid hst
        clear hst hbk ha
        go_wp2
        go_roundw
        case rel => exact ⟨0 + 1, cnt, rfl, by go_num, by first | trivial | rfl, by omega, by rw [HS.out]; rfl⟩
        case measure => simp [intOf]; omega
    · obtain rfl : k = s.size := by omega
      have hc1 : cnt ≤ 1 := by
        rw [HC.out, List.take_of_length_le (by rw [by0_len]; exact Nat.le_refl _)]
        exact hct.out
      have z6 : decide ((cnt : Int) ≤ 1) = true := decide_eq_true (by omega)
      go_wp2
      go_ret
      exact ⟨rfl, HB⟩

set_option maxRecDepth 100000 in
set_option maxHeartbeats 8000000 in
theorem rparts_minus {w : World} (x s n : ByteArray) (hx : x.size ≤ 160) (h0 : 0 < s.size) (h1 : s.size ≤ 400)
    (nx : ∀ w, Calls Tryd.prog 10 #[.string x] w fun e w' => e = .returned (.tuple #[.string s, .int .i64 0]) ∧ Below w.heap.size w w')
    (ng : ∀ w, Calls Tryd.prog 15 #[.string s] w fun e w' => e = .returned (.tuple #[.string n, .int .i64 0]) ∧ Below w.heap.size w w')
    (hby : Hid (∀ (k : Nat) (h : k < s.size), (48 ≤ (s[k]'h).toNat ∧ (s[k]'h).toNat ≤ 57) ∨ (s[k]'h).toNat = 47 ∨ ((s[k]'h).toNat = 45 ∧ k = 0))) (hct : Hid ((by0 s).count 47 ≤ 1))
    (z7 : (((s[0]'h0).toNat : Int) == 45) = true) (z8 : (s.toList == [48]) = false) (z9 : (n.toList == (s.extract 1 s.size : ByteArray).toList) = true) : Calls Tryd.prog 7 #[.string x] w (Samed w true) := by
  have HB := Below.refl w.heap.size w
  have z : decide ((160 : Int) < (x.size : Int)) = false := decide_eq_false (by omega)
  have he : (s.toList == []) = false := by
    rw [beq_eq_false_iff_ne, toList_by0]
    intro e
    have := by0_len s
    rw [e] at this
    simp at this
    omega
  replace nx := Lib.hid nx
  replace ng := Lib.hid ng
  go_enter Tryd.func7, Tryd.ntmps7
  go_wp2_with fail
  refine (rhead_any _).mono ?_
  rintro e w1 ⟨rfl, hb⟩
  replace HB := onto HB hb
  clear hb
  go_wp2_with fail
  refine (nx.out _).mono ?_
  rintro e w2 ⟨rfl, hb⟩
  replace HB := onto HB hb
  clear hb
  go_wp2_with fail
  refine (ng.out _).mono ?_
  rintro e w3 ⟨rfl, hb⟩
  replace HB := onto HB hb
  clear hb
  go_wp2
  go_loopw [8, 9] (fun c i wr => ∃ (k cnt : Nat), c = .int .i64 cnt ∧ i = .int .i64 k ∧ wr = w3 ∧ k ≤ s.size ∧ cnt = ((by0 s).take k).count 47) (fun _ i _ => s.size - (intOf i).toNat)
  case atStart => exact ⟨0, 0, rfl, rfl, rfl, by omega, by simp⟩
  case round =>
    obtain ⟨k, cnt, rfl, rfl, rfl, hk, hc⟩ := hrel
    have HC := Lib.hid hc; clear hc
    have hcs : cnt ≤ 400 := by
      have h1 := List.count_le_length (a := (47 : UInt8)) (l := (by0 s).take k)
      rw [← HC.out, List.length_take, by0_len] at h1
      omega
    by_cases hlt : k < s.size
    · have hbk := by0_at s k hlt
      have hst := count_step hbk
      rw [← HC.out] at hst
      rcases hby.out k hlt with ⟨ha, hb9⟩ | ha | ⟨ha, rfl⟩
      · have y1 : (((s[k]'hlt).toNat : Int) == 47) = false := by simp; omega
        have y2 : decide ((48 : Int) ≤ ((s[k]'hlt).toNat : Int)) = true := decide_eq_true (by omega)
        have y3 : decide (((s[k]'hlt).toNat : Int) ≤ 57) = true := decide_eq_true (by omega)
        rw [if_neg (fun e => by rw [e] at ha; exact absurd ha (by decide))] at hst
        have HS := Lib.hid hst
        clear hst hbk ha hb9
        go_wp2
        go_roundw
        case rel => exact ⟨k + 1, cnt, rfl, by go_num, by first | trivial | rfl, by omega, by rw [HS.out]; rfl⟩
        case measure => simp [intOf]; omega
      · have y1 : ((s[k]'hlt).toNat : Int) = 47 := by rw [ha]; rfl
        rw [if_pos (show s[k]'hlt = 47 from UInt8.toNat_inj.1 ha)] at hst
        have HS := Lib.hid hst
        clear hst hbk ha
        go_wp2
        go_roundw
        case rel => exact ⟨k + 1, cnt + 1, by go_num, by go_num, by first | trivial | rfl, by omega, by rw [HS.out]⟩
        case measure => simp [intOf]; omega
      · have y1 : ((s[0]'hlt).toNat : Int) = 45 := by rw [ha]; rfl
        rw [if_neg (fun e => by rw [e] at ha; exact absurd ha (by decide))] at hst
        have HS := Lib.hid hst
        clear hst hbk ha
        go_wp2
        go_roundw
        case rel => exact ⟨0 + 1, cnt, rfl, by go_num, by first | trivial | rfl, by omega, by rw [HS.out]; rfl⟩
        case measure => simp [intOf]; omega
    · obtain rfl : k = s.size := by omega
      have hc1 : cnt ≤ 1 := by
        rw [HC.out, List.take_of_length_le (by rw [by0_len]; exact Nat.le_refl _)]
        exact hct.out
      have z6 : decide ((cnt : Int) ≤ 1) = true := decide_eq_true (by omega)
      go_wp2
      go_ret
      exact ⟨rfl, HB⟩

set_option maxRecDepth 100000 in
set_option maxHeartbeats 8000000 in
theorem rparts_plus {w : World} (x s n : ByteArray) (hx : x.size ≤ 160) (h0 : 0 < s.size) (h1 : s.size ≤ 400)
    (nx : ∀ w, Calls Tryd.prog 10 #[.string x] w fun e w' => e = .returned (.tuple #[.string s, .int .i64 0]) ∧ Below w.heap.size w w')
    (ng : ∀ w, Calls Tryd.prog 15 #[.string s] w fun e w' => e = .returned (.tuple #[.string n, .int .i64 0]) ∧ Below w.heap.size w w')
    (hby : Hid (∀ (k : Nat) (h : k < s.size), (48 ≤ (s[k]'h).toNat ∧ (s[k]'h).toNat ≤ 57) ∨ (s[k]'h).toNat = 47 ∨ ((s[k]'h).toNat = 45 ∧ k = 0))) (hct : Hid ((by0 s).count 47 ≤ 1))
    (z7 : (((s[0]'h0).toNat : Int) == 45) = false) (z8 : (s.toList == [48]) = false) (z9 : (n.toList == (⟨#[45]⟩ ++ s : ByteArray).toList) = true) : Calls Tryd.prog 7 #[.string x] w (Samed w true) := by
  have HB := Below.refl w.heap.size w
  have z : decide ((160 : Int) < (x.size : Int)) = false := decide_eq_false (by omega)
  have he : (s.toList == []) = false := by
    rw [beq_eq_false_iff_ne, toList_by0]
    intro e
    have := by0_len s
    rw [e] at this
    simp at this
    omega
  replace nx := Lib.hid nx
  replace ng := Lib.hid ng
  go_enter Tryd.func7, Tryd.ntmps7
  go_wp2_with fail
  refine (rhead_any _).mono ?_
  rintro e w1 ⟨rfl, hb⟩
  replace HB := onto HB hb
  clear hb
  go_wp2_with fail
  refine (nx.out _).mono ?_
  rintro e w2 ⟨rfl, hb⟩
  replace HB := onto HB hb
  clear hb
  go_wp2_with fail
  refine (ng.out _).mono ?_
  rintro e w3 ⟨rfl, hb⟩
  replace HB := onto HB hb
  clear hb
  go_wp2
  go_loopw [8, 9] (fun c i wr => ∃ (k cnt : Nat), c = .int .i64 cnt ∧ i = .int .i64 k ∧ wr = w3 ∧ k ≤ s.size ∧ cnt = ((by0 s).take k).count 47) (fun _ i _ => s.size - (intOf i).toNat)
  case atStart => exact ⟨0, 0, rfl, rfl, rfl, by omega, by simp⟩
  case round =>
    obtain ⟨k, cnt, rfl, rfl, rfl, hk, hc⟩ := hrel
    have HC := Lib.hid hc; clear hc
    have hcs : cnt ≤ 400 := by
      have h1 := List.count_le_length (a := (47 : UInt8)) (l := (by0 s).take k)
      rw [← HC.out, List.length_take, by0_len] at h1
      omega
    by_cases hlt : k < s.size
    · have hbk := by0_at s k hlt
      have hst := count_step hbk
      rw [← HC.out] at hst
      rcases hby.out k hlt with ⟨ha, hb9⟩ | ha | ⟨ha, rfl⟩
      · have y1 : (((s[k]'hlt).toNat : Int) == 47) = false := by simp; omega
        have y2 : decide ((48 : Int) ≤ ((s[k]'hlt).toNat : Int)) = true := decide_eq_true (by omega)
        have y3 : decide (((s[k]'hlt).toNat : Int) ≤ 57) = true := decide_eq_true (by omega)
        rw [if_neg (fun e => by rw [e] at ha; exact absurd ha (by decide))] at hst
        have HS := Lib.hid hst
        clear hst hbk ha hb9
        go_wp2
        go_roundw
        case rel => exact ⟨k + 1, cnt, rfl, by go_num, by first | trivial | rfl, by omega, by rw [HS.out]; rfl⟩
        case measure => simp [intOf]; omega
      · have y1 : ((s[k]'hlt).toNat : Int) = 47 := by rw [ha]; rfl
        rw [if_pos (show s[k]'hlt = 47 from UInt8.toNat_inj.1 ha)] at hst
        have HS := Lib.hid hst
        clear hst hbk ha
        go_wp2
        go_roundw
        case rel => exact ⟨k + 1, cnt + 1, by go_num, by go_num, by first | trivial | rfl, by omega, by rw [HS.out]⟩
        case measure => simp [intOf]; omega
      · have y1 : ((s[0]'hlt).toNat : Int) = 45 := by rw [ha]; rfl
        rw [if_neg (fun e => by rw [e] at ha; exact absurd ha (by decide))] at hst
        have HS := Lib.hid hst
        clear hst hbk ha
        go_wp2
        go_roundw
        case rel => exact ⟨0 + 1, cnt, rfl, by go_num, by first | trivial | rfl, by omega, by rw [HS.out]; rfl⟩
        case measure => simp [intOf]; omega
    · obtain rfl : k = s.size := by omega
      have hc1 : cnt ≤ 1 := by
        rw [HC.out, List.take_of_length_le (by rw [by0_len]; exact Nat.le_refl _)]
        exact hct.out
      have z6 : decide ((cnt : Int) ≤ 1) = true := decide_eq_true (by omega)
      go_wp2
      go_ret
      exact ⟨rfl, HB⟩

set_option maxRecDepth 100000 in
set_option maxHeartbeats 4000000 in
theorem rparts_great {w : World} (x : ByteArray) (h : 160 < x.size) : Calls Tryd.prog 7 #[.string x] w (Samed w true) := by
  have HB := Below.refl w.heap.size w
  have z : decide ((160 : Int) < (x.size : Int)) = true := decide_eq_true (by omega)
  go_enter Tryd.func7, Tryd.ntmps7
  go_wp2_with fail
  refine (rhead_any _).mono ?_
  rintro e w1 ⟨rfl, hb⟩
  replace HB := onto HB hb
  clear hb
  go_wp2
  go_ret
  exact ⟨rfl, HB⟩

set_option maxRecDepth 100000 in
set_option maxHeartbeats 4000000 in
theorem rparts_bad12 {w : World} (x t : ByteArray) (h : x.size ≤ 160) (nx : ∀ w, Calls Tryd.prog 10 #[.string x] w fun e w' => e = .returned (.tuple #[.string t, .int .i64 12]) ∧ Below w.heap.size w w') : Calls Tryd.prog 7 #[.string x] w (Samed w true) := by
  have HB := Below.refl w.heap.size w
  have z : decide ((160 : Int) < (x.size : Int)) = false := decide_eq_false (by omega)
  replace nx := Lib.hid nx
  go_enter Tryd.func7, Tryd.ntmps7
  go_wp2_with fail
  refine (rhead_any _).mono ?_
  rintro e w1 ⟨rfl, hb⟩
  replace HB := onto HB hb
  clear hb
  go_wp2_with fail
  refine (nx.out _).mono ?_
  rintro e w2 ⟨rfl, hb⟩
  replace HB := onto HB hb
  clear hb
  go_wp2
  go_ret
  exact ⟨rfl, HB⟩

set_option maxRecDepth 100000 in
set_option maxHeartbeats 4000000 in
theorem rparts_bad21 {w : World} (x t : ByteArray) (h : x.size ≤ 160) (nx : ∀ w, Calls Tryd.prog 10 #[.string x] w fun e w' => e = .returned (.tuple #[.string t, .int .i64 21]) ∧ Below w.heap.size w w') : Calls Tryd.prog 7 #[.string x] w (Samed w true) := by
  have HB := Below.refl w.heap.size w
  have z : decide ((160 : Int) < (x.size : Int)) = false := decide_eq_false (by omega)
  replace nx := Lib.hid nx
  go_enter Tryd.func7, Tryd.ntmps7
  go_wp2_with fail
  refine (rhead_any _).mono ?_
  rintro e w1 ⟨rfl, hb⟩
  replace HB := onto HB hb
  clear hb
  go_wp2_with fail
  refine (nx.out _).mono ?_
  rintro e w2 ⟨rfl, hb⟩
  replace HB := onto HB hb
  clear hb
  go_wp2
  go_ret
  exact ⟨rfl, HB⟩

theorem rparts_law {w : World} (x : ByteArray) : Calls Tryd.prog 7 #[.string x] w (Samed w true) := by
  by_cases h : 160 < x.size
  · exact rparts_great x h
  · have h1 : x.size ≤ 160 := by omega
    obtain ⟨t, g, nx, hx⟩ := norm_short h1
    rcases hx with ⟨rfl | rfl, -, -⟩ | ⟨rfl, rfl, sx, -, -⟩
    · exact rparts_bad12 x t h1 nx
    · exact rparts_bad21 x t h1 nx
    · generalize worth (by0 x) = q at nx sx
      have gq := sx.T (by decide) (by decide) (by decide)
      have gn := sx.neg.T (by decide) (by decide) (by decide)
      have ng := fun w => neg_to (a := T q) (u := T (-q)) w gq gn (by simp only [T_worth])
      have hlen : (T q).size = (rtxt q).length := by rw [← by0_len, T_by0]
      have h0 : 0 < (T q).size := by rw [hlen]; exact rtxt_pos q
      have h4 : (T q).size ≤ 400 := by rw [hlen]; have := sx.text (by decide) (by decide); omega
      have hby : ∀ (k : Nat) (h : k < (T q).size), (48 ≤ ((T q)[k]'h).toNat ∧ ((T q)[k]'h).toNat ≤ 57) ∨ ((T q)[k]'h).toNat = 47 ∨ (((T q)[k]'h).toNat = 45 ∧ k = 0) := by
        intro k h
        rcases rtxt_bytes q k _ (T_at q k h) with h1 | h1 | ⟨h1, h2⟩
        · exact .inl h1
        · exact .inr (.inl (by rw [h1]; rfl))
        · exact .inr (.inr ⟨by rw [h1]; rfl, h2⟩)
      have hct : (by0 (T q)).count 47 ≤ 1 := by rw [T_by0]; exact rtxt_count q
      have hat := T_at q 0 h0
      have h48 := T_nought q
      rcases Int.lt_trichotomy q.num 0 with hq | hq | hq
      · have hr := rtxt_minus hq
        have hq0 : q ≠ 0 := fun e => by rw [e] at hq; exact absurd hq (by decide)
        rw [decide_eq_false hq0] at h48
        rw [hr, List.getElem?_cons_zero] at hat
        have h45 : (T q)[0]'h0 = 45 := (Option.some.inj hat).symm
        refine rparts_minus x (T q) (T (-q)) h1 h0 h4 nx ng (Lib.hid hby) (Lib.hid hct) (by rw [h45]; rfl) h48 ?_
        have e : T (-q) = (T q).extract 1 (T q).size := bytes_eq (by rw [extract_one, T_by0, T_by0, hr]; rfl)
        rw [← e]; exact beq_self_eq_true _
      · obtain rfl : q = 0 := (Rat.num_eq_zero).1 hq
        have e : T (-0) = T 0 := by rw [Rat.neg_zero]
        refine rparts_zero x (T 0) (T (-0)) h1 h0 h4 nx ng (Lib.hid hby) (Lib.hid hct) ?_ (by rw [h48]; rfl) (by rw [e]; exact beq_self_eq_true _)
        have hz : rtxt 0 = [48] := rtxt_zero
        rw [hz] at hat
        have h48' : (T 0)[0]'h0 = 48 := (Option.some.inj hat).symm
        rw [h48']; rfl
      · have hr := rtxt_plus hq
        have hq0 : q ≠ 0 := fun e => by rw [e] at hq; exact absurd hq (by decide)
        rw [decide_eq_false hq0] at h48
        refine rparts_plus x (T q) (T (-q)) h1 h0 h4 nx ng (Lib.hid hby) (Lib.hid hct) ?_ h48 ?_
        · have hneg := negB_rtxt q
          rw [decide_eq_false (by omega)] at hneg
          unfold negB at hneg
          rw [List.head?_eq_getElem?, hat] at hneg
          have hne : (T q)[0]'h0 ≠ 45 := fun e => by rw [e] at hneg; exact absurd hneg (by decide)
          have hne2 : ((T q)[0]'h0).toNat ≠ 45 := fun e => hne (UInt8.toNat_inj.1 e)
          simp; omega
        · have e : T (-q) = ⟨#[45]⟩ ++ T q := bytes_eq (by rw [by0_append, T_by0, T_by0, hr]; rfl)
          rw [e]; exact beq_self_eq_true _

end Go.Proofs.YtepacminjfeliaaDoor
