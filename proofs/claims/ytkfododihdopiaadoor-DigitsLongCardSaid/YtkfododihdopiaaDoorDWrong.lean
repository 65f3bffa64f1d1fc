/-
  DigitsWrong: the law's body answers true of any list, any place and any byte.
-/
import Derived.Test.YtkfododihdopiaaDoorDNext
namespace Go.Proofs.YtkfododihdopiaaDoor
open Go.RowKit

/-- The byte of a number below 256. -/
def chr (c : Nat) : UInt8 := UInt8.ofNat c

theorem chr_nat {c : Nat} (h : c < 256) : (chr c).toNat = c := by
  unfold chr
  rw [UInt8.toNat_ofNat']
  omega

theorem by0_extract (s : ByteArray) (i j : Nat) : by0 (s.extract i j) = ((by0 s).drop i).take (j - i) := Lib.extract_data s i j

/-- A byte put into a text. -/
theorem by0_put (s : ByteArray) (k : Nat) (b : UInt8) : by0 (s.extract 0 k ++ ⟨#[b]⟩ ++ s.extract k s.size) = (by0 s).take k ++ b :: (by0 s).drop k := by
  rw [by0_append, by0_append, by0_extract, by0_extract, List.drop_zero, Nat.sub_zero, List.append_assoc]
  congr 1
  show [b] ++ _ = _
  rw [List.take_of_length_le (by rw [List.length_drop, by0_len]; exact Nat.le_refl _)]
  rfl

theorem put_bad {l : List UInt8} {k : Nat} {b : UInt8} (h : b.toNat < 48 ∨ 57 < b.toNat) : decide (Dec (l.take k ++ b :: l.drop k)) = false := by
  refine decide_eq_false fun hd => ?_
  have := hd.1 b (List.mem_append.2 (.inr List.mem_cons_self))
  omega

theorem put_digs {l : List UInt8} {k : Nat} {b : UInt8} (hl : Digs l) (h0 : 48 ≤ b.toNat) (h9 : b.toNat ≤ 57) : Digs (l.take k ++ b :: l.drop k) := fun c hc => by
  rcases List.mem_append.1 hc with h | h
  · exact hl c (List.mem_of_mem_take h)
  · rcases List.mem_cons.1 h with rfl | h
    · exact ⟨h0, h9⟩
    · exact hl c (List.mem_of_mem_drop h)

theorem put_in {l : List UInt8} {k : Nat} {b c : UInt8} (hl : Dec l) (hk : 0 < k) (h0 : 48 ≤ b.toNat) (h9 : b.toNat ≤ 57) (hc : l[0]? = some c) : decide (Dec (l.take k ++ b :: l.drop k)) = ((c.toNat : Int) != 48) := by
  have hd := put_digs (k := k) hl.1 h0 h9
  have hn : l.take k ++ b :: l.drop k ≠ [48] := by
    intro e
    have h1 := congrArg List.length e
    have h2 := hl.pos
    rw [List.length_append, List.length_cons, List.length_take, List.length_drop, List.length_singleton] at h1
    omega
  refine right_end hd hn ?_
  cases l with
  | nil => simp at hc
  | cons d l =>
    obtain ⟨k, rfl⟩ : ∃ j, k = j + 1 := ⟨k - 1, by omega⟩
    simpa using hc

theorem put_ahead {l : List UInt8} {b : UInt8} (hl : Dec l) (h0 : 48 ≤ b.toNat) (h9 : b.toNat ≤ 57) : decide (Dec (l.take 0 ++ b :: l.drop 0)) = ((b.toNat : Int) != 48) := by
  have hd := put_digs (k := 0) hl.1 h0 h9
  have hn : l.take 0 ++ b :: l.drop 0 ≠ [48] := by
    intro e
    have h1 := congrArg List.length e
    have h2 := hl.pos
    rw [List.length_append, List.length_cons, List.length_take, List.length_drop, List.length_singleton] at h1
    omega
  exact right_end hd hn (by simp)

theorem nought_ahead {l : List UInt8} (hl : Dec l) : decide (Dec (48 :: l)) = false :=
  decide_eq_false fun h => h.2.2 (by have := hl.pos; simp; omega) rfl

theorem sign_ahead (l : List UInt8) : decide (Dec (45 :: l)) = false :=
  decide_eq_false fun h => by have := (h.1 45 List.mem_cons_self).1; exact absurd this (by decide)

set_option maxRecDepth 100000 in
set_option maxHeartbeats 4000000 in
theorem dwrong_great {w : World} (ada : Option Addr) (na ca at0' c : Nat) (h : 60 < na) :
    Calls Tryd.prog 7 #[.slice ada na ca, .int .u8 (at0' : Int), .int .u8 (c : Int)] w (Samed w true) := by
  go_enter Tryd.func7, Tryd.ntmps7
  go_wp2_with fail
  refine (dhead_any w).mono ?_
  rintro e w1 ⟨rfl, hb⟩
  have z : decide ((60 : Int) < (na : Int)) = true := decide_eq_true (by omega)
  go_wp2
  go_ret
  exact ⟨rfl, hb⟩

set_option maxRecDepth 100000 in
set_option maxHeartbeats 8000000 in
theorem dwrong_main {w : World} {ada : Option Addr} {na ca : Nat} {a : List Nat} (ra : Rd w (.slice ada na ca) a) (p c : Nat) (hl : na ≤ 60) (hp : p < 256) (hc : c < 256) :
    Calls Tryd.prog 7 #[.slice ada na ca, .int .u8 (p : Int), .int .u8 (c : Int)] w (Samed w true) := by
  have HB := Below.refl w.heap.size w
  have la : a.length ≤ 60 := by rw [← ra.open.1]; exact hl
  have z : decide ((60 : Int) < (na : Int)) = false := decide_eq_false (by omega)
  have hlim := Lib.hid ra.lim
  clear hl
  go_enter Tryd.func7, Tryd.ntmps7
  go_wp2_with fail
  refine (dhead_any w).mono ?_
  rintro e w1 ⟨rfl, hb⟩
  replace ra := ra.below hb
  replace HB := onto HB hb
  clear hb
  go_wp2_with fail
  refine (text_any ra (by omega)).mono ?_
  rintro e w2 ⟨s, rfl, ds, ns, hb⟩
  replace ra := ra.below hb
  replace HB := onto HB hb
  clear hb
  have Hns := Lib.hid ns; clear ns
  have hs : s.size ≤ 600 := text_size ds hlim.out Hns.out la (by decide)
  have hs0 : 0 < s.size := by have := ds.pos; rwa [by0_len] at this
  have DS := Lib.hid ds; clear ds
  obtain ⟨K, hK⟩ : ∃ K, K = p % (s.size + 1) := ⟨_, rfl⟩
  have hKs : K ≤ s.size := by rw [hK]; exact Nat.le_of_lt_succ (Nat.mod_lt _ (by omega))
  have eK : (p : Int) % ((s.size : Int) + 1) = (K : Int) := by rw [hK, Int.natCast_emod]; rfl
  have eK2 : (p : Int).tmod ((s.size : Int) + 1) = (K : Int) := by rw [Int.tmod_eq_emod_of_nonneg (by omega)]; exact eK
  clear hK
  have hcn : (c : Int) = ((chr c).toNat : Int) := by rw [chr_nat hc]
  have hconv := fun W B h => string_one W B (chr c) (y := (c : Int)) hcn h
  clear hcn
  go_wp2_with fail
  go_region
  clear hconv eK eK2
  obtain ⟨T, hT⟩ : ∃ T, T = s.extract 0 K ++ ⟨#[chr c]⟩ ++ s.extract K s.size := ⟨_, rfl⟩
  have hTb : by0 T = (by0 s).take K ++ chr c :: (by0 s).drop K := by rw [hT]; exact by0_put s K (chr c)
  have h0s : decide (Dec (by0 ((⟨#[48]⟩ : ByteArray) ++ s))) = false := by rw [by0_append]; exact nought_ahead DS.out
  have hms : decide (Dec (by0 ((⟨#[45]⟩ : ByteArray) ++ s))) = false := by rw [by0_append]; exact sign_ahead _
  have HTB := Lib.hid hTb
  have H0S := Lib.hid h0s
  have HMS := Lib.hid hms
  have hcc := chr_nat hc
  have HCC := Lib.hid hcc
  have hs00 := by0_at s 0 hs0
  have HS00 := Lib.hid hs00
  clear hTb h0s hms hcc hs00
  rw [← hT]
  clear hT
  obtain ⟨W, hW⟩ : ∃ W, W = (w2.alloc (.cells #[.int .u8 (c : Int)] 5)).drew := ⟨_, rfl⟩
  have hbW : Below w2.heap.size w2 W := by rw [hW]; exact bel_drew (bel_alloc (Below.refl _ _) _)
  rw [← hW]
  replace HB := onto HB hbW
  clear hW hbW ra
  by_cases hlo : c < 48
  · skip
    have hR : decide (Dec (by0 T)) = false := by rw [HTB.out]; exact put_bad (.inl (by rw [HCC.out]; exact hlo))
    have HR := Lib.hid hR; clear hR
    have z4 : decide ((48 : Int) ≤ (c : Int)) = false := decide_eq_false (by omega)
    go_wp2_with fail
    refine (right_is T _ (b := false) HR.out).mono ?_
    rintro e w3 ⟨rfl, hb⟩
    replace HB := onto HB hb
    clear hb
    go_wp2_with fail
    refine (right_is _ _ (b := false) H0S.out).mono ?_
    rintro e w4 ⟨rfl, hb⟩
    replace HB := onto HB hb
    clear hb
    go_wp2_with fail
    refine (right_is _ _ (b := false) HMS.out).mono ?_
    rintro e w5 ⟨rfl, hb⟩
    replace HB := onto HB hb
    clear hb
    go_wp2
    go_ret
    exact ⟨rfl, HB⟩
  · by_cases hhi : 57 < c
    · skip
      have hR : decide (Dec (by0 T)) = false := by rw [HTB.out]; exact put_bad (.inr (by rw [HCC.out]; exact hhi))
      have HR := Lib.hid hR; clear hR
      have z4 : decide ((48 : Int) ≤ (c : Int)) = true := decide_eq_true (by omega)
      have z5 : decide ((c : Int) ≤ 57) = false := decide_eq_false (by omega)
      go_wp2_with fail
      refine (right_is T _ (b := false) HR.out).mono ?_
      rintro e w3 ⟨rfl, hb⟩
      replace HB := onto HB hb
      clear hb
      go_wp2_with fail
      refine (right_is _ _ (b := false) H0S.out).mono ?_
      rintro e w4 ⟨rfl, hb⟩
      replace HB := onto HB hb
      clear hb
      go_wp2_with fail
      refine (right_is _ _ (b := false) HMS.out).mono ?_
      rintro e w5 ⟨rfl, hb⟩
      replace HB := onto HB hb
      clear hb
      go_wp2
      go_ret
      exact ⟨rfl, HB⟩
    · rcases Nat.eq_zero_or_pos K with hK0 | hK0
      · subst hK0
        by_cases h48 : c = 48
        · skip
          have hR : decide (Dec (by0 T)) = false := by rw [HTB.out]; rw [put_ahead DS.out (by rw [HCC.out]; omega) (by rw [HCC.out]; omega), HCC.out, h48]; rfl
          have HR := Lib.hid hR; clear hR
          have z4 : decide ((48 : Int) ≤ (c : Int)) = true := decide_eq_true (by omega)
          have z5 : decide ((c : Int) ≤ 57) = true := decide_eq_true (by omega)
          have z6 : ((c : Int) != 48) = false := by simp; omega
          have z7 : ((c : Int) == 48) = true := by simp; omega
          go_wp2_with fail
          refine (right_is T _ (b := false) HR.out).mono ?_
          rintro e w3 ⟨rfl, hb⟩
          replace HB := onto HB hb
          clear hb
          go_wp2_with fail
          refine (right_is _ _ (b := false) H0S.out).mono ?_
          rintro e w4 ⟨rfl, hb⟩
          replace HB := onto HB hb
          clear hb
          go_wp2_with fail
          refine (right_is _ _ (b := false) HMS.out).mono ?_
          rintro e w5 ⟨rfl, hb⟩
          replace HB := onto HB hb
          clear hb
          go_wp2
          go_ret
          exact ⟨rfl, HB⟩
        · skip
          have hR : decide (Dec (by0 T)) = true := by rw [HTB.out]; rw [put_ahead DS.out (by rw [HCC.out]; omega) (by rw [HCC.out]; omega), HCC.out]; simp; omega
          have HR := Lib.hid hR; clear hR
          have z4 : decide ((48 : Int) ≤ (c : Int)) = true := decide_eq_true (by omega)
          have z5 : decide ((c : Int) ≤ 57) = true := decide_eq_true (by omega)
          have z6 : ((c : Int) != 48) = true := by simp; omega
          have z7 : ((c : Int) == 48) = false := by simp; omega
          go_wp2_with fail
          refine (right_is T _ (b := true) HR.out).mono ?_
          rintro e w3 ⟨rfl, hb⟩
          replace HB := onto HB hb
          clear hb
          go_wp2_with fail
          refine (right_is _ _ (b := false) H0S.out).mono ?_
          rintro e w4 ⟨rfl, hb⟩
          replace HB := onto HB hb
          clear hb
          go_wp2_with fail
          refine (right_is _ _ (b := false) HMS.out).mono ?_
          rintro e w5 ⟨rfl, hb⟩
          replace HB := onto HB hb
          clear hb
          go_wp2
          go_ret
          exact ⟨rfl, HB⟩
      · by_cases h48 : (s[0]'hs0).toNat = 48
        · skip
          have hR : decide (Dec (by0 T)) = false := by rw [HTB.out]; rw [put_in DS.out hK0 (by rw [HCC.out]; omega) (by rw [HCC.out]; omega) HS00.out, h48]; rfl
          have HR := Lib.hid hR; clear hR
          have z4 : decide ((48 : Int) ≤ (c : Int)) = true := decide_eq_true (by omega)
          have z5 : decide ((c : Int) ≤ 57) = true := decide_eq_true (by omega)
          have z8 : decide ((0 : Int) < (K : Int)) = true := decide_eq_true (by omega)
          have z9 : ((K : Int) == 0) = false := by simp; omega
          have z6 : (((s[0]'hs0).toNat : Int) != 48) = false := by simp; omega
          have z7 : (((s[0]'hs0).toNat : Int) == 48) = true := by simp; omega
          go_wp2_with fail
          refine (right_is T _ (b := false) HR.out).mono ?_
          rintro e w3 ⟨rfl, hb⟩
          replace HB := onto HB hb
          clear hb
          go_wp2_with fail
          refine (right_is _ _ (b := false) H0S.out).mono ?_
          rintro e w4 ⟨rfl, hb⟩
          replace HB := onto HB hb
          clear hb
          go_wp2_with fail
          refine (right_is _ _ (b := false) HMS.out).mono ?_
          rintro e w5 ⟨rfl, hb⟩
          replace HB := onto HB hb
          clear hb
          go_wp2
          go_ret
          exact ⟨rfl, HB⟩
        · skip
          have hR : decide (Dec (by0 T)) = true := by rw [HTB.out]; rw [put_in DS.out hK0 (by rw [HCC.out]; omega) (by rw [HCC.out]; omega) HS00.out]; simp; omega
          have HR := Lib.hid hR; clear hR
          have z4 : decide ((48 : Int) ≤ (c : Int)) = true := decide_eq_true (by omega)
          have z5 : decide ((c : Int) ≤ 57) = true := decide_eq_true (by omega)
          have z8 : decide ((0 : Int) < (K : Int)) = true := decide_eq_true (by omega)
          have z9 : ((K : Int) == 0) = false := by simp; omega
          have z6 : (((s[0]'hs0).toNat : Int) != 48) = true := by simp; omega
          have z7 : (((s[0]'hs0).toNat : Int) == 48) = false := by simp; omega
          go_wp2_with fail
          refine (right_is T _ (b := true) HR.out).mono ?_
          rintro e w3 ⟨rfl, hb⟩
          replace HB := onto HB hb
          clear hb
          go_wp2_with fail
          refine (right_is _ _ (b := false) H0S.out).mono ?_
          rintro e w4 ⟨rfl, hb⟩
          replace HB := onto HB hb
          clear hb
          go_wp2_with fail
          refine (right_is _ _ (b := false) HMS.out).mono ?_
          rintro e w5 ⟨rfl, hb⟩
          replace HB := onto HB hb
          clear hb
          go_wp2
          go_ret
          exact ⟨rfl, HB⟩

theorem dwrong_law {w : World} {ada : Option Addr} {na ca : Nat} {a : List Nat} (ra : Rd w (.slice ada na ca) a) (p c : Nat) (hp : p < 256) (hc : c < 256) : Calls Tryd.prog 7 #[.slice ada na ca, .int .u8 (p : Int), .int .u8 (c : Int)] w (Samed w true) := by
  by_cases h : 60 < na
  · exact dwrong_great ada na ca p c h
  · exact dwrong_main ra p c (by omega) hp hc

end Go.Proofs.YtkfododihdopiaaDoor
