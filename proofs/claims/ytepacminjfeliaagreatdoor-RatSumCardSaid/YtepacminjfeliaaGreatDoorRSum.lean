/-
  The law of sums.
-/
import Derived.Test.YtepacminjfeliaaGreatDoorRSumMore
namespace Go.Proofs.YtepacminjfeliaaGreatDoor
open Go.RowKit

set_option maxRecDepth 100000 in
set_option maxHeartbeats 4000000 in
theorem rsum_great {w : World} (ad : Option Addr) (n cap : Nat) (t : Nat) (hn : 40 < n) : Calls Tryz.prog 4 #[.slice ad n cap, .int .u8 t] w (Samed w true) := by
  have z : decide ((40 : Int) < (n : Int)) = true := decide_eq_true (by omega)
  go_enter Tryz.func4, Tryz.ntmps4
  go_wp2_with fail
  refine (rhead_any _).mono ?_
  rintro e w1 ⟨rfl, HB⟩
  go_wp2
  go_ret
  exact ⟨rfl, HB⟩

set_option maxRecDepth 100000 in
set_option maxHeartbeats 16000000 in
theorem rsum_small {w : World} {ad : Option Addr} {n cap : Nat} {L : List ByteArray} (h : RdS w (.slice ad n cap) L) (t : Nat) (ht : t < 256) (hn : n ≤ 40) : Calls Tryz.prog 4 #[.slice ad n cap, .int .u8 t] w (Samed w true) := by
  have hLn : L.length = n := by
    obtain ⟨_, _, e, _⟩ := id h
    simp only [Value.slice.injEq] at e
    exact e.2.1.symm
  have HR := Lib.hid h; clear h
  have HLN := Lib.hid hLn; clear hLn
  have z : decide ((40 : Int) < (n : Int)) = false := decide_eq_false (by omega)
  go_enter Tryz.func4, Tryz.ntmps4
  go_wp2_with fail
  refine (rhead_any _).mono ?_
  rintro e w1 ⟨rfl, hb1⟩
  go_wp2
  clear z
  go_loopw [6, 7, 8, 9] (fun vS vK va vi wr => ∃ (S K : List ByteArray) (all : ByteArray) (i : Nat), va = .string all ∧ vi = .int .i64 i ∧ i ≤ n ∧ Hid (Two w wr vS vK S K all i) ∧ Below w.heap.size w wr) (fun _ _ _ vi _ => n - (intOf vi).toNat)
  case atStart => exact ⟨[], [], _, 0, rfl, rfl, by omega, Lib.hid (Two.start w w1), hb1⟩
  case round =>
    obtain ⟨S, K, all, i, rfl, rfl, hi, hinv, hbel⟩ := hrel
    by_cases hlt : i < n
    · obtain ⟨s, hs⟩ : ∃ s, L[i]? = some s := ⟨_, List.getElem?_eq_getElem (by rw [HLN.out]; exact hlt)⟩
      obtain ⟨b, o, rfl, hcell⟩ : ∃ b o, ad = some ⟨b, o, none⟩ ∧ wr.cell? ⟨b, o + i, none⟩ = some (.string s) := by
        obtain ⟨ad', cap', e, hc, hh⟩ := HR.out
        simp only [Value.slice.injEq] at e
        obtain ⟨rfl, -, rfl⟩ := e
        obtain ⟨b, o, e2, hlt2, hh2⟩ := hh (fun e => by rw [e] at hs; simp at hs)
        exact ⟨b, o, e2, (hbel.cell (p := ⟨b, o + i, none⟩) hlt2).trans (hh2 i s hs)⟩
      clear hs
      by_cases hs40 : 40 < s.size
      · have z : decide ((40 : Int) < (s.size : Int)) = true := decide_eq_true (by omega)
        go_wp2
        go_ret
        exact ⟨rfl, hbel⟩
      · have z : decide ((40 : Int) < (s.size : Int)) = false := decide_eq_false (by omega)
        obtain ⟨t1, g, hno, hcase⟩ := norm_forty (s := s) (by omega)
        have HN := Lib.hid (hno wr); clear hno
        rcases hcase with (rfl | rfl) | ⟨rfl, hgood, hsize⟩
        · go_wp2_with fail
          refine HN.out.mono ?_
          rintro e w2 ⟨rfl, hb⟩
          have HB := onto hbel hb
          have HT := Lib.hid (hinv.out.below hb)
          clear hcell hb
          go_wp2
          refine ⟨⟨S, K, all, i + 1, rfl, rfl, by omega, Lib.hid HT.out.up, HB⟩, ?_⟩
          simp [intOf]; omega
        · go_wp2_with fail
          refine HN.out.mono ?_
          rintro e w2 ⟨rfl, hb⟩
          have HB := onto hbel hb
          have HT := Lib.hid (hinv.out.below hb)
          clear hcell hb
          go_wp2
          refine ⟨⟨S, K, all, i + 1, rfl, rfl, by omega, Lib.hid HT.out.up, HB⟩, ?_⟩
          simp [intOf]; omega
        · have hng := hsize.neg
          have hgn : Good (by0 (T (-worth (by0 t1)))) := by rw [T_by0]; exact hng.good (by decide) (by decide) (by decide)
          have HNEG := Lib.hid (fun w => neg_to (a := t1) (u := T (-worth (by0 t1))) w hgood hgn (by rw [T_worth]))
          have HG1 := Lib.hid (And.intro hgood (hsize.mono (x := 41) (y := 41) (by decide) (by decide)))
          have HG2 := Lib.hid (show Good (by0 (T (-worth (by0 t1)))) ∧ Size (worth (by0 (T (-worth (by0 t1))))) 41 41 from ⟨hgn, by rw [T_worth]; exact hng.mono (by decide) (by decide)⟩)
          have HV := Lib.hid (show worth (by0 (T (-worth (by0 t1)))) = -worth (by0 t1) by rw [T_worth])
          obtain ⟨t2, ht2⟩ : ∃ x, x = T (-worth (by0 t1)) := ⟨_, rfl⟩
          rw [← ht2] at HNEG HG2 HV
          clear hng hgn hgood hsize ht2
          go_wp2_with fail
          refine HN.out.mono ?_
          rintro e w2 ⟨rfl, hb⟩
          have HB := onto hbel hb
          have HT := Lib.hid (hinv.out.below hb)
          clear hcell hb hbel hinv
          go_wp2_with fail
          refine (HNEG.out _).mono ?_
          rintro e w3 ⟨rfl, hb⟩
          replace HB := onto HB hb
          replace HT := Lib.hid (HT.out.below hb)
          clear hb
          have al := alb w3 (.cells #[.string t1] 9)
          have HB2 := onto HB al
          have HT2 := Lib.hid (HT.out.below al)
          have HC := Lib.hid (strs_new w3 [t1] #[.string t1] 9 rfl)
          clear al
          go_wp2_with (at_builtin; refine wpList_pushS _ rfl _ _ rfl w.heap.size _ S rfl HT2.out.1 ⟨w3.heap.size, 0, none⟩ 1 1 [t1] rfl rfl (by decide) HC.out (by have := HT2.out.2.2.2.1; omega) (by decide) HB2.size ?_)
          intro g4 cap4 w4 hown hgrow hat hup
          have HB4 := hup _ w (Nat.le_refl _) HB2 (by simpa using HB2.size)
          have HOK := Lib.hid (HT2.out.2.1.kept hgrow HT2.out.2.2.1.symm)
          have HAP := Lib.hid (HT2.out.2.2.1.symm.push (g := g4) (n := S.length + 1) (cap := cap4) HT2.out.2.1 (by simpa using hat))
          have HOS := Lib.hid hown
          have HQ := Lib.hid HT2.out.2.2.2
          clear hown hgrow hat hup HB HB2 HT HT2 HC
          have al := alb w4 (.cells #[.string t1, .string t2] 9)
          have HB5 := onto HB4 al
          have HOK5 := Lib.hid (HOK.out.below al)
          have HOS5 := Lib.hid (HOS.out.below al)
          have HC := Lib.hid (strs_new w4 [t1, t2] #[.string t1, .string t2] 9 rfl)
          clear al HOK HOS
          go_wp2_with (at_builtin; refine wpList_pushS _ rfl _ _ rfl w.heap.size _ K rfl HOK5.out ⟨w4.heap.size, 0, none⟩ 2 2 [t1, t2] rfl rfl (by decide) HC.out (by have := HQ.out.2.1; omega) (by decide) HB5.size ?_)
          intro g6 cap6 w6 hown hgrow hat hup
          have HB6 := hup _ w (Nat.le_refl _) HB5 (by simpa using HB5.size)
          have HOS6 := Lib.hid (HOS5.out.kept hgrow HAP.out.symm)
          have HAP6 := Lib.hid (HAP.out.symm.push (g := g6) (n := K.length + 2) (cap := cap6) HOS5.out (by simpa using hat))
          have HOK6 := Lib.hid hown
          clear hown hgrow hat hup HB4 HB5 HOS5 HOK5 HC HAP
          have hpl := Lib.hid (plus_all (b := t1) w6 HQ.out.2.2.2.2.2 HG1.out.1)
          go_wp2_with fail
          refine hpl.out.mono ?_
          rintro e w7 ⟨⟨u, rfl, hu⟩, hb⟩
          have HB7 := onto HB6 hb
          have HOS7 := Lib.hid (HOS6.out.below hb)
          have HOK7 := Lib.hid (HOK6.out.below hb)
          have HU := Lib.hid hu
          clear hb hu HB6 HOS6 HOK6 hpl
          go_wp2
          refine ⟨⟨S ++ [t1], K ++ [t1, t2], u, i + 1, rfl, rfl, by omega, Lib.hid ⟨HOS7.out, HOK7.out, HAP6.out, ?_, ?_, ?_, ?_, ?_, ?_⟩, HB7⟩, ?_⟩
          · have := HQ.out.1
            simp only [List.length_append, List.length_cons, List.length_nil]; omega
          · have := HQ.out.2.1
            simp only [List.length_append, List.length_cons, List.length_nil]; omega
          · intro x hx
            rcases List.mem_append.1 hx with hx | hx
            · exact HQ.out.2.2.1 x hx
            · obtain rfl : x = t1 := by simpa using hx
              exact HG1.out
          · intro x hx
            rcases List.mem_append.1 hx with hx | hx
            · exact HQ.out.2.2.2.1 x hx
            · rcases (by simpa using hx : x = t1 ∨ x = t2) with rfl | rfl
              · exact HG1.out
              · exact HG2.out
          · rw [sumW_append, HQ.out.2.2.2.2.1, neg_sum t1 t2 HV.out, Rat.add_zero]
          · rw [sumW_append, sumW_one]
            exact HU.out
          · simp [intOf]; omega
    · obtain rfl : i = n := by omega
      have hrd := hinv.out.1.rd
      obtain ⟨aS, cS, rfl, -, -⟩ := id hrd
      obtain ⟨m, hm⟩ : ∃ m, m = S.length := ⟨_, rfl⟩
      rw [← hm] at hrd
      have HRD := Lib.hid hrd
      have HM := Lib.hid hm
      have hmi : m ≤ i := by rw [hm]; exact hinv.out.2.2.2.1
      rw [← hm]
      clear hrd hm hlt hi
      rename World => wo
      have HB0 := Below.refl wo.heap.size wo
      go_wp2
      go_loopw [14, 15] (fun vo vi wr => ∃ (O : List ByteArray) (k : Nat), vi = .int .i64 k ∧ k ≤ m ∧ Hid (OwnS wr wo.heap.size vo O ∧ O = (turned S (t % S.length)).take k) ∧ Below wo.heap.size wo wr) (fun _ vi _ => m - (intOf vi).toNat)
      case atStart => exact ⟨[], 0, rfl, by omega, Lib.hid ⟨OwnS.nil _ _, rfl⟩, HB0⟩
      case round =>
        obtain ⟨O, k, rfl, hk, hinv2, hbel2⟩ := hrel
        by_cases hlt : k < m
        · obtain ⟨x, hx⟩ : ∃ x, x = (m - 1 - k + t) % m := ⟨_, rfl⟩
          have hxm : x < m := by rw [hx]; exact Nat.mod_lt _ (by omega)
          have hrem : Int.tmod ((m : Int) - 1 - (k : Int) + (t : Int)) (m : Int) = (x : Int) := by
            rw [show ((m : Int) - 1 - (k : Int) + (t : Int)) = ((m - 1 - k + t : Nat) : Int) by omega, hx]
            exact (Int.ofNat_tmod _ _).symm
          obtain ⟨s, hs⟩ : ∃ s, S[x]? = some s := ⟨_, List.getElem?_eq_getElem (by rw [← HM.out]; exact hxm)⟩
          obtain ⟨b, o, rfl, hcell⟩ : ∃ b o, aS = some ⟨b, o, none⟩ ∧ wr.cell? ⟨b, o + x, none⟩ = some (.string s) := by
            obtain ⟨ad', cap', e, hc, hh⟩ := HRD.out
            simp only [Value.slice.injEq] at e
            obtain ⟨rfl, -, rfl⟩ := e
            obtain ⟨b, o, e2, hlt2, hh2⟩ := hh (fun e => by rw [e] at hs; simp at hs)
            exact ⟨b, o, e2, (hbel2.cell (p := ⟨b, o + x, none⟩) hlt2).trans (hh2 x s hs)⟩
          have HX := Lib.hid (show (turned S (t % S.length))[k]? = some s by rw [turned_at S t k (by rw [← HM.out]; exact hlt), ← HM.out, ← hx, hs])
          have hOl : O.length ≤ 100000 := by
            rw [hinv2.out.2, List.length_take]; omega
          have al := alb wr (.cells #[.string s] 9)
          have HO := Lib.hid (hinv2.out.1.below al)
          have HOL := Lib.hid hOl
          have HC := Lib.hid (strs_new wr [s] #[.string s] 9 rfl)
          have HB2 := onto hbel2 al
          clear al hOl hs hx
          go_wp2_with (at_builtin; refine wpList_pushS _ rfl _ _ rfl wo.heap.size _ O rfl HO.out ⟨wr.heap.size, 0, none⟩ 1 1 [s] rfl rfl (by decide) HC.out HOL.out (by decide) HB2.size ?_)
          intro g cap' w4 hown hgrow hat hup
          have HB4 := hup _ wo (Nat.le_refl _) HB2 (by simpa using HB2.size)
          clear hcell hrem hup hat hgrow HC HO
          go_wp2
          refine ⟨⟨O ++ [s], k + 1, rfl, by omega, Lib.hid ⟨hown, ?_⟩, HB4⟩, ?_⟩
          · rw [List.take_add_one, HX.out, hinv2.out.2]
            rfl
          · simp [intOf]; omega
        · obtain rfl : k = m := by omega
          have hOt : O = turned S (t % S.length) := by
            rw [hinv2.out.2, List.take_of_length_le (by rw [turned_length, ← HM.out]; exact Nat.le_refl _)]
          obtain ⟨u, g, hug, hcall⟩ := sum_same (sumW S)
          have hso : sumW O = sumW S := by rw [hOt]; exact sumW_perm (turned_perm _ _)
          have hgo : ∀ s ∈ O, Good (by0 s) ∧ Size (worth (by0 s)) 41 41 := fun s hs => hinv.out.2.2.2.2.2.1 s ((turned_perm S (t % S.length)).mem_iff.1 (hOt ▸ hs))
          have hro := hinv2.out.1.rd
          have hrk := (hinv.out.2.1.below hbel2).rd
          have hmo : O.length = k := by rw [hOt, turned_length, ← HM.out]
          have hm2 := hinv.out.2.2.2.2.1
          have hgs := hinv.out.2.2.2.2.2.1
          have hgk := hinv.out.2.2.2.2.2.2.1
          have hk0 := hinv.out.2.2.2.2.2.2.2.1
          have hall := hinv.out.2.2.2.2.2.2.2.2
          obtain ⟨aO, cO, rfl, -, -⟩ := id hro
          obtain ⟨aK, cK, rfl, -, -⟩ := id hrk
          obtain ⟨l, hl⟩ : ∃ l, l = K.length := ⟨_, rfl⟩
          rw [← hl] at hrk hm2
          rw [hmo] at hro
          rw [hmo, ← hl]
          have HS1 := Lib.hid (hcall wr aS k cS S (HRD.out.below hbel2) (by omega) hgs rfl)
          have HS2 := Lib.hid (fun w' (hb : Below wr.heap.size wr w') => hcall w' aO k cO O (hro.below hb) (by omega) hgo hso)
          have HS3 := Lib.hid (fun w' (hb : Below wr.heap.size wr w') => sum_nought (hrk.below hb) (by omega) hgk hk0)
          have HUG := Lib.hid hug
          have HALL := Lib.hid hall
          have HB := hbel.trans (hbel2.mono hbel.size)
          clear hug hcall hso hgo hro hrk hmo hm2 hgs hgk hk0 hall hinv hinv2 hl hOt hmi HRD
          go_wp2_with fail
          refine HS1.out.mono ?_
          rintro e w2 ⟨rfl, hb⟩
          have HC := hb
          clear hb
          go_wp2_with fail
          refine (HS2.out _ HC).mono ?_
          rintro e w3 ⟨rfl, hb⟩
          replace HC := onto HC hb
          clear hb
          go_wp2_with fail
          refine (HS3.out _ HC).mono ?_
          rintro e w4 ⟨rfl, hb⟩
          replace HC := onto HC hb
          clear hb
          go_wp2_with fail
          refine (sum_wrong w4 _).mono ?_
          rintro e w5 ⟨rfl, hb⟩
          replace HB := onto HB (onto HC hb)
          clear hb HC
          rcases HUG.out with ⟨rfl, hu, hgu⟩ | ⟨rfl, rfl⟩
          · have HGU := Lib.hid hgu
            have HAU := Lib.hid (show all = u ∨ all = ⟨#[]⟩ from HALL.out.imp (fun k => k.1.trans hu.symm) id)
            clear HS1 HS2 HS3 HUG hgu hu
            have hss : (u.toList == u.toList) = true := by simp
            have hne : (u.toList == []) = false := by
              cases hx : (u.toList == []) with
              | false => rfl
              | true =>
                exfalso
                have e0 : u.toList = [] := by simpa using hx
                rw [toList_by0] at e0
                have := HGU.out.formed
                rw [e0] at this
                exact absurd this (by decide)
            have HRI := Lib.hid (fun w' => right_to u w' HGU.out.short (decide_eq_true HGU.out))
            clear HALL
            go_wp2_with fail
            refine (HRI.out _).mono ?_
            rintro e w6 ⟨rfl, hb⟩
            replace HB := onto HB hb
            clear hb
            rcases HAU.out with rfl | rfl
            · clear HAU
              go_wp2
              go_ret
              exact ⟨rfl, HB⟩
            · clear HAU
              go_wp2
              go_ret
              exact ⟨rfl, HB⟩
          · clear HS1 HS2 HS3 HUG HALL
            go_wp2
            go_ret
            exact ⟨rfl, HB⟩

theorem rsum_law {w : World} {ad : Option Addr} {n cap : Nat} {L : List ByteArray} (h : RdS w (.slice ad n cap) L) (t : Nat) (ht : t < 256) : Calls Tryz.prog 4 #[.slice ad n cap, .int .u8 t] w (Samed w true) := by
  by_cases hn : 40 < n
  · exact rsum_great ad n cap t hn
  · exact rsum_small h t ht (by omega)

end Go.Proofs.YtepacminjfeliaaGreatDoor
