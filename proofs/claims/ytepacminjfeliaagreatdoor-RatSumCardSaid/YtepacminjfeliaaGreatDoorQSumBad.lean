/-
  rat's Sum of a row of texts of which one is no number's text.
-/
import Derived.Test.YtepacminjfeliaaGreatDoorQSum
namespace Go.Proofs.YtepacminjfeliaaGreatDoor
open Go.RowKit

set_option maxRecDepth 100000 in
set_option maxHeartbeats 8000000 in
theorem sum_bad {w : World} {ad : Option Addr} {n cap : Nat} {S : List ByteArray} (h : RdS w (.slice ad n cap) S) (hn : n ≤ 90) {z : Nat} {sz : ByteArray} (hsz : S[z]? = some sz) (hbad : ¬ Good (by0 sz)) (hszl : sz.size ≤ 1000000) (hg : ∀ (i : Nat) (s : ByteArray), i < z → S[i]? = some s → Good (by0 s) ∧ Size (worth (by0 s)) 41 41) :
    Calls Tryz.prog 24 #[.slice ad n cap] w fun e w' => e = .returned (.tuple #[.string ⟨#[]⟩, .int .i64 1]) ∧ Below w.heap.size w w' := by
  have hSn : S.length = n := by
    obtain ⟨_, _, e, _⟩ := id h
    simp only [Value.slice.injEq] at e
    exact e.2.1.symm
  have HR := Lib.hid h; clear h
  have HG := Lib.hid hg; clear hg
  have hzn : z < n := by rw [← hSn]; exact (List.getElem?_eq_some_iff.1 hsz).1
  have HSN := Lib.hid hSn; clear hSn
  have HSZ := Lib.hid hsz; clear hsz
  have HBAD := Lib.hid hbad; clear hbad
  have HSZL := Lib.hid hszl; clear hszl
  have HA := Lib.hid (made_arr w n)
  have hb0 := Lib.hid (alb w (.cells (madeCells #[.bool false, .slice none 0 0, .slice none 0 0] (n * 3)) 40))
  go_enter Tryz.func24, Tryz.ntmps24
  go_wp2_with (at_make; refine wpList_makeN _ rfl _ _ rfl _ _ n rfl rfl (by omega) ?_)
  go_wp2
  go_loopw [4, 14] (fun a j wr => ∃ (k : Nat) (L : List N3) (C : List Value), a = .slice (some ⟨w.heap.size, 0, none⟩) k n ∧ j = .int .i64 k ∧ k ≤ z ∧ Hid (L.length = k ∧ ArrX wr w.heap.size n C ∧ Heads C L ∧ (∀ x ∈ L, OkN 41 wr x) ∧ L.map (·.q) = (S.take k).map (fun s => worth (by0 s))) ∧ Below w.heap.size w wr) (fun _ j _ => n - (intOf j).toNat)
  case atStart => exact ⟨0, [], _, rfl, rfl, by omega, Lib.hid ⟨rfl, HA.out, rfl, fun x hx => by simp at hx, by simp⟩, hb0.out⟩
  case round =>
    obtain ⟨k, L, C, rfl, rfl, hk, hinv, hbel⟩ := hrel
    have hlt : k < n := by omega
    by_cases hkz : k < z
    · obtain ⟨s, hs⟩ : ∃ s, S[k]? = some s := ⟨_, List.getElem?_eq_getElem (by rw [HSN.out]; exact hlt)⟩
      obtain ⟨hgs, hzs⟩ := HG.out k s hkz hs
      obtain ⟨b, o, rfl, hcell⟩ : ∃ b o, ad = some ⟨b, o, none⟩ ∧ wr.cell? ⟨b, o + k, none⟩ = some (.string s) := by
        obtain ⟨ad', cap', e, hc, hh⟩ := HR.out
        simp only [Value.slice.injEq] at e
        obtain ⟨rfl, -, rfl⟩ := e
        obtain ⟨b, o, e2, hlt2, hh2⟩ := hh (fun e => by rw [e] at hs; simp at hs)
        exact ⟨b, o, e2, (hbel.cell (p := ⟨b, o + k, none⟩) hlt2).trans (hh2 k s hs)⟩
      have hr := Lib.hid (read_any s wr (by have := hgs.1; rw [by0_len] at this; omega))
      have HS := Lib.hid hs
      have HGS := Lib.hid (And.intro hgs hzs)
      clear hs hgs hzs
      go_wp2_with fail
      refine hr.out.mono ?_
      rintro e w1 (⟨hno, -⟩ | ⟨-, m, adp, np, cp, adq, nq, cq, rfl, iN, yN, hb⟩)
      · exact absurd HGS.out.1 hno
      · obtain ⟨y, hy⟩ : ∃ y : N3, y = ⟨m, adp, np, cp, adq, nq, cq, worth (by0 s)⟩ := ⟨_, rfl⟩
        have h1 := alb w1 (.cells #[.bool m, .slice adp np cp, .slice adq nq cq] 40)
        have h2 := alb (w1.alloc (.cells #[.bool m, .slice adp np cp, .slice adq nq cq] 40)) (.cells #[.bool m, .slice adp np cp, .slice adq nq cq] 40)
        have hal := onto h1 h2
        have hA2 := ((hinv.out.2.1.below hb).below hal)
        have hnews := news_at (w1.alloc (.cells #[.bool m, .slice adp np cp, .slice adq nq cq] 40)) ⟨m, adp, np, cp, adq, nq, cq, worth (by0 s)⟩ 40
        rw [alloc_size] at hnews
        have HB2 := Lib.hid (onto (onto hbel hb) hal)
        have iY := Lib.hid (iN.below hal)
        have YN := Lib.hid yN
        have HAL := Lib.hid (onto hb hal)
        have HA2 := Lib.hid hA2
        have HNW := Lib.hid hnews
        clear iN yN h1 h2 hal hA2 hnews hy
        go_wp2_with (at_builtin; refine wpList_appendN _ rfl _ _ rfl rfl HA2.out hlt ⟨m, adp, np, cp, adq, nq, cq, worth (by0 s)⟩ ⟨w1.heap.size + 1, 0, none⟩ _ rfl HNW.out ?_)
        have hLk := hinv.out.1
        have hoff : ∀ (b o : Nat), b < ((w1.alloc (.cells #[.bool m, .slice adp np cp, .slice adq nq cq] 40)).alloc (.cells #[.bool m, .slice adp np cp, .slice adq nq cq] 40)).heap.size → b ≠ w.heap.size → (((w1.alloc (.cells #[.bool m, .slice adp np cp, .slice adq nq cq] 40)).alloc (.cells #[.bool m, .slice adp np cp, .slice adq nq cq] 40)).setRow w.heap.size (putN C k ⟨m, adp, np, cp, adq, nq, cq, worth (by0 s)⟩).toArray).cell? ⟨b, o, none⟩ = ((w1.alloc (.cells #[.bool m, .slice adp np cp, .slice adq nq cq] 40)).alloc (.cells #[.bool m, .slice adp np cp, .slice adq nq cq] 40)).cell? ⟨b, o, none⟩ := fun b o _ hne => cell_setRow_other _ _ _ _ hne
        refine ⟨⟨k + 1, L ++ [⟨m, adp, np, cp, adq, nq, cq, worth (by0 s)⟩], putN C k ⟨m, adp, np, cp, adq, nq, cq, worth (by0 s)⟩, rfl, rfl, by omega, Lib.hid ⟨by rw [List.length_append, hLk]; rfl, HA2.out.put hlt _, ?_, fun x hx => ?_, ?_⟩, setRow_below HB2.out (Nat.le_refl _) _⟩, ?_⟩
        · have := hinv.out.2.2.1.put ⟨m, adp, np, cp, adq, nq, cq, worth (by0 s)⟩
          rwa [hLk] at this
        · rcases List.mem_append.1 hx with hx | hx
          · have ho := (hinv.out.2.2.2.1 x hx).below HAL.out
            exact ⟨ho.1.away HA2.out.noInt (setRow_size _ _ _) hoff, ho.2⟩
          · simp only [List.mem_cons, List.not_mem_nil, or_false] at hx
            subst hx
            exact ⟨iY.out.away HA2.out.noInt (setRow_size _ _ _) hoff, YN.out, HGS.out.2⟩
        · rw [List.map_append, hinv.out.2.2.2.2, List.take_add_one, HS.out, List.map_append]
          rfl
        · simp [intOf]; omega
    · obtain rfl : k = z := by omega
      obtain ⟨b, o, rfl, hcell⟩ : ∃ b o, ad = some ⟨b, o, none⟩ ∧ wr.cell? ⟨b, o + k, none⟩ = some (.string sz) := by
        obtain ⟨ad', cap', e, hc, hh⟩ := HR.out
        simp only [Value.slice.injEq] at e
        obtain ⟨rfl, -, rfl⟩ := e
        have hs := HSZ.out
        obtain ⟨b, o, e2, hlt2, hh2⟩ := hh (fun e => by rw [e] at hs; simp at hs)
        exact ⟨b, o, e2, (hbel.cell (p := ⟨b, o + k, none⟩) hlt2).trans (hh2 k sz hs)⟩
      have hr := Lib.hid (read_any sz wr HSZL.out)
      go_wp2_with fail
      refine hr.out.mono ?_
      rintro e w1 (⟨-, m, adp, np, cp, adq, nq, cq, rfl, hb⟩ | ⟨hyes, -⟩)
      · have HB := onto (onto hbel hb) (alb w1 (.cells #[.bool m, .slice adp np cp, .slice adq nq cq] 40))
        clear hb hcell
        go_wp2
        go_ret2
        exact ⟨rfl, HB⟩
      · exact absurd hyes HBAD.out

end Go.Proofs.YtepacminjfeliaaGreatDoor
