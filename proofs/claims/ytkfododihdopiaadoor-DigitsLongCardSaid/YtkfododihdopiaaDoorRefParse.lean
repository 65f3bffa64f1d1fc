/-
  The document's Parse. The text has 1000000 bytes at most.
-/
import Derived.Test.YtkfododihdopiaaDoorParse
import Derived.Test.YtkfododihdopiaaDoorRefMul
import Derived.Deep.RegionWith
namespace Go.Proofs.YtkfododihdopiaaDoor
open Go.RowKit

theorem bel_alloc {w W : World} (h : Below w.heap.size w W) (o : Obj) : Below w.heap.size w (W.alloc o) := h.alloc h.size o

theorem bel_drew {B : Nat} {w W : World} (h : Below B w W) : Below B w W.drew := h.drew

theorem one_under (w : World) (v : Value) (t : TypeId) (o : Obj) : ((w.alloc (.cells #[v] t)).alloc o).cell? ⟨w.heap.size, 0, none⟩ = some v := by
  rw [((Below.refl (w.heap.size + 1) (w.alloc (.cells #[v] t))).alloc (by simp) o).cell (by simp)]
  exact one_cell w v t

theorem one_over (w : World) (v : Value) (t : TypeId) (o : Obj) : ((w.alloc o).alloc (.cells #[v] t)).cell? ⟨w.heap.size + 1, 0, none⟩ = some v := by
  have h := one_cell (w.alloc o) v t
  rwa [World.size_alloc] at h

theorem val_ten : val [(10 : Int).toNat] = 10 := by decide

theorem wrap_u8 (x : Int) (h0 : 0 ≤ x) (h1 : x < 256) : IntKind.u8.wrap x = x := by
  simp [IntKind.wrap, IntKind.signed, IntKind.bits]; omega

theorem wrap_u32 (x : Int) (h0 : 0 ≤ x) (h1 : x < 4294967296) : IntKind.u32.wrap x = x := by
  simp [IntKind.wrap, IntKind.signed, IntKind.bits]; omega

/-- A literal of one number, wherever it lies. -/
theorem rd_one {w : World} {b : Nat} {y : Int} (hc : w.cell? ⟨b, 0, none⟩ = some (.int .u32 y)) (h0 : 0 ≤ y) (h1 : y < 4294967296) (hb : b < w.heap.size) : Rd w (.slice (some ⟨b, 0, none⟩) 1 1) [y.toNat] := by
  refine ⟨some ⟨b, 0, none⟩, 1, 1, rfl, rfl, Nat.le_refl _, fun z hz => by simp at hz; omega, fun _ => ⟨b, 0, rfl, hb, fun i z hz => ?_⟩⟩
  match i, hz with
  | 0, hz =>
    have : z = y.toNat := by simpa using hz.symm
    subst this
    rw [hc, Int.toNat_of_nonneg h0]
  | i + 1, hz => simp at hz

set_option maxRecDepth 100000 in
set_option maxHeartbeats 4000000 in
theorem rparse_any (s : ByteArray) (w : World) (hs : s.size ≤ 1000000) : Calls Tryd.prog 12 #[.string s] w (Parsed w (by0 s)) := by
  have hlen := by0_len s
  by_cases hD : Dec (by0 s)
  · have hr := rright_any s w hs
    rw [decide_eq_true hD] at hr
    have HR := Lib.hid hr; clear hr
    by_cases h19 : 1900 < s.size
    · go_enter Tryd.func12, Tryd.ntmps12
      go_wp2_with fail
      refine HR.out.mono ?_
      rintro e w1 ⟨rfl, hb⟩
      go_wp2
      go_ret2
      exact ⟨hb, .inr (.inl ⟨hD, by omega, rfl⟩)⟩
    · go_enter Tryd.func12, Tryd.ntmps12
      go_wp2_with fail
      refine HR.out.mono ?_
      rintro e w1 ⟨rfl, hb⟩
      clear HR
      go_wp2
      go_loopw [4, 5] (fun v i wr => ∃ (pos : Nat) (ad : Option Addr) (n cap : Nat) (l : List Nat), v = .slice ad n cap ∧ i = .int .i64 pos ∧ pos ≤ s.size ∧ Rd wr (.slice ad n cap) l ∧ l.length ≤ 202 ∧ val l = num ((by0 s).take pos) ∧ Below w1.heap.size w1 wr) (fun _ i _ => s.size - (intOf i).toNat)
      case atStart => exact ⟨0, none, 0, 0, [], rfl, rfl, by omega, Rd.nil _, by simp, rfl, Below.refl _ _⟩
      case round =>
        obtain ⟨pos, ad, n, cap, l, rfl, rfl, hle, hrd, hll, hval, hbel⟩ := hrel
        by_cases hp : pos < s.size
        · have hb := by0_at s pos hp
          have hdig := hD.1 _ (List.mem_of_getElem? hb)
          have hnum := num_take hb
          obtain ⟨x, hx⟩ : ∃ x, x = (s[pos]'hp).toNat := ⟨_, rfl⟩
          have hdg : dg (s[pos]'hp) = x - 48 := by rw [hx]; rfl
          rw [← hx] at hdig
          rw [hdg] at hnum
          have HN := Lib.hid hnum; clear hnum hdg hb
          have HL := Lib.hid hll
          have HV := Lib.hid hval; clear hval
          go_wp2
          have hd2 : Hid (Digs ((by0 s).take (pos + 1))) := Lib.hid fun b hb => hD.1 b (List.mem_of_mem_take hb)
          have hl2 : ((by0 s).take (pos + 1)).length ≤ 1900 := by rw [List.length_take]; omega
          have hz : (48 : Int) ≤ x ∧ (x : Int) ≤ 57 := by omega
          obtain ⟨d, hd⟩ : ∃ d, d = x - 48 := ⟨_, rfl⟩
          have eW : IntKind.u32.wrap (IntKind.u8.wrap (((s[pos]'hp).toNat : Int) - 48)) = (d : Int) := by rw [← hx, hd, wrap_u8 _ (by omega) (by omega), wrap_u32 _ (by omega) (by omega)]; omega
          have d9 : d ≤ 9 := by omega
          rw [← hd] at HN
          clear hdig hx hd
          go_region_with (first
            | (go_at_call 21
               refine (rmul_any (a := l) (b := [(10 : Int).toNat]) ?_ ?_ ?_ ?_).mono ?_
               · first | exact hrd.below (bel_drew (bel_alloc (Below.refl _ _) _)) | exact hrd.below (bel_drew (bel_alloc (bel_alloc (Below.refl _ _) _) _))
               · refine rd_one ?_ (by decide) (by decide) ?_ <;> first | exact one_cell _ _ _ | exact one_under _ _ _ _ | exact one_over _ _ _ _ | (simp; done) | (simp; omega)
               · have := HL.out; omega
               · simp
               rintro e w3 ⟨ad3, n3, cap3, l3, rfl, -, r3, k3, v3, hb3⟩
               have q3 : l3.length ≤ 200 := few_limbs hd2.out hl2 k3 (by rw [v3, HN.out, HV.out, val_ten]; omega)
               have HB3 := Lib.hid hb3
               have HV3 := Lib.hid v3
               have HW3 : Hid (Below w1.heap.size w1 w3) := by
                 first
                   | exact onto (onto hbel (bel_drew (bel_alloc (Below.refl _ _) _))) hb3
                   | exact onto (onto hbel (bel_drew (bel_alloc (bel_alloc (Below.refl _ _) _) _))) hb3
               clear v3 hb3)
            | (go_at_call 20
               refine (radd_any (a := l3) (b := [(d : Int).toNat]) ?_ ?_ ?_ ?_).mono ?_
               · first | exact r3 | exact r3.below (alb _ _)
               · first
                   | (refine rd_one ?_ ?_ ?_ ?_ <;> first | exact one_cell _ _ _ | exact one_under _ _ _ _ | exact one_over _ _ _ _ | (simp; done) | omega | (simp; omega))
                   | (refine (rd_one ?_ ?_ ?_ ?_).below HB3.out <;> first | exact one_cell _ _ _ | exact one_under _ _ _ _ | exact one_over _ _ _ _ | (simp; done) | omega | (simp; omega))
               · omega
               · simp
               rintro e w5 ⟨ad5, n5, cap5, l5, rfl, -, r5, k5, v5, hb5⟩
               have HV5 := Lib.hid v5
               have HW5 : Hid (Below w1.heap.size w1 w5) := by first | exact onto HW3.out hb5 | exact onto HW3.out (past hb5)
               clear v5 hb5))
          all_goals
            have hv5 : val l5 = num ((by0 s).take (pos + 1)) := by
              rw [HV5.out, HV3.out, HN.out, HV.out, val_ten, val1, Int.toNat_natCast]; omega
            have q5 : l5.length ≤ 202 := by have := few_limbs hd2.out hl2 k5 (by rw [hv5]; exact Nat.le_refl _); omega
            have HVV := Lib.hid hv5
            clear hv5
            go_wp2
            go_roundw
            case rel => exact ⟨pos + 1, ad5, n5, cap5, l5, rfl, by go_num, by omega, r5, q5, HVV.out, HW5.out⟩
            case measure => simp [intOf]; omega
        · obtain rfl : pos = s.size := by omega
          rw [List.take_of_length_le (by rw [by0_len]; exact Nat.le_refl _)] at hval
          have HV := Lib.hid hval
          clear hval
          go_wp2_with fail
          refine (rnorm_any hrd (by omega)).mono ?_
          rintro e w3 ⟨ad3, n3, cap3, l3, rfl, -, r3, k3, v3, hb3⟩
          have HV3 := Lib.hid (v3.trans HV.out)
          clear v3
          go_wp2
          go_ret2
          exact ⟨onto hb (onto hbel hb3), .inr (.inr ⟨hD, by omega, ad3, n3, cap3, l3, rfl, r3, k3, HV3.out⟩)⟩
  · have hr := rright_any s w hs
    rw [decide_eq_false hD] at hr
    go_enter Tryd.func12, Tryd.ntmps12
    go_wp2_with fail
    refine hr.mono ?_
    rintro e w1 ⟨rfl, hb⟩
    go_wp2
    go_ret2
    exact ⟨hb, .inl ⟨hD, rfl⟩⟩

end Go.Proofs.YtkfododihdopiaaDoor
