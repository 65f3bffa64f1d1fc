/-
  cmp.Compare of two numbers, nat.Cmp of two lists, and the document's Same: is it less, the same, greater; are two lists alike. Lists of at most a million limbs.
-/
import Derived.Test.YtpijjpjpedcbhaaOf
namespace Go.Proofs.Ytpijjpjpedcbhaa
open Go.RowKit

/-- -1, 0 or 1. -/
def tell (m n : Nat) : Int := if m < n then -1 else if n < m then 1 else 0

set_option maxHeartbeats 400000 in
theorem compare_int (m n : Nat) (w : World) (_hm : m ≤ 1000000) (hn : n ≤ 1000000) :
    Calls Try.prog 37 #[.int .i64 (m : Int), .int .i64 (n : Int)] w fun e w' => e = .returned (.int .i64 (tell m n)) ∧ w = w' := by
  rcases Nat.lt_trichotomy m n with h | h | h
  · have e : tell m n = -1 := by unfold tell; rw [if_pos h]
    rw [e]
    go_enter Try.func37, Try.ntmps37
    go_wp2
    go_ret
    exact ⟨rfl, rfl⟩
  · have e : tell m n = 0 := by unfold tell; rw [if_neg (by omega), if_neg (by omega)]
    rw [e]
    subst h
    go_enter Try.func37, Try.ntmps37
    go_wp2
    go_ret
    exact ⟨rfl, rfl⟩
  · have e : tell m n = 1 := by unfold tell; rw [if_neg (by omega), if_pos h]
    rw [e]
    go_enter Try.func37, Try.ntmps37
    go_wp2
    go_ret
    exact ⟨rfl, rfl⟩

set_option maxHeartbeats 400000 in
theorem compare_u32 (m n : Nat) (w : World) (_hm : m < 4294967296) (hn : n < 4294967296) :
    Calls Try.prog 38 #[.int .u32 (m : Int), .int .u32 (n : Int)] w fun e w' => e = .returned (.int .i64 (tell m n)) ∧ w' = w := by
  rcases Nat.lt_trichotomy m n with h | h | h
  · have e : tell m n = -1 := by unfold tell; rw [if_pos h]
    rw [e]
    go_enter Try.func38, Try.ntmps38
    go_wp2
    go_ret
    exact ⟨rfl, rfl⟩
  · have e : tell m n = 0 := by unfold tell; rw [if_neg (by omega), if_neg (by omega)]
    rw [e]
    subst h
    go_enter Try.func38, Try.ntmps38
    go_wp2
    go_ret
    exact ⟨rfl, rfl⟩
  · have e : tell m n = 1 := by unfold tell; rw [if_neg (by omega), if_pos h]
    rw [e]
    go_enter Try.func38, Try.ntmps38
    go_wp2
    go_ret
    exact ⟨rfl, rfl⟩

theorem compare_u32' (m n : Nat) (t : Int) (h : tell m n = t) (w : World) (hm : m < 4294967296) (hn : n < 4294967296) :
    Calls Try.prog 38 #[.int .u32 (m : Int), .int .u32 (n : Int)] w fun e w' => e = .returned (.int .i64 t) ∧ w' = w := h ▸ compare_u32 m n w hm hn

theorem Rd.drewN {w : World} {v : Value} {l : List Nat} (h : Rd w v l) (n : Nat) : Rd (w.drewN n) v l := h

theorem drewN_below (w : World) (n : Nat) : Below w.heap.size w (w.drewN n) := ⟨rfl, rfl, rfl, Nat.le_refl _, fun _ _ => rfl⟩

theorem drewN_add (w : World) (m n : Nat) : (w.drewN m).drewN n = w.drewN (m + n) := by simp [World.drewN, Nat.add_assoc]

theorem Rd.open {w : World} {ad : Option Addr} {n cap : Nat} {l : List Nat} (h : Rd w (.slice ad n cap) l) :
    n = l.length ∧ n ≤ cap ∧ Lim l ∧ (0 < n → ∃ b o, ad = some ⟨b, o, none⟩ ∧ b < w.heap.size ∧ ∀ i, i < n → w.cell? ⟨b, o + i, none⟩ = some (.int .u32 (at0 l i : Int))) := by
  obtain ⟨ad', n', cap', e, hn, hcap, hlim, hc⟩ := h
  simp only [Value.slice.injEq] at e
  obtain ⟨rfl, rfl, rfl⟩ := e
  refine ⟨hn, hcap, hlim, fun h0 => ?_⟩
  obtain ⟨b, o, e, hb, hc⟩ := hc h0
  refine ⟨b, o, e, hb, fun i hi => hc i _ ?_⟩
  unfold at0; rw [List.getD_eq_getElem?_getD, List.getElem?_eq_getElem (by omega)]; rfl

theorem draw_below {B : Nat} {a w : World} (h : Below B a w) (n : Nat) : Below B a (w.drewN n) := h.trans ⟨rfl, rfl, rfl, Nat.le_refl _, fun _ _ => rfl⟩

/-- What Cmp answers of numbers worth A and B. -/
def Told (w : World) (A B : Nat) (e : Ending) (w' : World) : Prop := e = .returned (.int .i64 (tell A B)) ∧ Below w.heap.size w w'

theorem can_less {a b : List Nat} (ha : Can a) (hb : Can b) (h : a.length < b.length) : val a < val b := by
  have h1 := val_lt a ha.1
  have h2 := hb.le (by omega)
  have h3 := pw_le (show a.length ≤ b.length - 1 by omega)
  omega

theorem tell_lt {m n : Nat} (h : m < n) : tell m n = -1 := by unfold tell; rw [if_pos h]
theorem tell_eq {m n : Nat} (h : m = n) : tell m n = 0 := by unfold tell; rw [if_neg (by omega), if_neg (by omega)]
theorem tell_gt {m n : Nat} (h : n < m) : tell m n = 1 := by unfold tell; rw [if_neg (by omega), if_pos h]

/-- The two rows agree from place i on. -/
def Agree (a b : List Nat) (i n : Int) : Prop := ∀ j : Nat, i < j → (j : Int) < n → at0 a j = at0 b j

theorem agree_less {a b : List Nat} (ha : Lim a) {k n : Nat} (h : Agree a b k n) (hk : k < n) (hna : a.length = n) (hnb : b.length = n) (hl : at0 a k < at0 b k) : val a < val b := by
  rw [← sm_all a (k := n) (by omega), ← sm_all b (k := n) (by omega)]
  exact sm_less (fun j => at0_lt ha j) hk (fun j h1 h2 => h j (by omega) (by omega)) hl

theorem agree_same {a b : List Nat} {n : Nat} (h : Agree a b (-1) n) (hna : a.length = n) (hnb : b.length = n) : a = b := by
  apply List.ext_getElem (by omega)
  intro i h1 h2
  have := h i (by omega) (by omega)
  unfold at0 at this
  simpa [h1, h2] using this

theorem agree_sym {a b : List Nat} {i n : Int} (h : Agree a b i n) : Agree b a i n := fun j h1 h2 => (h j h1 h2).symm

theorem agree_down {a b : List Nat} {k : Nat} {n : Int} (h : Agree a b k n) (e : at0 a k = at0 b k) : Agree a b ((k : Int) - 1) n := by
  intro j h1 h2
  by_cases hj : j = k
  · subst hj; exact e
  · exact h j (by omega) h2

set_option maxHeartbeats 1000000 in
theorem cmp_any {w : World} {va vb : Value} {a b : List Nat} (ha : Rd w va a) (hb : Rd w vb b) (la : a.length ≤ 10000) (lb : b.length ≤ 10000) :
    Calls Try.prog 16 #[va, vb] w (Told w (val a) (val b)) := by
  go_enter Try.func16, Try.ntmps16
  go_wp2_with fail
  refine (short_any ha (by omega)).mono ?_
  rintro e w1 ⟨⟨ada, na, ca, a', rfl, hra, hcana, hva⟩, rfl⟩
  go_wp2_with fail
  refine (short_any hb (by omega)).mono ?_
  rintro e w1 ⟨⟨adb, nb, cb, b', rfl, hrb, hcanb, hvb⟩, rfl⟩
  have la' : a'.length ≤ a.length := hcana.len (by rw [hva]; exact val_lt a ha.lim)
  have lb' : b'.length ≤ b.length := hcanb.len (by rw [hvb]; exact val_lt b hb.lim)
  obtain ⟨hna, hca, -, hcella⟩ := hra.open
  obtain ⟨hnb, hcb, -, hcellb⟩ := hrb.open
  have la2 : na ≤ 10000 := by omega
  have lb2 : nb ≤ 10000 := by omega
  clear la' lb' la lb
  have HVA := Lib.hid hva; clear hva
  have HVB := Lib.hid hvb; clear hvb
  have HNA := Lib.hid hna; clear hna
  have HNB := Lib.hid hnb; clear hnb
  have HCA := Lib.hid hcella; clear hcella
  have HCB := Lib.hid hcellb; clear hcellb
  go_wp2_with fail
  refine (compare_int na nb w (by omega) (by omega)).mono ?_
  rintro e w1 ⟨rfl, rfl⟩
  rcases Nat.lt_trichotomy na nb with h | h | h
  · rw [tell_lt h]
    go_wp2
    go_ret
    have e1 := HNA.out
    have e2 := HNB.out
    exact ⟨by rw [← HVA.out, ← HVB.out, tell_lt (can_less hcana hcanb (by omega))]; rfl, Below.refl _ _⟩
  · rw [tell_eq h]
    subst h
    go_wp2
    go_loopw [6] (fun s wr => ∃ i : Int, s = .int .i64 i ∧ -1 ≤ i ∧ i < na ∧ Agree a' b' i na ∧ Below w.heap.size w wr) (fun s _ => (intOf s + 1).toNat)
    case atStart => exact ⟨(na : Int) - 1, rfl, by omega, by omega, fun j h1 h2 => absurd h2 (by omega), Below.refl _ _⟩
    case round =>
      obtain ⟨i, rfl, hi1, hi2, hag, hbel⟩ := hrel
      by_cases h0 : 0 ≤ i
      · obtain ⟨k, rfl⟩ := Int.eq_ofNat_of_zero_le h0
        have hk : k < na := by omega
        obtain ⟨b1, o1, rfl, hb1, hc1⟩ := HCA.out (by omega)
        obtain ⟨b2, o2, rfl, hb2, hc2⟩ := HCB.out (by omega)
        have hd1 : wr.cell? ⟨b1, o1 + k, none⟩ = some (.int .u32 (at0 a' k : Int)) := (hbel.cell (p := ⟨b1, o1 + k, none⟩) hb1).trans (hc1 k hk)
        have hd2 : wr.cell? ⟨b2, o2 + k, none⟩ = some (.int .u32 (at0 b' k : Int)) := (hbel.cell (p := ⟨b2, o2 + k, none⟩) hb2).trans (hc2 k hk)
        clear hc1 hc2
        have l1 := at0_lt hcana.1 k
        have l2 := at0_lt hcanb.1 k
        obtain ⟨x, hx⟩ : ∃ x : Nat, x = at0 a' k := ⟨_, rfl⟩
        obtain ⟨y, hy⟩ : ∃ y : Nat, y = at0 b' k := ⟨_, rfl⟩
        rw [← hx] at hd1 l1
        rw [← hy] at hd2 l2
        have HX := Lib.hid hx; clear hx
        have HY := Lib.hid hy; clear hy
        have HAG := Lib.hid hag; clear hag
        have HNA2 := Lib.hid hk; clear hk
        rcases Nat.lt_trichotomy x y with h | h | h
        · have e1 := Lib.hid (tell_lt h)
          go_wp2_with fail
          go_quiet ((go_at_call 38; exact Calls.quiet_of_same (compare_u32' x y (-1) e1.out _ l1 l2)))
          go_wp2
          go_ret
          refine ⟨?_, draw_below hbel _⟩
          rw [← HVA.out, ← HVB.out, tell_lt (agree_less hcana.1 HAG.out HNA2.out HNA.out.symm HNB.out.symm (by rw [← HX.out, ← HY.out]; exact h))]
          rfl
        · have e1 := Lib.hid (tell_eq h)
          have HD := Lib.hid (agree_down HAG.out (by rw [← HX.out, ← HY.out]; exact h))
          have b1 : -1 ≤ (k : Int) - 1 := by omega
          have b2 : (k : Int) - 1 < na := by omega
          have HE := Lib.hid h
          clear h
          go_wp2_with fail
          go_quiet ((go_at_call 38; exact Calls.quiet_of_same (compare_u32' x y 0 e1.out _ l1 l2)))
          go_wp2
          go_roundw
          case rel => exact ⟨(k : Int) - 1, rfl, b1, b2, HD.out, draw_below hbel _⟩
          case measure => simp [intOf]
        · have e1 := Lib.hid (tell_gt h)
          go_wp2_with fail
          go_quiet ((go_at_call 38; exact Calls.quiet_of_same (compare_u32' x y 1 e1.out _ l1 l2)))
          go_wp2
          go_ret
          refine ⟨?_, draw_below hbel _⟩
          rw [← HVA.out, ← HVB.out, tell_gt (agree_less hcanb.1 (agree_sym HAG.out) HNA2.out HNB.out.symm HNA.out.symm (by rw [← HX.out, ← HY.out]; exact h))]
          rfl
      · have e1 : i = -1 := by omega
        subst e1
        have HAG := Lib.hid hag; clear hag
        go_wp2
        go_ret
        refine ⟨?_, hbel⟩
        rw [← HVA.out, ← HVB.out, tell_eq (congrArg val (agree_same HAG.out HNA.out.symm HNB.out.symm))]
        rfl
  · rw [tell_gt h]
    go_wp2
    go_ret
    have e1 := HNA.out
    have e2 := HNB.out
    exact ⟨by rw [← HVA.out, ← HVB.out, tell_gt (can_less hcanb hcana (by omega))]; rfl, Below.refl _ _⟩

end Go.Proofs.Ytpijjpjpedcbhaa
