/-
  A part of the proof: RefCut, RatSize, RatAns, QMath, QCut.
-/
import Derived.Test.YtepacminjfeliaaGreatDoorG5
import Derived.Lib.Bytealg
import Derived.Lib.IndexLaws
import Derived.Lib.Walk
/-
  The document's cut: a text's sign, what stands ahead of its first slash and behind it. The text has 1000000 bytes at most.
-/
namespace Go.Proofs.YtepacminjfeliaaGreatDoor
open Go.RowKit

/-- A text without its sign. -/
def bodyS (s : ByteArray) : ByteArray := if negB (by0 s) then s.extract 1 s.size else s

theorem bodyS_by0 (s : ByteArray) : by0 (bodyS s) = body (by0 s) := by
  unfold bodyS body
  split
  · rw [extract_one]; rw [List.drop_one]
  · rfl

def aheadS (s : ByteArray) : ByteArray := ⟨(ahead (by0 s)).toArray⟩
def behindS (s : ByteArray) : ByteArray := ⟨(behind (by0 s)).toArray⟩

theorem aheadS_by0 (s : ByteArray) : by0 (aheadS s) = ahead (by0 s) := by0_mk _
theorem behindS_by0 (s : ByteArray) : by0 (behindS s) = behind (by0 s) := by0_mk _

theorem slash_key (A D : List UInt8) (h : ∀ b ∈ A, (b != 47) = true) : (A ++ 47 :: D).takeWhile (· != 47) = A ∧ ((A ++ 47 :: D).dropWhile (· != 47)).tail = D ∧ (A ++ 47 :: D).any (· == 47) = true := by
  refine ⟨?_, ?_, ?_⟩
  · rw [takeWhile_app h, List.takeWhile_cons_of_neg (by decide), List.append_nil]
  · rw [List.dropWhile_append_of_pos h, List.dropWhile_cons_of_neg (by decide)]
    rfl
  · rw [List.any_append, List.any_cons]
    simp

theorem first_slash {l : List UInt8} {i : Nat} (h : ∀ b ∈ l.take i, (b != 47) = true) (hi : l[i]? = some 47) : l.takeWhile (· != 47) = l.take i ∧ (l.dropWhile (· != 47)).tail = l.drop (i + 1) ∧ l.any (· == 47) = true := by
  obtain ⟨hlt, he⟩ := List.getElem?_eq_some_iff.1 hi
  have e : l.take i ++ 47 :: l.drop (i + 1) = l := by
    rw [← he, ← List.drop_eq_getElem_cons hlt, List.take_append_drop]
  have k := slash_key (l.take i) (l.drop (i + 1)) h
  rw [e] at k
  exact k

theorem no_slash_at {l : List UInt8} (h : ∀ b ∈ l, (b != 47) = true) : l.takeWhile (· != 47) = l ∧ l.any (· == 47) = false := by
  refine ⟨?_, ?_⟩
  · have := takeWhile_app (m := []) h
    simpa using this
  · rw [List.any_eq_false]
    intro b hb
    have := h b hb
    simpa using this

theorem take_more {l : List UInt8} {i : Nat} {b : UInt8} (h : ∀ c ∈ l.take i, (c != 47) = true) (hb : l[i]? = some b) (hne : (b != 47) = true) : ∀ c ∈ l.take (i + 1), (c != 47) = true := by
  intro c hc
  rw [List.take_add_one, hb] at hc
  rcases List.mem_append.1 hc with h1 | h1
  · exact h c h1
  · simp at h1; subst h1; exact hne

theorem by0_ext (s : ByteArray) (i j : Nat) : by0 (s.extract i j) = ((by0 s).drop i).take (j - i) := Lib.extract_data s i j

theorem bytes_of {s : ByteArray} {l : List UInt8} (h : by0 s = l) : s = ⟨l.toArray⟩ := by rw [← h, mk_by0]

theorem results_tmp4 {fn : Func} {t u v x : Tmp} (h : fn.results = #[.tmp t, .tmp u, .tmp v, .tmp x]) (tmps : Array Value) (P : Program) (w : World) :
    (results fn tmps).run P w = .ok (.tuple #[tmps.getD t undef, tmps.getD u undef, tmps.getD v undef, tmps.getD x undef]) w := by
  simp [results, h]

/-- What cut answers. -/
def Cutted (s : ByteArray) : Value := .tuple #[.bool (negB (by0 s)), .string (aheadS s), .string (behindS s), .bool (slash (by0 s))]

theorem cutted_at {s T : ByteArray} {b : Bool} {i : Nat} (hb : negB (by0 s) = b) (hT : bodyS s = T) (h : ∀ c ∈ (by0 T).take i, (c != 47) = true) (hi : (by0 T)[i]? = some 47) :
    Value.tuple #[.bool b, .string (T.extract 0 i), .string (T.extract (i + 1) T.size), .bool true] = Cutted s := by
  obtain ⟨k1, k2, k3⟩ := first_slash h hi
  have hbo : body (by0 s) = by0 T := by rw [← hT, bodyS_by0]
  have e1 : T.extract 0 i = aheadS s := bytes_eq (by rw [aheadS_by0, by0_ext]; unfold ahead; rw [hbo, k1, List.drop_zero, Nat.sub_zero])
  have e3 : slash (by0 s) = true := by unfold slash; rw [hbo, k3]
  have e2 : T.extract (i + 1) T.size = behindS s := bytes_eq (by
    rw [behindS_by0, by0_ext]
    unfold behind
    rw [e3, hbo, if_pos rfl, k2, List.take_of_length_le (by rw [List.length_drop, by0_len]; omega)])
  unfold Cutted
  rw [hb, e1, e2, e3]

theorem cutted_end {s T : ByteArray} {b : Bool} (hb : negB (by0 s) = b) (hT : bodyS s = T) (h : ∀ c ∈ by0 T, (c != 47) = true) :
    Value.tuple #[.bool b, .string T, .string ⟨#[49]⟩, .bool false] = Cutted s := by
  obtain ⟨k1, k2⟩ := no_slash_at h
  have hbo : body (by0 s) = by0 T := by rw [← hT, bodyS_by0]
  have e1 : T = aheadS s := bytes_eq (by rw [aheadS_by0]; unfold ahead; rw [hbo, k1])
  have e3 : slash (by0 s) = false := by unfold slash; rw [hbo, k2]
  have e2 : (⟨#[49]⟩ : ByteArray) = behindS s := bytes_eq (by rw [behindS_by0]; unfold behind; rw [e3]; rfl)
  unfold Cutted
  rw [hb, ← e1, e2, e3]

set_option maxRecDepth 100000 in
set_option maxHeartbeats 4000000 in
theorem cut_any (s : ByteArray) (w : World) (hs : s.size ≤ 1000000) : Calls Tryz.prog 29 #[.string s] w fun e w' => e = .returned (Cutted s) ∧ Below w.heap.size w w' := by
  have hcase : (s.size = 0 ∧ negB (by0 s) = false ∧ bodyS s = s) ∨ (∃ h : 0 < s.size, (s[0]'h).toNat ≠ 45 ∧ negB (by0 s) = false ∧ bodyS s = s) ∨ (∃ h : 0 < s.size, (s[0]'h).toNat = 45 ∧ negB (by0 s) = true ∧ bodyS s = s.extract 1 s.size) := by
    by_cases h0 : s.size = 0
    · have hn : by0 s = [] := List.eq_nil_of_length_eq_zero (by rw [by0_len]; exact h0)
      have hb : negB (by0 s) = false := by rw [hn]; rfl
      exact .inl ⟨h0, hb, by unfold bodyS; rw [hb]; rfl⟩
    · have hp : 0 < s.size := by omega
      have h1 := by0_at s 0 hp
      have hh : (by0 s).head? = some (s[0]'hp) := by rw [← h1, List.head?_eq_getElem?]
      by_cases h45 : (s[0]'hp).toNat = 45
      · have hb : negB (by0 s) = true := by unfold negB; rw [hh, show s[0]'hp = 45 from UInt8.toNat_inj.1 h45]; rfl
        exact .inr (.inr ⟨hp, h45, hb, by unfold bodyS; rw [hb]; rfl⟩)
      · have hb : negB (by0 s) = false := by
          unfold negB; rw [hh]
          simp only [beq_eq_false_iff_ne, ne_eq, Option.some.injEq]
          intro e
          exact h45 (by rw [e]; rfl)
        exact .inr (.inl ⟨hp, h45, hb, by unfold bodyS; rw [hb]; rfl⟩)
  obtain ⟨T, hT⟩ : ∃ T, bodyS s = T := ⟨_, rfl⟩
  have hTs : T.size ≤ 1000000 := by
    rcases hcase with ⟨_, _, h⟩ | ⟨_, _, _, h⟩ | ⟨_, _, _, h⟩ <;> rw [← hT, h]
    · exact hs
    · exact hs
    · simp; omega
  have HTT := Lib.hid hT
  rcases hcase with ⟨h0, hb, hx⟩ | ⟨h0, h45, hb, hx⟩ | ⟨h0, h45, hb, hx⟩
  all_goals
    have HBB := Lib.hid hb
    clear hb
  · have HTT2 := HTT.out
    rw [← HTT2, hx] at hTs
    clear HTT HTT2 hT
    have HTT := Lib.hid hx
    clear hx
    go_enter Tryz.func29, Tryz.ntmps29
    go_wp2
    go_loopw [7] (fun i wr => ∃ k : Nat, i = .int .i64 k ∧ wr = w ∧ k ≤ s.size ∧ ∀ c ∈ (by0 s).take k, (c != 47) = true) (fun i _ => s.size - (intOf i).toNat)
    case atStart => exact ⟨0, rfl, rfl, by omega, by simp⟩
    case round =>
      obtain ⟨k, rfl, rfl, hk, hno⟩ := hrel
      by_cases hlt : k < s.size
      · omega
      · obtain rfl : k = s.size := by omega
        rw [List.take_of_length_le (by rw [by0_len]; exact Nat.le_refl _)] at hno
        have HR := Lib.hid (cutted_end HBB.out HTT.out hno)
        clear hno
        go_wp2
        try simp only [Exit.inBlock, Exit.then]
        refine bodyPost_ret (results_tmp4 rfl _ _ _) rfl ?_
        exact ⟨by rw [← HR.out]; rfl, by first | exact Below.refl _ _ | exact drewN_below _ _⟩
  · have HTT2 := HTT.out
    rw [← HTT2, hx] at hTs
    clear HTT HTT2 hT
    have HTT := Lib.hid hx
    clear hx
    have z1 : (((s[0]'h0).toNat : Int) == 45) = false := by simp; omega
    go_enter Tryz.func29, Tryz.ntmps29
    go_wp2
    go_loopw [7] (fun i wr => ∃ k : Nat, i = .int .i64 k ∧ wr = w ∧ k ≤ s.size ∧ ∀ c ∈ (by0 s).take k, (c != 47) = true) (fun i _ => s.size - (intOf i).toNat)
    case atStart => exact ⟨0, rfl, rfl, by omega, by simp⟩
    case round =>
      obtain ⟨k, rfl, rfl, hk, hno⟩ := hrel
      by_cases hlt : k < s.size
      · have hbk := by0_at s k hlt
        by_cases h47 : (s[k]'hlt).toNat = 47
        · have e47 : (by0 s)[k]? = some 47 := by rw [hbk, show s[k]'hlt = 47 from UInt8.toNat_inj.1 h47]
          have HR := Lib.hid (cutted_at HBB.out HTT.out hno e47)
          have z4 : (((s[k]'hlt).toNat : Int) == 47) = true := by rw [h47]; rfl
          clear hno hbk e47
          go_wp2
          go_quiet (fail)
          go_wp2
          try simp only [Exit.inBlock, Exit.then]
          refine bodyPost_ret (results_tmp4 rfl _ _ _) rfl ?_
          exact ⟨by rw [← HR.out]; rfl, by first | exact Below.refl _ _ | exact drewN_below _ _⟩
        · have hmore := take_more hno hbk (by simp only [bne_iff_ne, ne_eq]; intro e; exact h47 (by rw [e]; rfl))
          have HM := Lib.hid hmore
          have z4 : (((s[k]'hlt).toNat : Int) == 47) = false := by simp; omega
          clear hno hbk hmore
          go_wp2
          go_roundw
          case rel => exact ⟨k + 1, by go_num, by first | trivial | rfl, by omega, HM.out⟩
          case measure => simp [intOf]; omega
      · obtain rfl : k = s.size := by omega
        rw [List.take_of_length_le (by rw [by0_len]; exact Nat.le_refl _)] at hno
        have HR := Lib.hid (cutted_end HBB.out HTT.out hno)
        clear hno
        go_wp2
        try simp only [Exit.inBlock, Exit.then]
        refine bodyPost_ret (results_tmp4 rfl _ _ _) rfl ?_
        exact ⟨by rw [← HR.out]; rfl, by first | exact Below.refl _ _ | exact drewN_below _ _⟩
  · have hx2 : s.extract 1 s.size = T := by rw [← hx, hT]
    have z1 : (((s[0]'h0).toNat : Int) == 45) = true := by rw [h45]; rfl
    clear hx hT
    go_enter Tryz.func29, Tryz.ntmps29
    go_wp2
    go_loopw [7] (fun i wr => ∃ k : Nat, i = .int .i64 k ∧ wr = w ∧ k ≤ T.size ∧ ∀ c ∈ (by0 T).take k, (c != 47) = true) (fun i _ => T.size - (intOf i).toNat)
    case atStart => exact ⟨0, rfl, rfl, by omega, by simp⟩
    case round =>
      obtain ⟨k, rfl, rfl, hk, hno⟩ := hrel
      by_cases hlt : k < T.size
      · have hbk := by0_at T k hlt
        by_cases h47 : (T[k]'hlt).toNat = 47
        · have e47 : (by0 T)[k]? = some 47 := by rw [hbk, show T[k]'hlt = 47 from UInt8.toNat_inj.1 h47]
          have HR := Lib.hid (cutted_at HBB.out HTT.out hno e47)
          have z4 : (((T[k]'hlt).toNat : Int) == 47) = true := by rw [h47]; rfl
          clear hno hbk e47
          go_wp2
          go_quiet (fail)
          go_wp2
          try simp only [Exit.inBlock, Exit.then]
          refine bodyPost_ret (results_tmp4 rfl _ _ _) rfl ?_
          exact ⟨by rw [← HR.out]; rfl, by first | exact Below.refl _ _ | exact drewN_below _ _⟩
        · have hmore := take_more hno hbk (by simp only [bne_iff_ne, ne_eq]; intro e; exact h47 (by rw [e]; rfl))
          have HM := Lib.hid hmore
          have z4 : (((T[k]'hlt).toNat : Int) == 47) = false := by simp; omega
          clear hno hbk hmore
          go_wp2
          go_roundw
          case rel => exact ⟨k + 1, by go_num, by first | trivial | rfl, by omega, HM.out⟩
          case measure => simp [intOf]; omega
      · obtain rfl : k = T.size := by omega
        rw [List.take_of_length_le (by rw [by0_len]; exact Nat.le_refl _)] at hno
        have HR := Lib.hid (cutted_end HBB.out HTT.out hno)
        clear hno
        go_wp2
        try simp only [Exit.inBlock, Exit.then]
        refine bodyPost_ret (results_tmp4 rfl _ _ _) rfl ?_
        exact ⟨by rw [← HR.out]; rfl, by first | exact Below.refl _ _ | exact drewN_below _ _⟩

end Go.Proofs.YtepacminjfeliaaGreatDoor

/-
  How long a text what comes of exact numbers has: bounds by the digits of both parts.
-/
namespace Go.Proofs.YtepacminjfeliaaGreatDoor
open Go.RowKit

/-- A number that is one of i digits at most over one of j digits at most. -/
def Size (q : Rat) (i j : Nat) : Prop := ∃ n P Q, q = qv n P Q ∧ Q ≠ 0 ∧ P < 10 ^ i ∧ Q < 10 ^ j

theorem dec_len {n k : Nat} (h : n < 10 ^ k) (h1 : 1 ≤ k) : (dec n).length ≤ k := (dec_dec n).len (by rw [dec_num]; exact h) h1

theorem Size.mono {q : Rat} {i j x y : Nat} (h : Size q i j) (hx : i ≤ x) (hy : j ≤ y) : Size q x y := by
  obtain ⟨n, P, Q, e, h0, hP, hQ⟩ := h
  exact ⟨n, P, Q, e, h0, Nat.lt_of_lt_of_le hP (ten_le hx), Nat.lt_of_lt_of_le hQ (ten_le hy)⟩

theorem Size.text {q : Rat} {i j : Nat} (h : Size q i j) (hi : 1 ≤ i) (hj : 1 ≤ j) : (rtxt q).length ≤ i + j + 2 := by
  obtain ⟨n, P, Q, rfl, h0, hP, hQ⟩ := h
  rw [qv_text n P h0]
  have h1 : (dec (P / Nat.gcd P Q)).length ≤ i := dec_len (Nat.lt_of_le_of_lt (Nat.div_le_self _ _) hP) hi
  have h2 : (dec (Q / Nat.gcd P Q)).length ≤ j := dec_len (Nat.lt_of_le_of_lt (Nat.div_le_self _ _) hQ) hj
  simp only [List.length_append]
  split <;> split <;> simp <;> omega

theorem times_lt {P R i k x : Nat} (hP : P < 10 ^ i) (hR : R < 10 ^ k) (hx : i + k ≤ x) : P * R < 10 ^ x := by
  refine Nat.lt_of_lt_of_le ?_ (ten_le hx)
  rw [Nat.pow_add]
  exact Nat.mul_lt_mul_of_lt_of_le hP (Nat.le_of_lt hR) (Nat.pow_pos (by decide))

theorem plus_lt {A B x : Nat} (hA : A < 10 ^ x) (hB : B < 10 ^ x) : A + B < 10 ^ (x + 1) := by
  rw [Nat.pow_succ]; omega

theorem Size.neg {q : Rat} {i j : Nat} (h : Size q i j) : Size (-q) i j := by
  obtain ⟨n, P, Q, rfl, h0, hP, hQ⟩ := h
  exact ⟨!n, P, Q, qv_neg n P Q, h0, hP, hQ⟩

theorem Size.mul {q r : Rat} {i j k l x y : Nat} (h : Size q i j) (g : Size r k l) (hx : i + k ≤ x) (hy : j + l ≤ y) : Size (q * r) x y := by
  obtain ⟨n, P, Q, rfl, h0, hP, hQ⟩ := h
  obtain ⟨m, R, S, rfl, g0, hR, hS⟩ := g
  exact ⟨n != m, P * R, Q * S, qv_mul n m P Q R S, Nat.mul_ne_zero h0 g0, times_lt hP hR hx, times_lt hQ hS hy⟩

theorem Size.add {q r : Rat} {i j k l x y : Nat} (h : Size q i j) (g : Size r k l) (hx : i + l + 1 ≤ x) (hx2 : k + j + 1 ≤ x) (hy : j + l ≤ y) : Size (q + r) x y := by
  obtain ⟨n, P, Q, rfl, h0, hP, hQ⟩ := h
  obtain ⟨m, R, S, rfl, g0, hR, hS⟩ := g
  obtain ⟨z, rfl⟩ : ∃ z, x = z + 1 := ⟨x - 1, by omega⟩
  have h1 : P * S < 10 ^ z := times_lt hP hS (by omega)
  have h2 : R * Q < 10 ^ z := times_lt hR hQ (by omega)
  have h3 := plus_lt h1 h2
  have h4 : Q * S < 10 ^ y := times_lt hQ hS hy
  have h5 : Q * S ≠ 0 := Nat.mul_ne_zero h0 g0
  rcases (by cases n <;> cases m <;> simp : m = n ∨ m = !n) with rfl | rfl
  · exact ⟨_, _, _, qv_add_same _ P R h0 g0, h5, h3, h4⟩
  · rcases Nat.le_total (R * Q) (P * S) with hle | hle
    · exact ⟨_, _, _, qv_add_more n h0 g0 hle, h5, Nat.lt_of_le_of_lt (Nat.le_trans (Nat.sub_le _ _) (Nat.le_add_right _ _)) h3, h4⟩
    · exact ⟨_, _, _, qv_add_less n h0 g0 hle, h5, Nat.lt_of_le_of_lt (Nat.le_trans (Nat.sub_le _ _) (Nat.le_add_left _ _)) h3, h4⟩

theorem Size.sub {q r : Rat} {i j k l x y : Nat} (h : Size q i j) (g : Size r k l) (hx : i + l + 1 ≤ x) (hx2 : k + j + 1 ≤ x) (hy : j + l ≤ y) : Size (q - r) x y := by
  rw [Rat.sub_eq_add_neg]; exact h.add g.neg hx hx2 hy

theorem Size.div {q r : Rat} {i j k l x y : Nat} (h : Size q i j) (g : Size r k l) (hr : r ≠ 0) (hx : i + l ≤ x) (hy : j + k ≤ y) : Size (q / r) x y := by
  obtain ⟨n, P, Q, rfl, h0, hP, hQ⟩ := h
  obtain ⟨m, R, S, rfl, g0, hR, hS⟩ := g
  have hR0 : R ≠ 0 := fun e => hr ((qv_zero m R g0).2 e)
  exact ⟨n != m, P * S, Q * R, qv_div n m P h0 hR0 g0, Nat.mul_ne_zero h0 hR0, times_lt hP hS hx, times_lt hQ hR hy⟩

theorem body_short (l : List UInt8) : (body l).length ≤ l.length := by
  unfold body
  split
  · rw [List.length_tail]; omega
  · exact Nat.le_refl _

theorem ahead_short (l : List UInt8) : (ahead l).length ≤ l.length := Nat.le_trans (List.takeWhile_sublist _).length_le (body_short l)

theorem behind_short (l : List UInt8) : (behind l).length ≤ max l.length 1 := by
  unfold behind
  split
  · rw [List.length_tail]
    have h1 : ((body l).dropWhile (· != 47)).length ≤ (body l).length := (List.dropWhile_sublist _).length_le
    have := body_short l
    omega
  · simp; omega

/-- A text of k bytes at most is worth a number of k digits over one of k. -/
theorem size_of {l : List UInt8} (ha : Dec (ahead l)) (hb : Dec (behind l)) (h0 : num (behind l) ≠ 0) {k : Nat} (hk : l.length ≤ k) (h1 : 1 ≤ k) : Size (worth l) k k :=
  ⟨_, _, _, worth_qv l, h0, Nat.lt_of_lt_of_le (num_lt ha.1) (ten_le (Nat.le_trans (ahead_short l) hk)), Nat.lt_of_lt_of_le (num_lt hb.1) (ten_le (by have := behind_short l; omega))⟩

/-- What is told of a number of few digits is right. -/
theorem Size.good {q : Rat} {i j : Nat} (h : Size q i j) (hi : 1 ≤ i) (hj : 1 ≤ j) (hl : i + j + 2 ≤ 1900) : Good (rtxt q) :=
  ⟨Nat.le_trans (h.text hi hj) hl, by rw [worth_rtxt]⟩

end Go.Proofs.YtepacminjfeliaaGreatDoor

/-
  What is answered of exact numbers as texts: forms of the contracts, bounds, order; both of the document's side and of the program's.
-/
namespace Go.Proofs.YtepacminjfeliaaGreatDoor
open Go.RowKit

/-- A number by its parts, as a value. -/
abbrev numV (neg : Bool) (vp vq : Value) : Value := .agg #[.bool neg, vp, vq]

theorem can_small {l : List Nat} (h : Can l) {L : List Nat} (hL : Lim L) {k : Nat} (hk : L.length ≤ k) (hv : val l ≤ val L) : l.length ≤ k := h.len (Nat.lt_of_le_of_lt hv (val_small hL hk))

theorem len_zero {w : World} {ad : Option Addr} {n cap : Nat} {l : List Nat} (r : Rd w (.slice ad n cap) l) (c : Can l) : n = 0 ↔ val l = 0 := by
  rw [r.open.1]
  constructor
  · intro h; rw [List.eq_nil_of_length_eq_zero h]; rfl
  · intro h; rw [c.zero h]; rfl

theorem texted_dec {s : ByteArray} {N : Nat} (h : Dec (by0 s)) (hn : num (by0 s) = N) : by0 s = dec N := by rw [← hn]; exact h.eq

theorem body_le (l : List UInt8) : (body l).length ≤ l.length := by
  unfold body
  split
  · rw [List.length_tail]; omega
  · exact Nat.le_refl _

theorem ahead_le (l : List UInt8) : (ahead l).length ≤ l.length := Nat.le_trans (List.takeWhile_sublist _).length_le (body_le l)

theorem behind_le (l : List UInt8) : (behind l).length ≤ max l.length 1 := by
  unfold behind
  split
  · rw [List.length_tail]
    have h1 : ((body l).dropWhile (· != 47)).length ≤ (body l).length := (List.dropWhile_sublist _).length_le
    have := body_le l
    omega
  · simp; omega

theorem aheadS_size (s : ByteArray) : (aheadS s).size ≤ s.size := by
  rw [← by0_len, aheadS_by0, ← by0_len]; exact ahead_le _

theorem behindS_size (s : ByteArray) : (behindS s).size ≤ max s.size 1 := by
  rw [← by0_len, behindS_by0, ← by0_len]; exact behind_le _

/-- The value 0 of a number's type. -/
abbrev noNum : Value := .agg #[.bool false, .slice none 0 0, .slice none 0 0]

theorem bad_long {l : List UInt8} (h : 1900 < l.length) : ¬ Good l := fun g => by have := g.1; omega
theorem bad_ahead {l : List UInt8} (h : ¬ Dec (ahead l)) : ¬ Good l := fun g => h g.formed.1
theorem bad_behind {l : List UInt8} (h : ¬ Dec (behind l)) : ¬ Good l := fun g => h g.formed.2

theorem results_tmp3 {fn : Func} {t u v : Tmp} (h : fn.results = #[.tmp t, .tmp u, .tmp v]) (tmps : Array Value) (P : Program) (w : World) :
    (results fn tmps).run P w = .ok (.tuple #[tmps.getD t undef, tmps.getD u undef, tmps.getD v undef]) w := by
  simp [results, h]

theorem mul_small {l : List Nat} (h : Can l) {A B : List Nat} (hA : Lim A) (hB : Lim B) {x y : Nat} (hx : A.length ≤ x) (hy : B.length ≤ y) (hv : val l = val A * val B) : l.length ≤ x + y := by
  refine h.len ?_
  rw [hv, pw_add]
  exact Nat.mul_lt_mul_of_lt_of_le (val_small hA hx) (Nat.le_of_lt (val_small hB hy)) (pw_pos y)

/-- What is told of a number: its text, or that it is too long. -/
def RTold (w : World) (q : Rat) (e : Ending) (w' : World) : Prop :=
  Below w.heap.size w w' ∧ (((rtxt q).length ≤ 1900 ∧ ∃ s : ByteArray, e = .returned (.tuple #[.string s, .int .i64 0]) ∧ by0 s = rtxt q) ∨
    (1900 < (rtxt q).length ∧ e = .returned (.tuple #[.string ⟨#[]⟩, .int .i64 2])))

/-- What is answered of texts: that they are no numbers', or what is told of q. -/
def Ans (w : World) (ok : Prop) (q : Rat) (e : Ending) (w' : World) : Prop :=
  Below w.heap.size w w' ∧ ((¬ ok ∧ e = .returned (.tuple #[.string ⟨#[]⟩, .int .i64 1])) ∨
    (ok ∧ (((rtxt q).length ≤ 1900 ∧ ∃ s : ByteArray, e = .returned (.tuple #[.string s, .int .i64 0]) ∧ by0 s = rtxt q) ∨
    (1900 < (rtxt q).length ∧ e = .returned (.tuple #[.string ⟨#[]⟩, .int .i64 2])))))

theorem ahead_small {l : List UInt8} (h : Good l) {P : List Nat} (k : Can P) (v : val P = num (ahead l)) : P.length ≤ 200 :=
  few_limbs h.formed.1.1 (by have := ahead_le l; have := h.1; omega) k (Nat.le_of_eq v)

theorem behind_small {l : List UInt8} (h : Good l) {P : List Nat} (k : Can P) (v : val P = num (behind l)) : P.length ≤ 200 :=
  few_limbs h.formed.2.1 (by have := behind_le l; have := h.1; omega) k (Nat.le_of_eq v)

/-- What a told number's text and error are. -/
def ToldIs (q : Rat) (t : ByteArray) (n : Int) : Prop := ((rtxt q).length ≤ 1900 ∧ by0 t = rtxt q ∧ n = 0) ∨ (1900 < (rtxt q).length ∧ t = ⟨#[]⟩ ∧ n = 2)

theorem ToldIs.ans {w w' : World} {ok : Prop} {q : Rat} {t : ByteArray} {n : Int} (h : ToldIs q t n) (hb : Below w.heap.size w w') (ho : ok) : Ans w ok q (.returned (.tuple #[.string t, .int .i64 n])) w' := by
  rcases h with ⟨h1, h2, rfl⟩ | ⟨h1, rfl, rfl⟩
  · exact ⟨hb, .inr ⟨ho, .inl ⟨h1, t, rfl, h2⟩⟩⟩
  · exact ⟨hb, .inr ⟨ho, .inr ⟨h1, rfl⟩⟩⟩

/-- What Div answers. -/
def AnsDiv (w : World) (ok : Prop) (d q : Rat) (e : Ending) (w' : World) : Prop :=
  Below w.heap.size w w' ∧ ((¬ ok ∧ e = .returned (.tuple #[.string ⟨#[]⟩, .int .i64 1])) ∨ (ok ∧ d = 0 ∧ e = .returned (.tuple #[.string ⟨#[]⟩, .int .i64 21])) ∨ (d ≠ 0 ∧ Ans w ok q e w'))

/-- Of two exact numbers, which is greater. -/
def cmpQ (x y : Rat) : Int := if x < y then -1 else if y < x then 1 else 0

theorem cmp_pos (P R : Nat) {Q S : Nat} (hQ : Q ≠ 0) (hS : S ≠ 0) : cmpQ (qv false P Q) (qv false R S) = tell (P * S) (R * Q) := by
  unfold cmpQ tell
  simp only [qv_lt false false P R hQ hS, qv_lt false false R P hS hQ, sgn, Bool.false_eq_true, if_false, Int.ofNat_lt]

theorem cmp_neg (P R : Nat) {Q S : Nat} (hQ : Q ≠ 0) (hS : S ≠ 0) : cmpQ (qv true P Q) (qv true R S) = -tell (P * S) (R * Q) := by
  unfold cmpQ tell
  simp only [qv_lt true true P R hQ hS, qv_lt true true R P hS hQ, sgn, if_true]
  split <;> split <;> (try split) <;> omega

theorem cmp_np {P : Nat} (R : Nat) {Q S : Nat} (hQ : Q ≠ 0) (hS : S ≠ 0) (hP : P ≠ 0) : cmpQ (qv true P Q) (qv false R S) = -1 := by
  unfold cmpQ
  have h : 0 < P * S := Nat.mul_pos (Nat.pos_of_ne_zero hP) (Nat.pos_of_ne_zero hS)
  rw [if_pos ((qv_lt true false P R hQ hS).2 (by simp only [sgn, if_true, Bool.false_eq_true, if_false]; omega))]

theorem cmp_pn (P : Nat) {R Q S : Nat} (hQ : Q ≠ 0) (hS : S ≠ 0) (hR : R ≠ 0) : cmpQ (qv false P Q) (qv true R S) = 1 := by
  unfold cmpQ
  have h : 0 < R * Q := Nat.mul_pos (Nat.pos_of_ne_zero hR) (Nat.pos_of_ne_zero hQ)
  rw [if_neg (fun k => by have := (qv_lt false true P R hQ hS).1 k; simp only [sgn, if_true, Bool.false_eq_true, if_false] at this; omega), if_pos ((qv_lt true false R P hS hQ).2 (by simp only [sgn, if_true, Bool.false_eq_true, if_false]; omega))]

theorem rtxt_zero : rtxt 0 = [48] := by
  unfold rtxt
  rw [show (0 : Rat).num = 0 from rfl, show (0 : Rat).den = 1 from rfl]
  simp [dec_zero]

theorem Good.neg {l : List UInt8} (h : Good l) (hn : negB l = true) : num (ahead l) ≠ 0 := by
  intro h0
  have hw : worth l = 0 := by rw [worth_qv, h0]; exact (qv_zero _ _ h.den).2 rfl
  have e := h.2
  rw [hw, rtxt_zero] at e
  rw [← e] at hn
  exact absurd hn (by decide)

/-- What Cmp answers. -/
def Compd (w : World) (ok : Prop) (x y : Rat) (e : Ending) (w' : World) : Prop :=
  Below w.heap.size w w' ∧ ((¬ ok ∧ e = .returned (.int .i64 0)) ∨ (ok ∧ e = .returned (.int .i64 (cmpQ x y))))

/-- What Norm answers. -/
def Normd (w : World) (l : List UInt8) (e : Ending) (w' : World) : Prop :=
  Below w.heap.size w w' ∧ ((¬ (Dec (ahead l) ∧ Dec (behind l)) ∧ e = .returned (.tuple #[.string ⟨#[]⟩, .int .i64 12])) ∨
    ((Dec (ahead l) ∧ Dec (behind l)) ∧ ((900 < l.length ∧ e = .returned (.tuple #[.string ⟨#[]⟩, .int .i64 2])) ∨
      (l.length ≤ 900 ∧ num (behind l) = 0 ∧ e = .returned (.tuple #[.string ⟨#[]⟩, .int .i64 21])) ∨
      (l.length ≤ 900 ∧ num (behind l) ≠ 0 ∧ ∃ t : ByteArray, e = .returned (.tuple #[.string t, .int .i64 0]) ∧ by0 t = rtxt (worth l)))))

theorem nought_good : Good [48] := by
  have h : worth [48] = 0 := by
    rw [worth_qv]
    exact (qv_zero _ _ (by decide)).2 (by decide)
  exact ⟨by decide, by rw [h, rtxt_zero]⟩

theorem nought_worth : worth [48] = 0 := by
  rw [worth_qv]
  exact (qv_zero _ _ (by decide)).2 (by decide)

end Go.Proofs.YtepacminjfeliaaGreatDoor

/-
  Exact numbers by reduced parts: which texts are numbers' texts, and what sums, products and the order of reduced parts come to. No program.
-/
namespace Go.Proofs.YtepacminjfeliaaGreatDoor
open Go.RowKit

theorem sign_body (l : List UInt8) : l = (if negB l then [45] else []) ++ body l := by
  unfold body
  cases h : negB l
  · rfl
  · unfold negB at h
    cases l with
    | nil => simp at h
    | cons b l =>
      have hb : b = 45 := by simpa using h
      subst hb
      rfl

theorem body_cut (l : List UInt8) : body l = ahead l ++ (if slash l then 47 :: behind l else []) := by
  unfold behind ahead
  have e := (List.takeWhile_append_dropWhile (p := (· != 47)) (l := body l)).symm
  cases h : slash l
  · unfold slash at h
    have hn : ∀ b ∈ body l, (b != 47) = true := by
      intro b hb
      have := List.any_eq_false.1 h b hb
      simpa using this
    simp only [Bool.false_eq_true, if_false, List.append_nil]
    exact ((no_slash_at hn).1).symm
  · unfold slash at h
    simp only [if_true]
    cases hd : (body l).dropWhile (· != 47) with
    | nil =>
      have hn : ∀ b ∈ body l, (b != 47) = true := by
        intro b hb
        rw [e, hd, List.append_nil] at hb
        exact List.all_eq_true.1 List.all_takeWhile b hb
      obtain ⟨b, hb, h2⟩ := List.any_eq_true.1 h
      have := hn b hb
      simp at this h2
      exact absurd h2 this
    | cons b m =>
      have h2 : ¬ (b != 47) = true := by
        have := List.head_dropWhile_not (· != (47 : UInt8)) (l := body l) (by rw [hd]; simp)
        simp only [hd, List.head_cons] at this
        simpa using this
      have hb : b = 47 := by simpa using h2
      subst hb
      exact e.trans (by rw [hd]; rfl)

theorem whole_text (l : List UInt8) : l = (if negB l then [45] else []) ++ (ahead l ++ (if slash l then 47 :: behind l else [])) := by
  rw [← body_cut]; exact sign_body l

theorem num_one_dec {l : List UInt8} (h : Dec l) (h1 : num l = 1) : l = [49] := by rw [h.eq, h1, dec_one]
theorem num_zero_dec {l : List UInt8} (h : Dec l) (h1 : num l = 0) : l = [48] := by rw [h.eq, h1, dec_zero]

theorem good_of {l : List UInt8} (hl : l.length ≤ 1900) (hf : Formed l) (hz : ¬ (negB l = true ∧ num (ahead l) = 0)) (hs : slash l = true → num (behind l) ≠ 0 ∧ num (behind l) ≠ 1 ∧ Nat.gcd (num (ahead l)) (num (behind l)) = 1) : Good l := by
  refine ⟨hl, ?_⟩
  have hq : num (behind l) ≠ 0 ∧ Nat.gcd (num (ahead l)) (num (behind l)) = 1 ∧ (num (behind l) = 1 ↔ slash l = false) := by
    by_cases h : slash l = true
    · exact ⟨(hs h).1, (hs h).2.2, ⟨fun e => absurd e (hs h).2.1, fun e => by rw [h] at e; simp at e⟩⟩
    · have hb : behind l = [49] := by unfold behind; rw [if_neg h]
      have h1 : num (behind l) = 1 := by rw [hb]; rfl
      exact ⟨by rw [h1]; decide, by rw [h1, Nat.gcd_one_right], ⟨fun _ => by simpa using h, fun _ => h1⟩⟩
  rw [worth_qv, qv_text _ _ hq.1, hq.2.1, Nat.div_one, Nat.div_one]
  conv => rhs; rw [whole_text l]
  congr 1
  · by_cases h : negB l = true
    · rw [if_pos ⟨h, fun e => hz ⟨h, e⟩⟩, if_pos h]
    · rw [if_neg (fun k => h k.1), if_neg h]
  · rw [← hf.1.eq]
    congr 1
    by_cases h : slash l = true
    · rw [if_neg (hs h).2.1, if_pos h, ← hf.2.eq]
    · rw [if_pos (hq.2.2.2 (by simpa using h)), if_neg h]

theorem rtxt_parts (q : Rat) : num (ahead (rtxt q)) = q.num.natAbs ∧ num (behind (rtxt q)) = q.den ∧ sgn (negB (rtxt q)) (num (ahead (rtxt q))) = q.num ∧ (negB (rtxt q) = true → q ≠ 0) ∧ slash (rtxt q) = !(decide (q.den = 1)) := by
  refine ⟨?_, ?_, ?_, ?_, slash_rtxt q⟩
  · rw [ahead_rtxt, dec_num]
  · rw [behind_rtxt, dec_num]
  · rw [ahead_rtxt, dec_num, negB_rtxt, sgn_abs]
  · rw [negB_rtxt]
    intro h e
    rw [e] at h
    exact absurd h (by decide)

/-- What the parts of a number's text are. -/
theorem Good.parts {l : List UInt8} (h : Good l) : num (behind l) = (worth l).den ∧ sgn (negB l) (num (ahead l)) = (worth l).num ∧ (negB l = true → worth l ≠ 0) ∧ slash l = !(decide ((worth l).den = 1)) := by
  have k := rtxt_parts (worth l)
  rw [h.2] at k
  exact ⟨k.2.1, k.2.2.1, k.2.2.2.1, k.2.2.2.2⟩

theorem Good.not_minus {l : List UInt8} (h : Good l) : ¬ (negB l = true ∧ num (ahead l) = 0) := fun k => h.neg k.1 k.2

theorem Good.not_whole {l : List UInt8} (h : Good l) (hs : slash l = true) : num (behind l) ≠ 0 ∧ num (behind l) ≠ 1 ∧ Nat.gcd (num (ahead l)) (num (behind l)) = 1 := by
  have k := rtxt_parts (worth l)
  rw [h.2] at k
  obtain ⟨k1, k2, -, -, k5⟩ := k
  refine ⟨h.den, ?_, ?_⟩
  · rw [k2]
    intro e
    rw [hs, e] at k5
    exact absurd k5 (by decide)
  · rw [k1, k2]
    exact (worth l).reduced

/-- The number of reduced parts. -/
theorem parts_qv {n : Bool} {P Q : Nat} {q : Rat} (hP : sgn n P = q.num) (hQ : Q = q.den) : qv n P Q = q := by
  unfold qv
  rw [hP, hQ, Rat.mkRat_self]

theorem parts_abs {n : Bool} {P : Nat} {q : Rat} (hP : sgn n P = q.num) : P = q.num.natAbs := by rw [← hP, sgn_natAbs]

theorem parts_zero {n : Bool} {P : Nat} {q : Rat} (hP : sgn n P = q.num) : P = 0 ↔ q = 0 := by
  rw [parts_abs hP, Int.natAbs_eq_zero, Rat.num_eq_zero]

/-- A sum by reduced parts: the sign and what is above come of what both have over one denominator. -/
theorem sum_parts {a b : Rat} {n m neg : Bool} {P R t : Nat} (hP : sgn n P = a.num) (hR : sgn m R = b.num)
    (ht : sgn neg t = sgn n (P * (b.den / Nat.gcd a.den b.den)) + sgn m (R * (a.den / Nat.gcd a.den b.den))) :
    sgn neg (t / Nat.gcd t (Nat.gcd a.den b.den)) = (a + b).num ∧ a.den / Nat.gcd a.den b.den * (b.den / Nat.gcd t (Nat.gcd a.den b.den)) = (a + b).den := by
  obtain ⟨c, hc⟩ : ∃ c, c = Nat.gcd a.den b.den := ⟨_, rfl⟩
  have hc0 : 0 < c := by rw [hc]; exact Nat.gcd_pos_of_pos_left _ a.den_pos
  obtain ⟨x, hx⟩ : ∃ x, a.den = x * c := by obtain ⟨x, hx⟩ := (hc ▸ Nat.gcd_dvd_left a.den b.den : c ∣ a.den); exact ⟨x, by rw [hx, Nat.mul_comm]⟩
  obtain ⟨y, hy⟩ : ∃ y, b.den = y * c := by obtain ⟨y, hy⟩ := (hc ▸ Nat.gcd_dvd_right a.den b.den : c ∣ b.den); exact ⟨y, by rw [hy, Nat.mul_comm]⟩
  have ex : a.den / c = x := by rw [hx]; exact Nat.mul_div_cancel _ hc0
  have ey : b.den / c = y := by rw [hy]; exact Nat.mul_div_cancel _ hc0
  have haux := Rat.add.aux a b hc rfl rfl
  simp only [ex, ey] at haux
  rw [← hc] at ht ⊢
  rw [ex, ey] at ht
  rw [ex]
  have htn : sgn neg t = a.num * (y : Int) + b.num * (x : Int) := by rw [ht, ← sgn_times, ← sgn_times, hP, hR]
  rw [← htn, sgn_natAbs] at haux
  have hx0 : x ≠ 0 := fun e => by rw [e, Nat.zero_mul] at hx; exact a.den_nz hx
  have hD : x * b.den ≠ 0 := Nat.mul_ne_zero hx0 b.den_nz
  have hsum : a + b = qv neg t (x * b.den) := by
    have e1 : a = mkRat a.num a.den := (Rat.mkRat_self a).symm
    have e2 : b = mkRat b.num b.den := (Rat.mkRat_self b).symm
    unfold qv
    rw [htn]
    conv => lhs; rw [e1, e2, Rat.mkRat_add_mkRat _ _ a.den_nz b.den_nz]
    rw [Rat.mkRat_eq_iff (Nat.mul_ne_zero a.den_nz b.den_nz) hD, hx, hy]
    push_cast
    grind
  rw [hsum, qv_num _ _ hD, qv_den _ _ hD, ← haux]
  refine ⟨rfl, ?_⟩
  rw [Nat.mul_div_assoc]
  exact Nat.dvd_trans (Nat.gcd_dvd_right t c) (hy ▸ Nat.dvd_mul_left c y)

end Go.Proofs.YtepacminjfeliaaGreatDoor

/-
  strings.CutPrefix with a minus sign, strings.Cut with a slash, and rat's split: what a text is written of. The text has 1000000 bytes at most.
-/
namespace Go.Proofs.YtepacminjfeliaaGreatDoor
open Go.RowKit

theorem first_byte (s : ByteArray) : negB (by0 s) = (decide (0 < s.size) && ((s.extract 0 1).toList == [45])) := by
  unfold negB
  by_cases h0 : 0 < s.size
  · have h1 := by0_at s 0 h0
    have hh : (by0 s).head? = some (s[0]'h0) := by rw [← h1, List.head?_eq_getElem?]
    have he : (s.extract 0 1).toList = [s[0]'h0] := by
      have : by0 (s.extract 0 1) = [s[0]'h0] := by
        rw [by0_ext, List.drop_zero]
        cases hb : by0 s with
        | nil => rw [hb] at hh; simp at hh
        | cons b l => rw [hb] at hh; simp at hh ⊢; exact hh
      rw [← this]
      exact Lib.toList_data _
    rw [hh, he, decide_eq_true h0, Bool.true_and, Bool.eq_iff_iff]
    simp
  · have hn : by0 s = [] := List.eq_nil_of_length_eq_zero (by rw [by0_len]; omega)
    rw [hn, decide_eq_false h0]
    rfl

set_option maxRecDepth 100000 in
set_option maxHeartbeats 2000000 in
theorem hasPrefix_minus (s : ByteArray) (w : World) : Calls Tryz.prog 101 #[.string s, .string ⟨#[45]⟩] w fun e w' => e = .returned (.bool (negB (by0 s))) ∧ w' = w := by
  have hf := first_byte s
  by_cases h0 : 0 < s.size
  · rw [decide_eq_true h0, Bool.true_and] at hf
    rw [hf]
    have z : decide ((1 : Int) ≤ (s.size : Int)) = true := decide_eq_true (by omega)
    clear hf
    cases hb : ((s.extract 0 1).toList == [45])
    · go_enter Tryz.func101, Tryz.ntmps101
      go_wp2
      go_ret
      exact ⟨rfl, rfl⟩
    · go_enter Tryz.func101, Tryz.ntmps101
      go_wp2
      go_ret
      exact ⟨rfl, rfl⟩
  · rw [decide_eq_false h0, Bool.false_and] at hf
    rw [hf]
    have z : decide ((1 : Int) ≤ (s.size : Int)) = false := decide_eq_false (by omega)
    clear hf
    go_enter Tryz.func101, Tryz.ntmps101
    go_wp2
    go_ret
    exact ⟨rfl, rfl⟩

set_option maxRecDepth 100000 in
set_option maxHeartbeats 2000000 in
theorem litePrefix_minus (s : ByteArray) (w : World) : Calls Tryz.prog 71 #[.string s, .string ⟨#[45]⟩] w fun e w' => e = .returned (.tuple #[.string (bodyS s), .bool (negB (by0 s))]) ∧ w' = w := by
  have hp := hasPrefix_minus s w
  have hc : negB (by0 s) = true → 1 ≤ s.size := fun h => by rw [first_byte] at h; simp at h; omega
  unfold bodyS
  cases hb : negB (by0 s)
  · rw [hb] at hp
    go_enter Tryz.func71, Tryz.ntmps71
    go_wp2_with fail
    refine hp.mono ?_
    rintro e w' ⟨rfl, rfl⟩
    go_wp2
    go_ret2
    exact ⟨rfl, rfl⟩
  · rw [hb] at hp
    have hs := hc hb
    go_enter Tryz.func71, Tryz.ntmps71
    go_wp2_with fail
    refine hp.mono ?_
    rintro e w' ⟨rfl, rfl⟩
    go_wp2
    go_ret2
    exact ⟨rfl, rfl⟩

set_option maxRecDepth 100000 in
set_option maxHeartbeats 2000000 in
theorem cutPrefix_minus (s : ByteArray) (w : World) : Calls Tryz.prog 50 #[.string s, .string ⟨#[45]⟩] w fun e w' => e = .returned (.tuple #[.string (bodyS s), .bool (negB (by0 s))]) ∧ w' = w := by
  have hp := litePrefix_minus s w
  go_enter Tryz.func50, Tryz.ntmps50
  go_wp2_with fail
  refine hp.mono ?_
  rintro e w' ⟨rfl, rfl⟩
  go_wp2
  go_ret2
  exact ⟨rfl, rfl⟩

set_option maxRecDepth 100000 in
set_option maxHeartbeats 2000000 in
theorem indexByte_slash (s : ByteArray) (w : World) : Calls Tryz.prog 127 #[.string s, .int .u8 47] w fun e w' => e = .returned (.int .i64 (Lib.indexByte s.data.toList 47)) ∧ w' = w := by
  go_enter Tryz.func127, Tryz.ntmps127
  go_wp2
  rw [run_callFunc_extern Tryz.func140 (by kernel_rfl) (by kernel_rfl) (by kernel_rfl) (e := Extern.BytealgIndexByte.indexByte) (by kernel_rfl), Lib.run_indexByteString]
  simp only [Result.andThen]
  rw [Oper.upon_value]
  go_wp2
  go_ret
  exact ⟨rfl, rfl⟩

set_option maxRecDepth 100000 in
set_option maxHeartbeats 2000000 in
theorem index_slash (s : ByteArray) (w : World) : Calls Tryz.prog 102 #[.string s, .string ⟨#[47]⟩] w fun e w' => e = .returned (.int .i64 (Lib.indexByte s.data.toList 47)) ∧ w' = w := by
  have hp := indexByte_slash s w
  cases hb : ([(47 : UInt8)] == s.toList)
  · generalize Lib.indexByte s.data.toList 47 = r at hp ⊢
    go_enter Tryz.func102, Tryz.ntmps102
    go_wp2_with fail
    refine hp.mono ?_
    rintro e w' ⟨rfl, rfl⟩
    go_wp2
    go_ret
    exact ⟨rfl, rfl⟩
  · have e : s.data.toList = [47] := by rw [← Lib.toList_data]; exact (beq_iff_eq.1 hb).symm
    have h0 : Lib.indexByte s.data.toList 47 = 0 := by rw [e]; rfl
    rw [h0]
    clear hp h0 e
    go_enter Tryz.func102, Tryz.ntmps102
    go_wp2
    go_ret
    exact ⟨rfl, rfl⟩

end Go.Proofs.YtepacminjfeliaaGreatDoor
