/-
  nat.ahead: the factors by which two numbers of Euclid's row come of two others, found from their topmost 62 bits.
-/
import Derived.Test.YtpijjpjpedcbhaaRowNum
import Derived.Laws.ResultCell
namespace Go.Proofs.Ytpijjpjpedcbhaa
open Go.RowKit

/-- The factors with their signs. -/
def Signed (even : Bool) (A B C D : Nat) (a b c d : Int) : Prop := if even then a = A ∧ b = -B ∧ c = -C ∧ d = D else a = -A ∧ b = B ∧ c = C ∧ d = -D

/-- Four numbers in a block. -/
def Four (w : World) (g : Nat) (a b c d : Int) : Prop := w.heap[g]? = some (.cells #[.int .i64 a, .int .i64 b, .int .i64 c, .int .i64 d] 60 (0, 0))

theorem Near.dpos {even : Bool} {x0 y0 x y A B C D : Nat} (h : Near even x0 y0 x y A B C D) : 0 < D := by
  have det := h.det
  cases even with
  | true =>
    simp only [if_true] at det
    rcases Nat.eq_zero_or_pos D with e | e
    · rw [e, Nat.mul_zero] at det; omega
    · exact e
  | false =>
    simp only [Bool.false_eq_true, if_false] at det
    exact (h.pos (by intro e; rw [e, Nat.zero_mul] at det; omega)).2

theorem Near.xle {even : Bool} {x0 y0 x y A B C D : Nat} (h : Near even x0 y0 x y A B C D) : x ≤ x0 := by
  rw [h.ex]
  exact Nat.le_trans (Nat.le_mul_of_pos_left x h.dpos) (Nat.le_add_right _ _)

/-- The bounds that the loop's arithmetic needs. -/
structure Bounds (x y : Nat) (a b c d : Int) : Prop where
  a1 : -2147483648 < a
  a2 : a < 2147483648
  b1 : -2147483648 < b
  b2 : b < 2147483648
  c1 : -2147483648 < c
  c2 : c < 2147483648
  d1 : -2147483648 < d
  d2 : d < 2147483648
  xa : 0 ≤ (x : Int) + a
  xb : 0 ≤ (x : Int) + b

theorem Near.bounds {even : Bool} {x0 y0 x y A B C D : Nat} {a b c d : Int} (h : Near even x0 y0 x y A B C D) (s : Signed even A B C D a b c d) : Bounds x y a b c d := by
  have sA := h.sA
  have sB := h.sB
  have sC := h.sC
  have sD := h.sD
  have good := h.good
  have det := h.det
  unfold Signed at s
  cases even with
  | true =>
    simp only [if_true] at s good
    obtain ⟨rfl, rfl, rfl, rfl⟩ := s
    constructor <;> omega
  | false =>
    simp only [Bool.false_eq_true, if_false] at s good det
    obtain ⟨rfl, rfl, rfl, rfl⟩ := s
    have hB : B ≠ 0 := by intro e; rw [e, Nat.zero_mul] at det; omega
    have g := good.resolve_left hB
    constructor <;> omega

/-- One round. -/
theorem Near.next {even : Bool} {x0 y0 x y A B C D q : Nat} {a b c d : Int} (h : Near even x0 y0 x y A B C D) (s : Signed even A B C D a b c d) (h0 : x0 < 4611686018427387904) (h1 : y0 ≤ x0)
    (t1 : 0 < (y : Int) + c) (t2 : 0 < (y : Int) + d) (e1 : ((x : Int) + a) / ((y : Int) + c) = (q : Int)) (e2 : ((x : Int) + b) / ((y : Int) + d) = (q : Int)) :
    ∃ y' : Nat, (x : Int) - (q : Int) * (y : Int) = (y' : Int) ∧ Near (!even) x0 y0 y y' C D (A + q * C) (B + q * D) ∧ Signed (!even) C D (A + q * C) (B + q * D) c d (a - (q : Int) * c) (b - (q : Int) * d) ∧ y' < y ∧
      (-2147483648 ≤ (q : Int) * c ∧ (q : Int) * c ≤ 2147483648) ∧ (-2147483648 ≤ (q : Int) * d ∧ (q : Int) * d ≤ 2147483648) ∧ (0 ≤ (q : Int) * (y : Int) ∧ (q : Int) * (y : Int) ≤ x) := by
  have m1 := Int.ediv_mul_le ((x : Int) + a) (Int.ne_of_gt t1)
  have m2 := Int.lt_ediv_add_one_mul_self ((x : Int) + a) t1
  have m3 := Int.ediv_mul_le ((x : Int) + b) (Int.ne_of_gt t2)
  have m4 := Int.lt_ediv_add_one_mul_self ((x : Int) + b) t2
  rw [e1] at m1 m2
  rw [e2] at m3 m4
  have eP : (q : Int) * (y : Int) = ((q * y : Nat) : Int) := by rw [Int.natCast_mul]
  have eC : (q : Int) * (C : Int) = ((q * C : Nat) : Int) := by rw [Int.natCast_mul]
  have eD : (q : Int) * (D : Int) = ((q * D : Nat) : Int) := by rw [Int.natCast_mul]
  have hs := h
  unfold Signed at s ⊢
  cases even with
  | true =>
    simp only [if_true, Bool.not_true, Bool.false_eq_true, if_false] at s ⊢
    obtain ⟨rfl, rfl, rfl, rfl⟩ := s
    rw [Int.add_mul, Int.mul_add, Int.mul_neg, Int.one_mul, eP, eC] at m2
    rw [Int.mul_add, eP, eD] at m3
    have lo : B + q * (y + D) ≤ x := by rw [Nat.mul_add]; omega
    have hi : x + A + q * C + C < q * y + y := by omega
    have hq : q * y ≤ x := by rw [Nat.mul_add] at lo; omega
    obtain ⟨y', hy⟩ := Nat.exists_eq_add_of_le hq
    obtain ⟨n1, n2⟩ := h.step (q := q) (y' := y') h0 (by omega) hy (by rw [if_pos rfl]; exact lo) (by rw [if_pos rfl]; exact hi)
    have k1 := n1.sC
    have k2 := n1.sD
    refine ⟨y', by rw [eP]; omega, n1, ⟨rfl, rfl, ?_, ?_⟩, n2, ?_, ?_, ?_⟩
    · rw [Int.mul_neg, eC]; omega
    · rw [eD]; omega
    · rw [Int.mul_neg, eC]; omega
    · rw [eD]; omega
    · rw [eP]; omega
  | false =>
    simp only [Bool.false_eq_true, if_false, Bool.not_false, if_true] at s ⊢
    obtain ⟨rfl, rfl, rfl, rfl⟩ := s
    rw [Int.mul_add, eP, eC] at m1
    rw [Int.add_mul, Int.mul_add, Int.mul_neg, Int.one_mul, eP, eD] at m4
    have lo : A + q * (y + C) ≤ x := by rw [Nat.mul_add]; omega
    have hi : x + B + q * D + D < q * y + y := by omega
    have hq : q * y ≤ x := by rw [Nat.mul_add] at lo; omega
    obtain ⟨y', hy⟩ := Nat.exists_eq_add_of_le hq
    obtain ⟨n1, n2⟩ := h.step (q := q) (y' := y') h0 (by omega) hy (by rw [if_neg (by decide)]; exact lo) (by rw [if_neg (by decide)]; exact hi)
    have k1 := n1.sC
    have k2 := n1.sD
    refine ⟨y', by rw [eP]; omega, n1, ⟨rfl, rfl, ?_, ?_⟩, n2, ?_, ?_, ?_⟩
    · rw [eC]; omega
    · rw [Int.mul_neg, eD]; omega
    · rw [eC]; omega
    · rw [Int.mul_neg, eD]; omega
    · rw [eP]; omega

/-- What ahead answers. -/
def Ahead (x0 y0 : Nat) (w : World) (e : Ending) (w' : World) : Prop :=
  ∃ even A B C D x y a b c d, e = .returned (.agg #[.int .i64 a, .int .i64 b, .int .i64 c, .int .i64 d]) ∧ Near even x0 y0 x y A B C D ∧ Signed even A B C D a b c d ∧ Below w.heap.size w w'

/-- In ahead's loop. -/
def AheadAt (w : World) (x0 y0 : Nat) (s t : Value) (wr : World) : Prop :=
  ∃ even A B C D x y a b c d, s = .int .i64 ((x : Nat) : Int) ∧ t = .int .i64 ((y : Nat) : Int) ∧ Near even x0 y0 x y A B C D ∧ Signed even A B C D a b c d ∧ Four wr (w.heap.size + 1) a b c d ∧ Four wr w.heap.size 0 0 0 0 ∧ Below w.heap.size w wr

theorem Four.cell {w : World} {g : Nat} {a b c d : Int} (h : Four w g a b c d) : w.cell? ⟨g, 0, none⟩ = some (.int .i64 a) ∧ w.cell? ⟨g, 1, none⟩ = some (.int .i64 b) ∧ w.cell? ⟨g, 2, none⟩ = some (.int .i64 c) ∧ w.cell? ⟨g, 3, none⟩ = some (.int .i64 d) := by
  unfold Four at h
  simp [World.cell?, h]

theorem Four.free {w : World} {g : Nat} {a b c d : Int} (h : Four w g a b c d) (i : Nat) : w.frozen? ⟨g, i, none⟩ = false := by
  unfold Four at h
  simp [World.frozen?, h]

theorem four_set {w : World} {g : Nat} {a b c d a' b' c' d' : Int} (h : Four w g a b c d) :
    Four ((((w.setCell ⟨g, 0, none⟩ (.int .i64 a')).setCell ⟨g, 1, none⟩ (.int .i64 b')).setCell ⟨g, 2, none⟩ (.int .i64 c')).setCell ⟨g, 3, none⟩ (.int .i64 d')) g a' b' c' d' := by
  unfold Four at h ⊢
  simp [World.setCell, Array.getElem?_modify, h]

theorem four_new2 (w : World) (o : Obj) (a b c d : Int) : Four ((w.alloc o).alloc (.cells #[.int .i64 a, .int .i64 b, .int .i64 c, .int .i64 d] 60)) (w.heap.size + 1) a b c d := by
  unfold Four
  have h := heap_alloc_new (w.alloc o) (.cells #[.int .i64 a, .int .i64 b, .int .i64 c, .int .i64 d] 60)
  rwa [show (w.alloc o).heap.size = w.heap.size + 1 from by simp] at h

theorem Four.other {w : World} {g g' i : Nat} {a b c d : Int} {v : Value} (h : Four w g a b c d) (hne : g ≠ g') : Four (w.setCell ⟨g', i, none⟩ v) g a b c d := by
  unfold Four at h ⊢
  rw [Below.heap_setCell _ _ _ _ hne]; exact h

/-- The end: the factors are handed back. -/
theorem ahead_done {x0 y0 : Nat} {w W : World} {even : Bool} {A B C D x y : Nat} {a b c d : Int} {tmps : Array Value} {ds : List Deferred} (hn : Near even x0 y0 x y A B C D) (hs : Signed even A B C D a b c d) (hf : Four W w.heap.size a b c d) (hb : Below w.heap.size w W)
    (ht : tmps[4]?.getD undef = .pointer (some ⟨w.heap.size, 0, none⟩)) (hd : ds = []) : bodyPost Try.prog Try.f52 (Ahead x0 y0 w) Exit.ret { tmps := tmps, defers := ds } W := by
  subst hd
  obtain ⟨m0, m1, m2, m3⟩ := hf.cell
  refine bodyPost_ret (v := .agg #[.int .i64 a, .int .i64 b, .int .i64 c, .int .i64 d]) ?_ rfl ⟨even, A, B, C, D, x, y, a, b, c, d, rfl, hn, hs, hb⟩
  simp [results, Try.results52, go_sem, ht, m0, m1, m2, m3]

set_option maxHeartbeats 4000000 in
theorem ahead_any (x0 y0 : Nat) (w : World) (h : y0 ≤ x0) (hx : x0 < 4611686018427387904) :
    Calls Try.prog 52 #[.int .i64 (x0 : Int), .int .i64 (y0 : Int)] w (Ahead x0 y0 w) := by
  have HX := Lib.hid hx; clear hx
  go_enter Try.func52, Try.ntmps52
  go_wp2
  go_loopw [0, 1] (fun s t wr => AheadAt w x0 y0 s t wr) (fun _ t _ => (intOf t).toNat)
  case atStart =>
    refine ⟨true, 1, 0, 0, 1, x0, y0, 1, 0, 0, 1, rfl, rfl, Near.zero h, ⟨rfl, rfl, rfl, rfl⟩, ?_, ?_, ?_⟩
    · exact four_new2 _ _ _ _ _ _
    · exact (Below.heap_alloc _ _ _ (by simp)).trans (heap_alloc_new w _)
    · exact ((Below.refl _ _).alloc (Nat.le_refl _) _).alloc (by simp) _
  case round =>
    obtain ⟨even, A, B, C, D, x, y, a, b, c, d, rfl, rfl, hn, hs, hf, hf0, hbel⟩ := hrel
    have bd := hn.bounds hs
    obtain ⟨a1, a2, b1, b2, c1, c2, d1, d2, xa, xb⟩ := bd
    have hx := hn.xle
    have hx0 := HX.out
    have hle := hn.le
    obtain ⟨m0, m1, m2, m3⟩ := hf.cell
    obtain ⟨r0, r1, r2, r3⟩ := hf0.cell
    have f0 := hf.free 0
    have f1 := hf.free 1
    have f2 := hf.free 2
    have f3 := hf.free 3
    have o0 := hf0.free 0
    have o1 := hf0.free 1
    have o2 := hf0.free 2
    have o3 := hf0.free 3
    have hdone : ∀ tmps : Array Value, tmps[4]?.getD undef = .pointer (some ⟨w.heap.size, 0, none⟩) →
        bodyPost Try.prog Try.f52 (Ahead x0 y0 w) Exit.ret { tmps := tmps, defers := [] } ((((wr.setCell ⟨w.heap.size, 0, none⟩ (.int .i64 a)).setCell ⟨w.heap.size, 1, none⟩ (.int .i64 b)).setCell ⟨w.heap.size, 2, none⟩ (.int .i64 c)).setCell ⟨w.heap.size, 3, none⟩ (.int .i64 d)) := fun tmps ht =>
      ahead_done hn hs (four_set hf0) ((((hbel.setCell (Nat.le_refl _) _).setCell (Nat.le_refl _) _).setCell (Nat.le_refl _) _).setCell (Nat.le_refl _) _) ht rfl
    have HDN := Lib.hid hdone; clear hdone
    by_cases t1 : 0 < (y : Int) + c
    · by_cases t2 : 0 < (y : Int) + d
      · have td1 : decide ((0 : Int) < (y : Int) + c) = true := decide_eq_true t1
        have td2 : decide ((0 : Int) < (y : Int) + d) = true := decide_eq_true t2
        obtain ⟨q, hq⟩ : ∃ q : Nat, ((x : Int) + a) / ((y : Int) + c) = (q : Int) := Int.eq_ofNat_of_zero_le (Int.ediv_nonneg xa (Int.le_of_lt t1))
        obtain ⟨q2, hq2⟩ : ∃ q : Nat, ((x : Int) + b) / ((y : Int) + d) = (q : Int) := Int.eq_ofNat_of_zero_le (Int.ediv_nonneg xb (Int.le_of_lt t2))
        by_cases hqq : q = q2
        · subst hqq
          obtain ⟨y', ey, hn', hs', hlt, hqc, hqd, hqy⟩ := hn.next hs hx0 h t1 t2 hq hq2
          have bd' := hn'.bounds hs'
          obtain ⟨-, -, -, -, c1', c2', d1', d2', -, -⟩ := bd'
          have HEY := Lib.hid ey; clear ey
          have HF := Lib.hid hf; clear hf
          have HF0 := Lib.hid hf0; clear hf0
          clear hn hs r0 r1 r2 r3 o0 o1 o2 o3
          go_wp2
          go_roundw
          case rel =>
            rw [HEY.out]
            have hne : w.heap.size ≠ w.heap.size + 1 := by omega
            exact ⟨!even, C, D, A + q * C, B + q * D, y, y', c, d, _, _, rfl, rfl, hn', hs', four_set HF.out, (((HF0.out.other hne).other hne).other hne).other hne,
              (((hbel.setCell (by simp) _).setCell (by simp) _).setCell (by simp) _).setCell (by simp) _⟩
          case measure =>
            rw [HEY.out]
            simp [intOf]; omega
        · have hne : ((q : Int) != (q2 : Int)) = true := by rw [bne_iff_ne]; omega
          have HQQ := Lib.hid hqq; clear hqq
          go_wp2
          exact HDN.out _ rfl
      · have td1 : decide ((0 : Int) < (y : Int) + c) = true := decide_eq_true t1
        have td2 : decide ((0 : Int) < (y : Int) + d) = false := decide_eq_false t2
        go_wp2
        exact HDN.out _ rfl
    · have td1 : decide ((0 : Int) < (y : Int) + c) = false := decide_eq_false t1
      go_wp2
      exact HDN.out _ rfl

end Go.Proofs.Ytpijjpjpedcbhaa
