/-
  Long division, as plain numbers: what holds before and behind each guess, and what it comes to. Nothing of the program is walked here.
-/
import Derived.Test.YtkfododihdopiaaDoorTake
namespace Go.Proofs.YtkfododihdopiaaDoor
open Go.RowKit

theorem sm_cons (x : Nat → Nat) (n : Nat) : sm x (n + 1) = x 0 + 4294967296 * sm (fun j => x (j + 1)) n := by
  induction n with
  | zero => simp [sm, pw]
  | succ n ih =>
    show sm x (n + 1) + pw (n + 1) * x (n + 1) = x 0 + 4294967296 * (sm (fun j => x (j + 1)) n + pw n * x (n + 1))
    rw [ih, pw_succ, Nat.mul_add, Nat.mul_assoc]; omega

theorem set_val {Q : List Nat} {k q : Nat} (hk : k < Q.length) (h0 : at0 Q k = 0) : val (Q.set k q) = val Q + pw k * q := by
  have e : Q.set k q = put Q k [q] := by
    refine same_at (n := Q.length) (fun j hj => ?_) (by rw [List.length_set]) (by rw [put_length _ _ _ (by simp only [List.length_cons, List.length_nil]; omega)])
    rw [put_at _ _ _ (by simp only [List.length_cons, List.length_nil]; omega)]
    unfold at0
    simp only [List.getD_eq_getElem?_getD, List.getElem?_set, List.length_cons, List.length_nil]
    by_cases c : k = j
    · subst c; simp [hk]
    · rw [if_neg c, if_neg (by omega)]
  have h := put_val Q k [q] (by simp only [List.length_cons, List.length_nil]; omega)
  rw [e]
  simp only [List.length_cons, List.length_nil, sm, pw, Nat.add_zero, h0, val] at h
  omega

theorem set_lim {Q : List Nat} {k q : Nat} (h : Lim Q) (hq : q < 4294967296) : Lim (Q.set k q) := by
  intro x hx
  rcases List.mem_or_eq_of_mem_set hx with h1 | h1
  · exact h x h1
  · omega

theorem at0_set {Q : List Nat} {k q j : Nat} (h : j ≠ k) : at0 (Q.set k q) j = at0 Q j := by
  unfold at0; rw [List.getD_eq_getElem?_getD, List.getD_eq_getElem?_getD, List.getElem?_set_ne (by omega)]

/-- The numbers of a division, with p limbs of the answer still to be found. -/
structure DivNum (A Y : Nat) (N n p : Nat) (L Q : List Nat) : Prop where
  limL : Lim L
  limQ : Lim Q
  lenL : L.length = N
  lenQ : Q.length = N - n
  sum : val L + Y * val Q = A
  low : ∀ j, j < p → at0 Q j = 0
  top : sm (fun j => at0 L (p + j)) n < Y
  high : ∀ j, p + n ≤ j → at0 L j = 0

theorem DivNum.row {A Y N n k : Nat} {L Q : List Nat} (h : DivNum A Y N n (k + 1) L Q) : rowVal L k n < 4294967296 * Y := by
  unfold rowVal
  rw [sm_cons]
  have h1 := at0_lt h.limL (k + 0)
  have h2 := h.top
  have e : sm (fun j => at0 L (k + (j + 1))) n = sm (fun j => at0 L (k + 1 + j)) n := sm_congr fun j _ => by rw [show k + (j + 1) = k + 1 + j from by omega]
  show at0 L (k + 0) + 4294967296 * sm (fun j => at0 L (k + (j + 1))) n < _
  rw [e]
  omega

theorem DivNum.step {A Y N n k : Nat} {L Q m : List Nat} {q : Nat} (h : DivNum A Y N n (k + 1) L Q) (hk : k + n + 1 ≤ N) (hq : q < 4294967296) (hm : Lim m) (hml : m.length = n + 1) (hv : val m + q * Y = rowVal L k n) (hlt : val m < Y) (hY : Y < pw n) :
    DivNum A Y N n k (put L k m) (Q.set k q) := by
  have hl := h.lenL
  have hq' := h.lenQ
  have hput := put_val L k m (by omega)
  rw [hml] at hput
  have hmn : at0 m n = 0 := by
    rcases Nat.eq_zero_or_pos (at0 m n) with h0 | h0
    · exact h0
    · have e := sm_all m (k := n + 1) (by omega)
      have : sm (at0 m) (n + 1) = sm (at0 m) n + pw n * at0 m n := rfl
      have := Nat.mul_le_mul_left (pw n) h0
      omega
  refine ⟨put_lim h.limL hm, set_lim h.limQ hq, by rw [put_length _ _ _ (by omega), hl], by rw [List.length_set, hq'], ?_, ?_, ?_, ?_⟩
  · rw [set_val (by omega) (h.low k (by omega)), Nat.mul_add]
    have e : pw k * rowVal L k n = pw k * val m + Y * (pw k * q) := by
      rw [← hv, Nat.mul_add, Nat.mul_comm q Y, Nat.mul_left_comm]
    have := h.sum
    have e2 : pw k * sm (fun j => at0 L (k + j)) (n + 1) = pw k * rowVal L k n := rfl
    omega
  · intro j hj
    rw [at0_set (by omega)]; exact h.low j (by omega)
  · have e : sm (fun j => at0 (put L k m) (k + j)) n = sm (at0 m) n := sm_congr fun j hj => by rw [put_at _ _ _ (by omega), if_pos ⟨by omega, by omega⟩, Nat.add_sub_cancel_left]
    rw [e]
    have e := sm_all m (k := n + 1) (by omega)
    have : sm (at0 m) (n + 1) = sm (at0 m) n + pw n * at0 m n := rfl
    rw [hmn] at this
    omega
  · intro j hj
    rw [put_at _ _ _ (by omega)]
    by_cases c : j < k + m.length
    · rw [if_pos ⟨by omega, c⟩, show j - k = n from by omega]; exact hmn
    · rw [if_neg (by omega)]; exact h.high j (by omega)

theorem DivNum.done {s A B N n : Nat} {L Q : List Nat} (h : DivNum (2 ^ s * A) (2 ^ s * B) N n 0 L Q) (hB : 0 < B) : val Q = A / B ∧ val L = 2 ^ s * (A % B) := by
  have h1 : val L < 2 ^ s * B := by
    have e : val L = sm (fun j => at0 L (0 + j)) n := by
      have e2 : sm (fun j => at0 L (0 + j)) n = sm (at0 L) n := sm_congr fun j _ => by rw [Nat.zero_add]
      rw [e2]
      rcases Nat.le_total L.length n with c | c
      · rw [sm_all L c]
      · rw [← sm_all L (Nat.le_refl _)]
        exact sm_zeros c fun j h1 _ => h.high j (by omega)
    rw [e]; exact h.top
  have h2 := h.sum
  have hp := Nat.two_pow_pos s
  rw [Nat.mul_assoc] at h2
  have h3 : B * val Q ≤ A := Nat.le_of_mul_le_mul_left (by omega) hp
  obtain ⟨r, rfl⟩ := Nat.exists_eq_add_of_le h3
  rw [Nat.mul_add] at h2
  have h4 : val L = 2 ^ s * r := by omega
  have h5 : r < B := by
    rw [h4] at h1
    exact Nat.lt_of_mul_lt_mul_left h1
  rw [Nat.mul_add_div hB, Nat.mul_add_mod, Nat.div_eq_of_lt h5, Nat.mod_eq_of_lt h5]
  exact ⟨rfl, h4⟩

/-- The start: nothing has been found yet; the topmost limbs are less than what is divided by. -/
theorem DivNum.start {s A B N n na : Nat} {L : List Nat} (hs : s ≤ 31) (hL : Lim L) (hlen : L.length = N) (hN : N = na + 1) (hv : val L = 2 ^ s * A) (hA : A < pw na) (hn : 1 ≤ n) (hY : 2147483648 * pw (n - 1) ≤ 2 ^ s * B) :
    DivNum (2 ^ s * A) (2 ^ s * B) N n (N - n) L (List.replicate (N - n) 0) := by
  have hz : val (List.replicate (N - n) 0) = 0 := by
    rw [← sm_all _ (Nat.le_refl _), List.length_replicate, sm_zeros (k := 0) (Nat.zero_le _)]
    · rfl
    · intro j _ hj; unfold at0; simp [hj]
  have h2 : 2 ^ s ≤ 2147483648 := Nat.pow_le_pow_right (by decide) hs (n := 2)
  refine ⟨hL, ?_, hlen, List.length_replicate, by rw [hz, hv]; rfl, ?_, ?_, ?_⟩
  · intro x hx; rw [List.eq_of_mem_replicate hx]; decide
  · intro j hj; unfold at0; simp [hj]
  · have e := sm_shift (at0 L) (N - n) n
    have e1 : sm (at0 L) (N - n + n) = val L := sm_all L (by omega)
    rw [e1, hv] at e
    have h3 : 2 ^ s * A < 2 ^ s * pw na := Nat.mul_lt_mul_of_pos_left hA (Nat.two_pow_pos s)
    by_cases c : n ≤ N
    · have e2 : pw na = pw (N - n) * pw (n - 1) := by rw [← pw_add]; congr 1; omega
      have h4 : pw (N - n) * sm (fun j => at0 L (N - n + j)) n < pw (N - n) * (2 ^ s * pw (n - 1)) := by
        rw [Nat.mul_left_comm, ← e2]; omega
      have h5 := Nat.lt_of_mul_lt_mul_left h4
      have h6 : 2 ^ s * pw (n - 1) ≤ 2147483648 * pw (n - 1) := Nat.mul_le_mul_right _ h2
      omega
    · have e2 : N - n = 0 := by omega
      rw [e2] at e ⊢
      have h4 : pw na ≤ pw (n - 1) := pw_le (by omega)
      have h5 : 2 ^ s * pw na ≤ 2147483648 * pw (n - 1) := Nat.mul_le_mul h2 h4
      simp only [sm, pw, Nat.one_mul, Nat.zero_add] at e
      simp only [Nat.zero_add]
      omega
  · intro j hj
    exact at0_over (by omega)

/-- Shifted so far up, the number that is divided by has as many limbs, and its topmost bit is set. -/
theorem div_up {l y : List Nat} {k s : Nat} (hl : Can l) (hk : l.length = k + 1) (hup : Up (at0 l k) s) (hy : Can y) (hv : val y = 2 ^ s * val l) :
    y.length = k + 1 ∧ 2147483648 * pw k ≤ 2 ^ s * val l ∧ val y < pw (k + 1) := by
  obtain ⟨hs, h1, h2⟩ := hup
  have e : val l = sm (at0 l) k + pw k * at0 l k := (sm_all l (k := k + 1) (by omega)).symm
  have hlow := sm_lt (x := at0 l) (fun j => at0_lt hl.1 j) k
  have hlo : 2147483648 * pw k ≤ 2 ^ s * val l := by
    rw [e, Nat.mul_add, Nat.mul_left_comm]
    have := Nat.mul_le_mul_left (pw k) h1
    rw [Nat.mul_comm 2147483648]; omega
  have hhi : 2 ^ s * val l < pw (k + 1) := by
    have h3 : 2 ^ s * (at0 l k + 1) ≤ 4294967296 := by
      have d : 2 ^ s * 2 ^ (32 - s) = 4294967296 := by rw [← Nat.pow_add, show s + (32 - s) = 32 from by omega]
      rw [← d] at h2 ⊢
      exact Nat.mul_le_mul_left _ (Nat.lt_of_mul_lt_mul_left h2)
    have h4 : val l < pw k * (at0 l k + 1) := by rw [e, Nat.mul_succ]; omega
    have h5 := Nat.mul_lt_mul_of_pos_left h4 (Nat.two_pow_pos s)
    rw [Nat.mul_left_comm] at h5
    have h6 := Nat.mul_le_mul_left (pw k) h3
    rw [pw_succ, Nat.mul_comm 4294967296]
    omega
  refine ⟨?_, hlo, by omega⟩
  have h3 := hy.len (k := k + 1) (by omega)
  rcases Nat.lt_or_ge y.length (k + 1) with c | c
  · have h4 := val_small hy.1 (show y.length ≤ k by omega)
    omega
  · omega

theorem tail_val {l : List Nat} {R : Nat} (hl : Lim l) (hne : 0 < l.length) (hv : val l = 4294967296 * R) : val l.tail = R ∧ Lim l.tail ∧ l.tail.length = l.length - 1 := by
  cases l with
  | nil => simp at hne
  | cons x l =>
    have hx := hl x (List.mem_cons_self)
    simp only [val] at hv
    exact ⟨by show val l = R; omega, fun y hy => hl y (List.mem_cons_of_mem _ hy), rfl⟩

end Go.Proofs.YtkfododihdopiaaDoor
