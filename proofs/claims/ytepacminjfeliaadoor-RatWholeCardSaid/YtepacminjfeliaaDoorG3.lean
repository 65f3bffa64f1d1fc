/-
  A part of the proof: RefNorm, RefAdd, RefBit, RefSub, RefMul, RefParse, RefTenth.
-/
import Derived.Test.YtepacminjfeliaaDoorG2
import Derived.Deep.RegionWith
/-
  The document's answer: its limb, Norm and Of. No condition but the lists' lengths.
-/
namespace Go.Proofs.YtepacminjfeliaaDoor
open Go.RowKit

theorem rd_void (w : World) (ad : Option Addr) (cap : Nat) : Rd w (.slice ad 0 cap) [] := ⟨ad, 0, cap, rfl, rfl, Nat.zero_le _, by simp, by simp⟩

/-- A row of the call's own that reads as l. -/
def Owns (w : World) (base : Nat) (v : Value) (l : List Nat) : Prop := w.ownsRow base 75 1 v l.length (l.map fun (x : Nat) => Value.int .u32 (x : Int))

theorem Owns.rd {w : World} {base : Nat} {v : Value} {l : List Nat} (h : Owns w base v l) (hl : Lim l) : ∃ ad n cap, v = .slice ad n cap ∧ Rd w (.slice ad n cap) l := by
  obtain ⟨ad, cap, e, r⟩ := own_rd h hl
  exact ⟨ad, l.length, cap, e, r⟩

theorem Owns.nil (w : World) (base : Nat) : Owns w base (.slice none 0 0) [] := World.ownsRow_nil _ _ _ _

theorem Owns.push {w : World} {base n : Nat} {v : Value} {l : List Nat} {o : Int} {k : Nat} (ho : o = (k : Int)) (hn : n = l.length) (h : w.ownsRow base 75 1 v (n + 1) ((l.map fun (x : Nat) => Value.int .u32 (x : Int)) ++ [.int .u32 o])) : Owns w base v (l ++ [k]) := by
  subst ho hn
  unfold Owns
  rw [List.map_append, List.length_append]
  exact h

theorem Owns.mono {w : World} {base base' : Nat} {v : Value} {l : List Nat} (h : Owns w base v l) (hb : base' ≤ base) : Owns w base' v l :=
  ⟨h.1, h.2.imp id fun ⟨g, cap, cur, hv, hg, r⟩ => ⟨g, cap, cur, hv, Nat.le_trans hb hg, r⟩⟩

/-- What a call answers that makes a number in memory of its own: a list in short, worth N. -/
def OMade (w : World) (N : Nat) (e : Ending) (w' : World) : Prop :=
  ∃ ad n cap l, e = .returned (.slice ad n cap) ∧ Owns w' w.heap.size (.slice ad n cap) l ∧ Rd w' (.slice ad n cap) l ∧ Can l ∧ val l = N ∧ Below w.heap.size w w'

theorem OMade.made {w : World} {N : Nat} {e : Ending} {w' : World} (h : OMade w N e w') : Made w N e w' := by
  obtain ⟨ad, n, cap, l, h1, _, h2, h3, h4, h5⟩ := h
  exact ⟨ad, n, cap, l, h1, h2, h3, h4, h5⟩

theorem owns_void (w : World) (base : Nat) (h : base ≤ w.heap.size) : Owns (w.alloc (.cells #[] 75)) base (.slice (some ⟨w.heap.size, 0, none⟩) 0 0) [] :=
  World.ownsRow_lit w #[] 0 h (by decide) rfl

/-- The loop of the document's Norm: where the limbs 0 at the end begin. -/
def Cut (l : List Nat) (n k : Nat) : Prop := k ≤ n ∧ (∀ j, k ≤ j → j < n → at0 l j = 0) ∧ (0 < k → at0 l (k - 1) ≠ 0)

end Go.Proofs.YtepacminjfeliaaDoor

/-
  The document's answer: its Add: the sum of two lists, in short.
-/
namespace Go.Proofs.YtepacminjfeliaaDoor
open Go.RowKit

/-- append of one limb onto a row of the call's own. -/
theorem wpList_push {ops : Array Oper} {rest : List Oper} {o : Oper} {a : Act} {Q : Exit → Act → World → Prop} (w : World) (hgd : o.guard = none) (s x : Operand)
    (ho : o.op = .call { callee := .builtin .append, args := #[s, x], argTypes := #[38, 38] }) (base : Nat) (v : Value) (l : List Nat) (hs : a.eval s = v) (hown : Owns w base v l) (g : Nat) (k : Nat)
    (hx : a.eval x = .slice (some ⟨g, 0, none⟩) 1 1) (hc : w.cell? ⟨g, 0, none⟩ = some (.int .u32 (k : Int))) (hl : l.length ≤ 1000000) (hb : base ≤ w.heap.size)
    (h : ∀ v' w', Owns w' base v' (l ++ [k]) → (∀ B w0, B ≤ base → Below B w0 w → B ≤ w.heap.size → Below B w0 w') → wpList Tryd.prog ops Q rest (a.put o.dst v') w') : wpList Tryd.prog ops Q (o :: rest) a w := by
  obtain ⟨i0, hi, hz0, hz1, hz2⟩ := info_parts Tryd.info36
  refine wpList_append_own w hgd s x 38 ho base 75 i0 (.int .u32 0) 1 4 Tryd.underlying38 hi hz0 hz1 hz2 rfl (by decide) v l.length _ hs hown ⟨g, 0, none⟩ 1 1 [.int .u32 (k : Int)] hx rfl ?_ ?_ (by unfold maxLen; omega) (by omega) hb ?_
  · intro j u hj
    match j, hj with
    | 0, hj => simp at hj; subst hj; simpa [Addr.add] using hc
  · intro u hu; simp at hu; subst hu; rfl
  · intro v' w' hown' hgrow _
    refine h v' w' (Owns.push rfl rfl hown') fun B w0 hB hbel hB2 => hbel.grown hgrow hB2 fun j hj => ?_
    exact Nat.le_trans hB (World.ownsRow.lt hown j hj).1

theorem Owns.alloc {w : World} {base : Nat} {v : Value} {l : List Nat} (h : Owns w base v l) (o : Obj) : Owns (w.alloc o) base v l := World.ownsRow.alloc h o

theorem one_cell (w : World) (v : Value) (t : TypeId) : (w.alloc (.cells #[v] t)).cell? ⟨w.heap.size, 0, none⟩ = some v := by
  have h := heap_alloc_new w (.cells #[v] t)
  unfold World.cell?
  rw [h]; rfl

theorem alloc_le {n : Nat} {wr : World} {o : Obj} (h : n ≤ wr.heap.size) : n ≤ (wr.alloc o).heap.size := by simp; omega

theorem lim_snoc {l : List Nat} {x : Nat} (h : Lim l) (hx : x < 4294967296) : Lim (l ++ [x]) := by
  intro y hy
  rcases List.mem_append.1 hy with h1 | h1
  · exact h y h1
  · simp at h1; omega

/-- In the loop of the document's Add. -/
def RAddAt (w : World) (a b : List Nat) (k : Nat) (v : Value) (c : Nat) (wr : World) : Prop :=
  ∃ l, Owns wr w.heap.size v l ∧ l.length = k ∧ Lim l ∧ c ≤ 1 ∧ InvAdd a b k l c ∧ Below w.heap.size w wr

end Go.Proofs.YtepacminjfeliaaDoor

/-
  The document's answer: its bit and Cmp: which of two numbers is greater, bit by bit. No condition but the lists' lengths.
-/
namespace Go.Proofs.YtepacminjfeliaaDoor
open Go.RowKit

theorem bit_spell (x s : Nat) : (((x : Int) / 2 ^ s).tmod 2 == 1) = decide (x / 2 ^ s % 2 = 1) := by
  have e : (x : Int) / 2 ^ s = ((x / 2 ^ s : Nat) : Int) := by rw [Int.natCast_ediv, Int.natCast_pow]; rfl
  rw [e, Int.tmod_eq_emod_of_nonneg (Int.natCast_nonneg _)]
  by_cases h : x / 2 ^ s % 2 = 1
  · rw [decide_eq_true h, beq_iff_eq]; omega
  · rw [decide_eq_false h, beq_eq_false_iff_ne]; omega

theorem pw_two (q : Nat) : pw q = 2 ^ (32 * q) := by
  induction q with
  | zero => rfl
  | succ q ih => rw [pw_succ, ih, Nat.mul_add, Nat.pow_add, Nat.mul_comm]

theorem val_split (l : List Nat) (q : Nat) : val l = val (l.take q) + pw q * (at0 l q + 4294967296 * val (l.drop (q + 1))) := by
  by_cases h : q < l.length
  · have e : l = l.take q ++ l.drop q := (List.take_append_drop q l).symm
    have h1 : (l.take q).length = q := by rw [List.length_take]; omega
    have h2 : at0 l q = l[q] := by unfold at0; simp [h]
    rw [h2]
    conv => lhs; rw [e, val_append, h1, List.drop_eq_getElem_cons h]
    rfl
  · rw [at0_over (by omega), List.take_of_length_le (by omega), List.drop_eq_nil_of_le (by omega)]; simp [val]

theorem val_take_lt {l : List Nat} (h : Lim l) (q : Nat) : val (l.take q) < pw q := by
  have h1 := val_lt (l.take q) fun x hx => h x (List.mem_of_mem_take hx)
  exact Nat.lt_of_lt_of_le h1 (pw_le (by rw [List.length_take]; omega))

/-- A number's bit is one of a limb's. -/
theorem val_bit {l : List Nat} (h : Lim l) (q s : Nat) (hs : s < 32) : val l / 2 ^ (32 * q + s) % 2 = at0 l q / 2 ^ s % 2 := by
  have h1 := val_take_lt h q
  rw [val_split l q, Nat.pow_add, ← pw_two, ← Nat.div_div_eq_div_mul, Nat.add_mul_div_left _ _ (pw_pos q), Nat.div_eq_of_lt h1, Nat.zero_add]
  obtain ⟨t, ht⟩ : ∃ t, 32 = s + 1 + t := ⟨31 - s, by omega⟩
  have e : (4294967296 : Nat) = 2 ^ s * (2 * 2 ^ t) := by
    rw [show (4294967296 : Nat) = 2 ^ 32 from rfl, ht, Nat.pow_add, Nat.pow_succ, Nat.mul_assoc]
  rw [e, Nat.mul_assoc, Nat.add_mul_div_left _ _ (Nat.two_pow_pos s), Nat.mul_assoc, Nat.add_mul_mod_self_left]

/-- Bit i of a number. -/
def bt (A i : Nat) : Bool := decide (A / 2 ^ i % 2 = 1)

theorem up_bit (A k : Nat) : A / 2 ^ k = 2 * (A / 2 ^ (k + 1)) + (if bt A k then 1 else 0) := by
  rw [Nat.pow_succ, ← Nat.div_div_eq_div_mul]
  unfold bt
  generalize A / 2 ^ k = m
  by_cases h : m % 2 = 1
  · simp [h]; omega
  · simp [h]; omega

theorem up_lt {A B k : Nat} (h : A / 2 ^ k < B / 2 ^ k) : A < B := by
  rcases Nat.lt_or_ge A B with h1 | h1
  · exact h1
  · exact absurd (Nat.div_le_div_right (c := 2 ^ k) h1) (by omega)

theorem told {A B : Nat} {t : Int} (h : tell A B = t) : Ending.returned (.int .i64 t) = .returned (.int .i64 (tell A B)) := by rw [h]

/-- In the loop of the document's Cmp. -/
def CmpAt (w : World) (A B n : Nat) (s : Value) (wr : World) : Prop := ∃ k : Nat, s = .int .i64 ((k : Int) - 1) ∧ k ≤ n ∧ A / 2 ^ k = B / 2 ^ k ∧ Below w.heap.size w wr

end Go.Proofs.YtepacminjfeliaaDoor

/-
  The document's answer: its Sub. No condition but the lists' lengths.
-/
namespace Go.Proofs.YtepacminjfeliaaDoor
open Go.RowKit

/-- What the document's Sub answers of numbers worth A and B. -/
def OSubMade (w : World) (A B : Nat) (e : Ending) (w' : World) : Prop :=
  (B ≤ A ∧ ∃ ad n cap l, e = .returned (.tuple #[.slice ad n cap, .bool true]) ∧ Owns w' w.heap.size (.slice ad n cap) l ∧ Rd w' (.slice ad n cap) l ∧ Can l ∧ val l = A - B ∧ Below w.heap.size w w') ∨
  (A < B ∧ e = .returned (.tuple #[.slice none 0 0, .bool false]) ∧ Below w.heap.size w w')

theorem sm_over {l : List Nat} {n : Nat} (hv : val l < pw n) : sm (at0 l) n = val l := by
  rw [sm_take]
  have h := val_append (l.take n) (l.drop n)
  rw [List.take_append_drop] at h
  by_cases h0 : n < l.length
  · have h1 : (l.take n).length = n := by rw [List.length_take]; omega
    rw [h1] at h
    rcases Nat.eq_zero_or_pos (val (l.drop n)) with h2 | h2
    · rw [h, h2]; simp
    · have := Nat.mul_le_mul_left (pw n) h2
      omega
  · rw [List.take_of_length_le (by omega)]

theorem sub_parts (x y c : Nat) (hx : x < 4294967296) (hy : y < 4294967296) (hc : c ≤ 1) :
    ∃ o d : Nat, o = (x + 4294967296 - y - c) % 4294967296 ∧ bor x y c + d = 1 ∧ o < 4294967296 ∧ ((4294967296 : Int) + (x : Int) - (y : Int) - (c : Int)) % 4294967296 = (o : Int) ∧ ((4294967296 : Int) + (x : Int) - (y : Int) - (c : Int)) / 4294967296 = (d : Int) := by
  refine ⟨_, 1 - bor x y c, rfl, ?_, Nat.mod_lt _ (by decide), by omega, ?_⟩
  · have := bor_le x y c; omega
  · unfold bor; split <;> omega

/-- In the loop of the document's Sub. -/
def RSubAt (w : World) (a b : List Nat) (k : Nat) (v : Value) (c : Nat) (wr : World) : Prop :=
  ∃ l, Owns wr w.heap.size v l ∧ l.length = k ∧ Lim l ∧ c ≤ 1 ∧ InvSub a b k l c ∧ Below w.heap.size w wr

end Go.Proofs.YtepacminjfeliaaDoor

/-
  The document's answer: its times and Mul. No condition but the lists' lengths.
-/
namespace Go.Proofs.YtepacminjfeliaaDoor
open Go.RowKit

/-- What times has written so far. -/
def InvTimes (a : List Nat) (m p k : Nat) (l : List Nat) (c : Nat) : Prop := val l + pw (p + k) * c = pw p * (m * sm (at0 a) k)

theorem InvTimes.step {a : List Nat} {m p k : Nat} {l : List Nat} {c : Nat} (h : InvTimes a m p k l c) (hl : l.length = p + k) {S : Nat} (hS : S = at0 a k * m + c) :
    InvTimes a m p (k + 1) (l ++ [S % 4294967296]) (S / 4294967296) := by
  unfold InvTimes at h ⊢
  have e : pw (p + k) * (S % 4294967296) + pw (p + (k + 1)) * (S / 4294967296) = pw (p + k) * S := by
    rw [← Nat.add_assoc, pw_succ, Nat.mul_comm 4294967296 (pw (p + k)), Nat.mul_assoc, ← Nat.mul_add, Nat.mod_add_div]
  rw [val_snoc, hl, Nat.add_assoc, e, hS, Nat.mul_add, Nat.add_comm (pw (p + k) * _), ← Nat.add_assoc, h]
  simp only [sm]
  rw [pw_add, Nat.mul_add, Nat.mul_add, Nat.mul_comm (at0 a k) m, Nat.mul_assoc (pw p), Nat.mul_left_comm (pw k) m]

theorem times_wide (x m c : Nat) (hx : x < 4294967296) (hm : m < 4294967296) (hc : c < 4294967296) :
    ∃ S o c' : Nat, S = x * m + c ∧ o = S % 4294967296 ∧ c' = S / 4294967296 ∧ o < 4294967296 ∧ c' < 4294967296 ∧ IntKind.u64.wrap (IntKind.u64.wrap ((x : Int) * (m : Int)) + (c : Int)) = (S : Int) ∧ S < 18446744073709551616 ∧ (S : Int) % 4294967296 = (o : Int) ∧ (S : Int) / 4294967296 = (c' : Int) := by
  have h := mul_lt x m hx hm
  refine ⟨x * m + c, (x * m + c) % 4294967296, (x * m + c) / 4294967296, rfl, rfl, rfl, Nat.mod_lt _ (by decide), ?_, ?_, ?_, ?_, ?_⟩
  · generalize x * m = t at h; omega
  · rw [wide1 x m hx hm, wide2 _ c h hc]
  · generalize x * m = t at h; omega
  · rfl
  · rfl

/-- In times' loop. -/
def TimesAt (w : World) (a : List Nat) (m p k : Nat) (v : Value) (c : Nat) (wr : World) : Prop :=
  ∃ l, Owns wr w.heap.size v l ∧ l.length = p + k ∧ Lim l ∧ c < 4294967296 ∧ InvTimes a m p k l c ∧ Below w.heap.size w wr

theorem made_owns {w1 : World} {base n : Nat} {v : Value} (h : w1.ownsRow base 75 1 v n (madeCells #[Value.int .u32 0] n).toList) : Owns w1 base v (List.replicate n 0) := by
  unfold Owns
  have e := toList_madeCells_one (.int .u32 0) n
  rw [List.length_replicate, List.map_replicate]
  rw [e] at h
  exact h

theorem val_zeros (n : Nat) : val (List.replicate n 0) = 0 := by
  induction n with
  | zero => rfl
  | succ n ih => rw [List.replicate_succ]; simp [val, ih]

theorem lim_zeros (n : Nat) : Lim (List.replicate n 0) := fun x hx => by
  rw [List.eq_of_mem_replicate hx]; decide

/-- In the loop of the document's Mul. -/
def RMulAt (w : World) (a b : List Nat) (k : Nat) (v : Value) (wr : World) : Prop :=
  ∃ ad n cap l, v = .slice ad n cap ∧ Rd wr (.slice ad n cap) l ∧ Can l ∧ val l = val a * sm (at0 b) k ∧ Below w.heap.size w wr

theorem sm_le_val (l : List Nat) (k : Nat) : sm (at0 l) k ≤ val l := by
  rw [sm_take]
  have h := val_append (l.take k) (l.drop k)
  rw [List.take_append_drop] at h
  omega

theorem mul_len {a b l : List Nat} (ha : Lim a) (hb : Lim b) (hl : Can l) {k : Nat} (hv : val l = val a * sm (at0 b) k) : l.length ≤ a.length + b.length := by
  refine hl.len ?_
  rw [hv, pw_add]
  exact Nat.mul_lt_mul'' (val_lt a ha) (Nat.lt_of_le_of_lt (sm_le_val b k) (val_lt b hb))

end Go.Proofs.YtepacminjfeliaaDoor

/-
  The document's Parse. The text has 1000000 bytes at most.
-/
namespace Go.Proofs.YtepacminjfeliaaDoor
open Go.RowKit

theorem bel_alloc {w W : World} (h : Below w.heap.size w W) (o : Obj) : Below w.heap.size w (W.alloc o) := h.alloc h.size o

theorem bel_drew {B : Nat} {w W : World} (h : Below B w W) : Below B w W.drew := h.drew

theorem one_under (w : World) (v : Value) (t : TypeId) (o : Obj) : ((w.alloc (.cells #[v] t)).alloc o).cell? ⟨w.heap.size, 0, none⟩ = some v := by
  rw [((Below.refl (w.heap.size + 1) (w.alloc (.cells #[v] t))).alloc (by simp) o).cell (by simp)]
  exact one_cell w v t

theorem one_over (w : World) (v : Value) (t : TypeId) (o : Obj) : ((w.alloc o).alloc (.cells #[v] t)).cell? ⟨w.heap.size + 1, 0, none⟩ = some v := by
  have h := one_cell (w.alloc o) v t
  rwa [World.size_alloc] at h

theorem val_ten : val [(10 : Int).toNat] = 10 := by decide

theorem wrap_u8 (x : Int) (h0 : 0 ≤ x) (h1 : x < 256) : IntKind.u8.wrap x = x := by
  simp [IntKind.wrap, IntKind.signed, IntKind.bits]; omega

theorem wrap_u32 (x : Int) (h0 : 0 ≤ x) (h1 : x < 4294967296) : IntKind.u32.wrap x = x := by
  simp [IntKind.wrap, IntKind.signed, IntKind.bits]; omega

/-- A literal of one number, wherever it lies. -/
theorem rd_one {w : World} {b : Nat} {y : Int} (hc : w.cell? ⟨b, 0, none⟩ = some (.int .u32 y)) (h0 : 0 ≤ y) (h1 : y < 4294967296) (hb : b < w.heap.size) : Rd w (.slice (some ⟨b, 0, none⟩) 1 1) [y.toNat] := by
  refine ⟨some ⟨b, 0, none⟩, 1, 1, rfl, rfl, Nat.le_refl _, fun z hz => by simp at hz; omega, fun _ => ⟨b, 0, rfl, hb, fun i z hz => ?_⟩⟩
  match i, hz with
  | 0, hz =>
    have : z = y.toNat := by simpa using hz.symm
    subst this
    rw [hc, Int.toNat_of_nonneg h0]
  | i + 1, hz => simp at hz

end Go.Proofs.YtepacminjfeliaaDoor

/-
  The document's answer: a number divided by ten, and the digit that is left. The number has 10000 limbs at most.
-/
namespace Go.Proofs.YtepacminjfeliaaDoor
open Go.RowKit

theorem tenth_step {a Q : List Nat} {k r : Nat} (hQ : Q.length = a.length) (hk : k < a.length) (h : 10 * val (Q.drop (k + 1)) + r = val (a.drop (k + 1))) :
    10 * val ((Q.set k ((r * 4294967296 + at0 a k) / 10)).drop k) + (r * 4294967296 + at0 a k) % 10 = val (a.drop k) := by
  have e1 : a.drop k = at0 a k :: a.drop (k + 1) := by
    rw [List.drop_eq_getElem_cons hk]
    congr 1
    unfold at0; rw [List.getD_eq_getElem?_getD, List.getElem?_eq_getElem hk]; rfl
  have e2 : (Q.set k ((r * 4294967296 + at0 a k) / 10)).drop k = ((r * 4294967296 + at0 a k) / 10) :: Q.drop (k + 1) := by
    rw [List.drop_eq_getElem_cons (by rw [List.length_set]; omega), List.getElem_set_self, List.drop_set_of_lt (by omega)]
  rw [e1, e2, val, val, ← h]
  omega

/-- In the loop of tenth: the limbs from k on are done. -/
def TenAt (w : World) (g : Nat) (a : List Nat) (k r : Nat) (wr : World) : Prop :=
  ∃ Q, Blk wr g Q ∧ Q.length = a.length ∧ Lim Q ∧ r < 10 ∧ 10 * val (Q.drop k) + r = val (a.drop k) ∧ Below w.heap.size w wr

/-- What tenth answers. -/
def Tenthed (w : World) (N : Nat) (e : Ending) (w' : World) : Prop :=
  ∃ ad n cap l, e = .returned (.tuple #[.slice ad n cap, .int .u8 ((48 + N % 10 : Nat) : Int)]) ∧ Owns w' w.heap.size (.slice ad n cap) l ∧ Rd w' (.slice ad n cap) l ∧ Can l ∧ val l = N / 10 ∧ Below w.heap.size w w'

theorem lim_put {l : List Nat} (h : Lim l) {k x : Nat} (hx : x < 4294967296) : Lim (l.set k x) := fun y hy => by
  rcases List.mem_or_eq_of_mem_set hy with h1 | h1
  · exact h y h1
  · omega

end Go.Proofs.YtepacminjfeliaaDoor
