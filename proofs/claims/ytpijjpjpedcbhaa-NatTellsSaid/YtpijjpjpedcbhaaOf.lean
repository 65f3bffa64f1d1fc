/-
  nat.Of and nat.Norm: a number of 64 bits as a list in short; a list in short, in new memory.
-/
import Derived.Test.YtpijjpjpedcbhaaAdd
import Derived.Laws.AppendOwnNone
namespace Go.Proofs.Ytpijjpjpedcbhaa
open Go.RowKit

/-- The two limbs of a number of 64 bits. -/
theorem of_two (x : Int) (h0 : 0 ≤ x) (h1 : x < 18446744073709551616) : ∃ p q : Nat, x % 4294967296 = (p : Int) ∧ x / 4294967296 = (q : Int) ∧ p < 4294967296 ∧ q < 4294967296 ∧ val [p, q] = x.toNat :=
  ⟨(x % 4294967296).toNat, (x / 4294967296).toNat, by omega, by omega, by omega, by omega, by simp only [val]; omega⟩

theorem two_blk (w : World) (p q : Nat) : Blk (w.alloc (.cells #[.int .u32 (p : Int), .int .u32 (q : Int)] 36)) w.heap.size [p, q] := by
  unfold Blk
  exact heap_alloc_new w _

theorem lim_two {p q : Nat} (hp : p < 4294967296) (hq : q < 4294967296) : Lim [p, q] := by
  intro x hx
  simp at hx
  rcases hx with rfl | rfl <;> assumption

set_option maxHeartbeats 400000 in
theorem of_any (x : Int) (w : World) (h0 : 0 ≤ x) (h1 : x < 18446744073709551616) :
    Calls Try.prog 27 #[.int .u64 x] w (Made w x.toNat) := by
  obtain ⟨p, q, hp, hq, p1, q1, hv⟩ := of_two x h0 h1
  have HV := Lib.hid hv; clear hv
  go_enter Try.func27, Try.ntmps27
  go_wp2_with fail
  refine (short_any ((two_blk w p q).rd (lim_two p1 q1) (n := 2) (cap := 2) rfl (by decide)) (by simp)).mono ?_
  rintro e w3 ⟨⟨ad, k, cap, l', rfl, hr', hcan, hv'⟩, rfl⟩
  have HV' := Lib.hid hv'; clear hv'
  go_wp2
  go_ret
  exact ⟨ad, k, cap, l', rfl, hr', hcan, HV'.out.trans HV.out, (Below.refl _ _).alloc (Nat.le_refl _) _⟩

/-- An owned row of limbs, read as a slice. -/
theorem own_rd {w : World} {base : Nat} {v : Value} {n : Nat} {l : List Nat} (h : w.ownsRow base 36 1 v n (l.map fun (x : Nat) => Value.int .u32 (x : Int))) (hl : Lim l) : ∃ ad cap, v = .slice ad n cap ∧ Rd w (.slice ad n cap) l := by
  obtain ⟨h1, h2⟩ := h
  have hn : l.length = n := by simpa using h1
  rcases h2 with ⟨rfl, rfl⟩ | ⟨g, cap, cur, rfl, _, hg, hcap, _, hs, ht⟩
  · obtain rfl : l = [] := List.eq_nil_of_length_eq_zero hn
    exact ⟨_, _, rfl, Rd.nil w⟩
  · refine ⟨_, cap, rfl, _, n, cap, rfl, hn.symm, hcap, hl, fun _ => ⟨g, 0, rfl, (Array.getElem?_eq_some_iff.1 hg).1, fun i x hi => ?_⟩⟩
    have h3 : (cur.toList.take (n * 1))[i]? = some (.int .u32 (x : Int)) := by rw [ht, List.getElem?_map, hi]; rfl
    have hi' : i < n := by have := (List.getElem?_eq_some_iff.1 hi).1; omega
    rw [List.getElem?_take_of_lt (by omega)] at h3
    rw [Nat.zero_add]
    simp only [World.cell?, hg]
    simpa using h3

set_option maxHeartbeats 400000 in
theorem norm_any {w : World} {v : Value} {a : List Nat} (h : Rd w v a) (hl : a.length ≤ 1000000) :
    Calls Try.prog 25 #[v] w (Made w (val a)) := by
  obtain ⟨i0, hi, hz0, hz1, hz2⟩ := info_parts Try.info36
  go_enter Try.func25, Try.ntmps25
  go_wp2_with fail
  refine (short_any h hl).mono ?_
  rintro e w3 ⟨⟨ad, k, cap, l', rfl, hr', hcan, hv'⟩, rfl⟩
  have HV' := Lib.hid hv'; clear hv'
  obtain ⟨ad', k', cap', e', hk, hcap, hlim, hcells⟩ := id hr'
  simp only [Value.slice.injEq] at e'
  obtain ⟨rfl, rfl, rfl⟩ := e'
  have hk' : k ≤ 1000000 := by
    have h1 := val_lt a
    have h2 := hcan.len (k := a.length) (by rw [HV'.out]; exact val_lt a h.lim)
    omega
  have HK := Lib.hid hk; clear hk
  have HL := Lib.hid hlim; clear hlim
  have HC := Lib.hid hcells; clear hcells
  cases ad with
  | some a0 =>
    go_wp2_with (at_builtin; refine wpList_append_own _ rfl _ _ 22 rfl w.heap.size 36 i0 (.int .u32 0) 1 4 Try.underlying22 hi hz0 hz1 hz2 rfl (by decide) _ _ _ rfl (World.ownsRow_nil _ _ _ _) a0 k cap (l'.map fun (x : Nat) => Value.int .u32 (x : Int)) rfl (by simp [HK.out]) ?c1 ?c2 ?c3 ?c4 ?c5 ?_)
    case c1 =>
      intro j u hu
      rw [List.getElem?_map] at hu
      obtain ⟨x, hx, rfl⟩ := Option.map_eq_some_iff.1 hu
      have : 0 < k := by have := (List.getElem?_eq_some_iff.1 hx).1; have := HK.out; omega
      obtain ⟨b, o, e, _, hc⟩ := HC.out this
      simp only [Option.some.injEq] at e
      subst e
      rw [Addr.add_lit]
      exact hc j x hx
    case c2 => intro u hu; obtain ⟨x, _, rfl⟩ := List.mem_map.1 hu; rfl
    case c3 => unfold maxLen; omega
    case c4 => omega
    case c5 => exact Nat.le_refl _
    intro v' w1 hown hgrow _
    obtain ⟨ad1, cap1, rfl, hr1⟩ := own_rd hown HL.out
    clear hown
    go_wp2
    go_ret
    exact ⟨_, _, _, l', rfl, hr1, hcan, HV'.out, (Below.refl _ _).grown hgrow (Nat.le_refl _) (by simp [Value.ownBlock])⟩
  | none =>
    obtain rfl : k = 0 := by
      rcases Nat.eq_zero_or_pos k with h0 | h0
      · exact h0
      · obtain ⟨b, o, e, _⟩ := HC.out h0
        exact absurd e (by simp)
    go_wp2
    go_ret
    obtain rfl : l' = [] := List.eq_nil_of_length_eq_zero HK.out.symm
    exact ⟨_, _, _, [], rfl, Rd.nil w, Can.nil, HV'.out, Below.refl _ _⟩

end Go.Proofs.Ytpijjpjpedcbhaa
