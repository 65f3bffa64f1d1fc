/-
  Bounds on sums and products, by how many limbs they need.
-/
import Derived.Test.YtpijjpjpedcbhaaRow
namespace Go.Proofs.Ytpijjpjpedcbhaa
open Go.RowKit

theorem lt_mul {x y i j : Nat} (hx : x < pw i) (hy : y < pw j) : x * y < pw (i + j) := by
  rw [pw_add]
  exact Nat.mul_lt_mul'' hx hy

theorem lt_up {x i j : Nat} (hx : x < pw i) (h : i ≤ j) : x < pw j := Nat.lt_of_lt_of_le hx (pw_le h)

theorem lt_add {x y i : Nat} (hx : x < pw i) (hy : y < pw i) : x + y < pw (i + 1) := by
  rw [pw_succ]; omega

theorem rd_small {w : World} {ad : Option Addr} {n cap : Nat} {l : List Nat} (h : Rd w (.slice ad n cap) l) {k : Nat} (hn : n ≤ k) : val l < pw k := val_small h.lim (by rw [← h.open.1]; exact hn)

end Go.Proofs.Ytpijjpjpedcbhaa
