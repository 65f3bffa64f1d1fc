/-
  RatField: the law's body answers true of any three texts.
-/
import Derived.Test.YtepacminjfeliaaDoorBody3
namespace Go.Proofs.YtepacminjfeliaaDoor
open Go.RowKit

set_option maxRecDepth 100000 in
set_option maxHeartbeats 8000000 in
theorem rfield_great {w : World} (x y z : ByteArray) (h : 160 < x.size ∨ 160 < y.size) : Calls Tryd.prog 3 #[.string x, .string y, .string z] w (Samed w true) := by
  have HB := Below.refl w.heap.size w
  have HH := Lib.hid h; clear h
  go_enter Tryd.func3, Tryd.ntmps3
  go_wp2_with fail
  refine (rhead_any _).mono ?_
  rintro e w1 ⟨rfl, hb⟩
  replace HB := onto HB hb
  clear hb
  go_wp2_with fail
  refine (great_yes _ HH.out).mono ?_
  rintro e w2 ⟨rfl, hb⟩
  replace HB := onto HB hb
  clear hb
  go_wp2
  go_ret
  exact ⟨rfl, HB⟩

set_option maxRecDepth 100000 in
set_option maxHeartbeats 8000000 in
theorem rfield_great3 {w : World} (x y z : ByteArray) (h1 : x.size ≤ 160) (h2 : y.size ≤ 160) (h : 160 < z.size) : Calls Tryd.prog 3 #[.string x, .string y, .string z] w (Samed w true) := by
  have HB := Below.refl w.heap.size w
  have HH := Lib.hid (And.intro h1 h2); clear h1 h2
  have z : decide ((160 : Int) < (z.size : Int)) = true := decide_eq_true (by omega)
  go_enter Tryd.func3, Tryd.ntmps3
  go_wp2_with fail
  refine (rhead_any _).mono ?_
  rintro e w1 ⟨rfl, hb⟩
  replace HB := onto HB hb
  clear hb
  go_wp2_with fail
  refine (great_no _ HH.out.1 HH.out.2).mono ?_
  rintro e w2 ⟨rfl, hb⟩
  replace HB := onto HB hb
  clear hb
  go_wp2
  go_ret
  exact ⟨rfl, HB⟩

set_option maxRecDepth 100000 in
set_option maxHeartbeats 8000000 in
theorem rfield_bad0_12 {w : World} (x y z : ByteArray) (tx : ByteArray) (gx : Int) (ty : ByteArray) (gy : Int) (tz : ByteArray) (gz : Int) (nx : ∀ w, Calls Tryd.prog 10 #[.string x] w fun e w' => e = .returned (.tuple #[.string tx, .int .i64 gx]) ∧ Below w.heap.size w w') (ny : ∀ w, Calls Tryd.prog 10 #[.string y] w fun e w' => e = .returned (.tuple #[.string ty, .int .i64 gy]) ∧ Below w.heap.size w w') (nz : ∀ w, Calls Tryd.prog 10 #[.string z] w fun e w' => e = .returned (.tuple #[.string tz, .int .i64 gz]) ∧ Below w.heap.size w w') (h1 : x.size ≤ 160) (h2 : y.size ≤ 160) (h3 : z.size ≤ 160)  (zx : gx = 12) : Calls Tryd.prog 3 #[.string x, .string y, .string z] w (Samed w true) := by
  subst zx
  have HB := Below.refl w.heap.size w
  have HH := Lib.hid (And.intro h1 h2); clear h1 h2
  have zz : decide ((160 : Int) < (z.size : Int)) = false := decide_eq_false (by omega)
  replace nx := Lib.hid nx
  replace ny := Lib.hid ny
  replace nz := Lib.hid nz
  go_enter Tryd.func3, Tryd.ntmps3
  go_wp2_with fail
  refine (rhead_any _).mono ?_
  rintro e w1 ⟨rfl, hb⟩
  replace HB := onto HB hb
  clear hb
  go_wp2_with fail
  refine (great_no _ HH.out.1 HH.out.2).mono ?_
  rintro e w2 ⟨rfl, hb⟩
  replace HB := onto HB hb
  clear hb
  go_wp2_with fail
  refine (nx.out _).mono ?_
  rintro e w3 ⟨rfl, hb⟩
  replace HB := onto HB hb
  clear hb
  go_wp2_with fail
  refine (ny.out _).mono ?_
  rintro e w4 ⟨rfl, hb⟩
  replace HB := onto HB hb
  clear hb
  go_wp2_with fail
  refine (nz.out _).mono ?_
  rintro e w5 ⟨rfl, hb⟩
  replace HB := onto HB hb
  clear hb
  go_wp2
  go_ret
  exact ⟨rfl, HB⟩

set_option maxRecDepth 100000 in
set_option maxHeartbeats 8000000 in
theorem rfield_bad0_21 {w : World} (x y z : ByteArray) (tx : ByteArray) (gx : Int) (ty : ByteArray) (gy : Int) (tz : ByteArray) (gz : Int) (nx : ∀ w, Calls Tryd.prog 10 #[.string x] w fun e w' => e = .returned (.tuple #[.string tx, .int .i64 gx]) ∧ Below w.heap.size w w') (ny : ∀ w, Calls Tryd.prog 10 #[.string y] w fun e w' => e = .returned (.tuple #[.string ty, .int .i64 gy]) ∧ Below w.heap.size w w') (nz : ∀ w, Calls Tryd.prog 10 #[.string z] w fun e w' => e = .returned (.tuple #[.string tz, .int .i64 gz]) ∧ Below w.heap.size w w') (h1 : x.size ≤ 160) (h2 : y.size ≤ 160) (h3 : z.size ≤ 160)  (zx : gx = 21) : Calls Tryd.prog 3 #[.string x, .string y, .string z] w (Samed w true) := by
  subst zx
  have HB := Below.refl w.heap.size w
  have HH := Lib.hid (And.intro h1 h2); clear h1 h2
  have zz : decide ((160 : Int) < (z.size : Int)) = false := decide_eq_false (by omega)
  replace nx := Lib.hid nx
  replace ny := Lib.hid ny
  replace nz := Lib.hid nz
  go_enter Tryd.func3, Tryd.ntmps3
  go_wp2_with fail
  refine (rhead_any _).mono ?_
  rintro e w1 ⟨rfl, hb⟩
  replace HB := onto HB hb
  clear hb
  go_wp2_with fail
  refine (great_no _ HH.out.1 HH.out.2).mono ?_
  rintro e w2 ⟨rfl, hb⟩
  replace HB := onto HB hb
  clear hb
  go_wp2_with fail
  refine (nx.out _).mono ?_
  rintro e w3 ⟨rfl, hb⟩
  replace HB := onto HB hb
  clear hb
  go_wp2_with fail
  refine (ny.out _).mono ?_
  rintro e w4 ⟨rfl, hb⟩
  replace HB := onto HB hb
  clear hb
  go_wp2_with fail
  refine (nz.out _).mono ?_
  rintro e w5 ⟨rfl, hb⟩
  replace HB := onto HB hb
  clear hb
  go_wp2
  go_ret
  exact ⟨rfl, HB⟩

theorem rfield_bad0 {w : World} (x y z : ByteArray) (tx : ByteArray) (gx : Int) (ty : ByteArray) (gy : Int) (tz : ByteArray) (gz : Int) (nx : ∀ w, Calls Tryd.prog 10 #[.string x] w fun e w' => e = .returned (.tuple #[.string tx, .int .i64 gx]) ∧ Below w.heap.size w w') (ny : ∀ w, Calls Tryd.prog 10 #[.string y] w fun e w' => e = .returned (.tuple #[.string ty, .int .i64 gy]) ∧ Below w.heap.size w w') (nz : ∀ w, Calls Tryd.prog 10 #[.string z] w fun e w' => e = .returned (.tuple #[.string tz, .int .i64 gz]) ∧ Below w.heap.size w w') (h1 : x.size ≤ 160) (h2 : y.size ≤ 160) (h3 : z.size ≤ 160)  (zx : gx = 12 ∨ gx = 21) : Calls Tryd.prog 3 #[.string x, .string y, .string z] w (Samed w true) := by
  rcases zx with zx | zx
  · exact rfield_bad0_12 x y z tx gx ty gy tz gz nx ny nz h1 h2 h3  zx
  · exact rfield_bad0_21 x y z tx gx ty gy tz gz nx ny nz h1 h2 h3  zx

set_option maxRecDepth 100000 in
set_option maxHeartbeats 8000000 in
theorem rfield_bad1_12 {w : World} (x y z : ByteArray) (tx : ByteArray) (gx : Int) (ty : ByteArray) (gy : Int) (tz : ByteArray) (gz : Int) (nx : ∀ w, Calls Tryd.prog 10 #[.string x] w fun e w' => e = .returned (.tuple #[.string tx, .int .i64 gx]) ∧ Below w.heap.size w w') (ny : ∀ w, Calls Tryd.prog 10 #[.string y] w fun e w' => e = .returned (.tuple #[.string ty, .int .i64 gy]) ∧ Below w.heap.size w w') (nz : ∀ w, Calls Tryd.prog 10 #[.string z] w fun e w' => e = .returned (.tuple #[.string tz, .int .i64 gz]) ∧ Below w.heap.size w w') (h1 : x.size ≤ 160) (h2 : y.size ≤ 160) (h3 : z.size ≤ 160) (zx : gx = 0) (zy : gy = 12) : Calls Tryd.prog 3 #[.string x, .string y, .string z] w (Samed w true) := by
  subst zx
  subst zy
  have HB := Below.refl w.heap.size w
  have HH := Lib.hid (And.intro h1 h2); clear h1 h2
  have zz : decide ((160 : Int) < (z.size : Int)) = false := decide_eq_false (by omega)
  replace nx := Lib.hid nx
  replace ny := Lib.hid ny
  replace nz := Lib.hid nz
  go_enter Tryd.func3, Tryd.ntmps3
  go_wp2_with fail
  refine (rhead_any _).mono ?_
  rintro e w1 ⟨rfl, hb⟩
  replace HB := onto HB hb
  clear hb
  go_wp2_with fail
  refine (great_no _ HH.out.1 HH.out.2).mono ?_
  rintro e w2 ⟨rfl, hb⟩
  replace HB := onto HB hb
  clear hb
  go_wp2_with fail
  refine (nx.out _).mono ?_
  rintro e w3 ⟨rfl, hb⟩
  replace HB := onto HB hb
  clear hb
  go_wp2_with fail
  refine (ny.out _).mono ?_
  rintro e w4 ⟨rfl, hb⟩
  replace HB := onto HB hb
  clear hb
  go_wp2_with fail
  refine (nz.out _).mono ?_
  rintro e w5 ⟨rfl, hb⟩
  replace HB := onto HB hb
  clear hb
  go_wp2
  go_ret
  exact ⟨rfl, HB⟩

set_option maxRecDepth 100000 in
set_option maxHeartbeats 8000000 in
theorem rfield_bad1_21 {w : World} (x y z : ByteArray) (tx : ByteArray) (gx : Int) (ty : ByteArray) (gy : Int) (tz : ByteArray) (gz : Int) (nx : ∀ w, Calls Tryd.prog 10 #[.string x] w fun e w' => e = .returned (.tuple #[.string tx, .int .i64 gx]) ∧ Below w.heap.size w w') (ny : ∀ w, Calls Tryd.prog 10 #[.string y] w fun e w' => e = .returned (.tuple #[.string ty, .int .i64 gy]) ∧ Below w.heap.size w w') (nz : ∀ w, Calls Tryd.prog 10 #[.string z] w fun e w' => e = .returned (.tuple #[.string tz, .int .i64 gz]) ∧ Below w.heap.size w w') (h1 : x.size ≤ 160) (h2 : y.size ≤ 160) (h3 : z.size ≤ 160) (zx : gx = 0) (zy : gy = 21) : Calls Tryd.prog 3 #[.string x, .string y, .string z] w (Samed w true) := by
  subst zx
  subst zy
  have HB := Below.refl w.heap.size w
  have HH := Lib.hid (And.intro h1 h2); clear h1 h2
  have zz : decide ((160 : Int) < (z.size : Int)) = false := decide_eq_false (by omega)
  replace nx := Lib.hid nx
  replace ny := Lib.hid ny
  replace nz := Lib.hid nz
  go_enter Tryd.func3, Tryd.ntmps3
  go_wp2_with fail
  refine (rhead_any _).mono ?_
  rintro e w1 ⟨rfl, hb⟩
  replace HB := onto HB hb
  clear hb
  go_wp2_with fail
  refine (great_no _ HH.out.1 HH.out.2).mono ?_
  rintro e w2 ⟨rfl, hb⟩
  replace HB := onto HB hb
  clear hb
  go_wp2_with fail
  refine (nx.out _).mono ?_
  rintro e w3 ⟨rfl, hb⟩
  replace HB := onto HB hb
  clear hb
  go_wp2_with fail
  refine (ny.out _).mono ?_
  rintro e w4 ⟨rfl, hb⟩
  replace HB := onto HB hb
  clear hb
  go_wp2_with fail
  refine (nz.out _).mono ?_
  rintro e w5 ⟨rfl, hb⟩
  replace HB := onto HB hb
  clear hb
  go_wp2
  go_ret
  exact ⟨rfl, HB⟩

theorem rfield_bad1 {w : World} (x y z : ByteArray) (tx : ByteArray) (gx : Int) (ty : ByteArray) (gy : Int) (tz : ByteArray) (gz : Int) (nx : ∀ w, Calls Tryd.prog 10 #[.string x] w fun e w' => e = .returned (.tuple #[.string tx, .int .i64 gx]) ∧ Below w.heap.size w w') (ny : ∀ w, Calls Tryd.prog 10 #[.string y] w fun e w' => e = .returned (.tuple #[.string ty, .int .i64 gy]) ∧ Below w.heap.size w w') (nz : ∀ w, Calls Tryd.prog 10 #[.string z] w fun e w' => e = .returned (.tuple #[.string tz, .int .i64 gz]) ∧ Below w.heap.size w w') (h1 : x.size ≤ 160) (h2 : y.size ≤ 160) (h3 : z.size ≤ 160) (zx : gx = 0) (zy : gy = 12 ∨ gy = 21) : Calls Tryd.prog 3 #[.string x, .string y, .string z] w (Samed w true) := by
  rcases zy with zy | zy
  · exact rfield_bad1_12 x y z tx gx ty gy tz gz nx ny nz h1 h2 h3 zx zy
  · exact rfield_bad1_21 x y z tx gx ty gy tz gz nx ny nz h1 h2 h3 zx zy

set_option maxRecDepth 100000 in
set_option maxHeartbeats 8000000 in
theorem rfield_bad2_12 {w : World} (x y z : ByteArray) (tx : ByteArray) (gx : Int) (ty : ByteArray) (gy : Int) (tz : ByteArray) (gz : Int) (nx : ∀ w, Calls Tryd.prog 10 #[.string x] w fun e w' => e = .returned (.tuple #[.string tx, .int .i64 gx]) ∧ Below w.heap.size w w') (ny : ∀ w, Calls Tryd.prog 10 #[.string y] w fun e w' => e = .returned (.tuple #[.string ty, .int .i64 gy]) ∧ Below w.heap.size w w') (nz : ∀ w, Calls Tryd.prog 10 #[.string z] w fun e w' => e = .returned (.tuple #[.string tz, .int .i64 gz]) ∧ Below w.heap.size w w') (h1 : x.size ≤ 160) (h2 : y.size ≤ 160) (h3 : z.size ≤ 160) (zx : gx = 0) (zy : gy = 0) (zz : gz = 12) : Calls Tryd.prog 3 #[.string x, .string y, .string z] w (Samed w true) := by
  subst zx
  subst zy
  subst zz
  have HB := Below.refl w.heap.size w
  have HH := Lib.hid (And.intro h1 h2); clear h1 h2
  have zz : decide ((160 : Int) < (z.size : Int)) = false := decide_eq_false (by omega)
  replace nx := Lib.hid nx
  replace ny := Lib.hid ny
  replace nz := Lib.hid nz
  go_enter Tryd.func3, Tryd.ntmps3
  go_wp2_with fail
  refine (rhead_any _).mono ?_
  rintro e w1 ⟨rfl, hb⟩
  replace HB := onto HB hb
  clear hb
  go_wp2_with fail
  refine (great_no _ HH.out.1 HH.out.2).mono ?_
  rintro e w2 ⟨rfl, hb⟩
  replace HB := onto HB hb
  clear hb
  go_wp2_with fail
  refine (nx.out _).mono ?_
  rintro e w3 ⟨rfl, hb⟩
  replace HB := onto HB hb
  clear hb
  go_wp2_with fail
  refine (ny.out _).mono ?_
  rintro e w4 ⟨rfl, hb⟩
  replace HB := onto HB hb
  clear hb
  go_wp2_with fail
  refine (nz.out _).mono ?_
  rintro e w5 ⟨rfl, hb⟩
  replace HB := onto HB hb
  clear hb
  go_wp2
  go_ret
  exact ⟨rfl, HB⟩

set_option maxRecDepth 100000 in
set_option maxHeartbeats 8000000 in
theorem rfield_bad2_21 {w : World} (x y z : ByteArray) (tx : ByteArray) (gx : Int) (ty : ByteArray) (gy : Int) (tz : ByteArray) (gz : Int) (nx : ∀ w, Calls Tryd.prog 10 #[.string x] w fun e w' => e = .returned (.tuple #[.string tx, .int .i64 gx]) ∧ Below w.heap.size w w') (ny : ∀ w, Calls Tryd.prog 10 #[.string y] w fun e w' => e = .returned (.tuple #[.string ty, .int .i64 gy]) ∧ Below w.heap.size w w') (nz : ∀ w, Calls Tryd.prog 10 #[.string z] w fun e w' => e = .returned (.tuple #[.string tz, .int .i64 gz]) ∧ Below w.heap.size w w') (h1 : x.size ≤ 160) (h2 : y.size ≤ 160) (h3 : z.size ≤ 160) (zx : gx = 0) (zy : gy = 0) (zz : gz = 21) : Calls Tryd.prog 3 #[.string x, .string y, .string z] w (Samed w true) := by
  subst zx
  subst zy
  subst zz
  have HB := Below.refl w.heap.size w
  have HH := Lib.hid (And.intro h1 h2); clear h1 h2
  have zz : decide ((160 : Int) < (z.size : Int)) = false := decide_eq_false (by omega)
  replace nx := Lib.hid nx
  replace ny := Lib.hid ny
  replace nz := Lib.hid nz
  go_enter Tryd.func3, Tryd.ntmps3
  go_wp2_with fail
  refine (rhead_any _).mono ?_
  rintro e w1 ⟨rfl, hb⟩
  replace HB := onto HB hb
  clear hb
  go_wp2_with fail
  refine (great_no _ HH.out.1 HH.out.2).mono ?_
  rintro e w2 ⟨rfl, hb⟩
  replace HB := onto HB hb
  clear hb
  go_wp2_with fail
  refine (nx.out _).mono ?_
  rintro e w3 ⟨rfl, hb⟩
  replace HB := onto HB hb
  clear hb
  go_wp2_with fail
  refine (ny.out _).mono ?_
  rintro e w4 ⟨rfl, hb⟩
  replace HB := onto HB hb
  clear hb
  go_wp2_with fail
  refine (nz.out _).mono ?_
  rintro e w5 ⟨rfl, hb⟩
  replace HB := onto HB hb
  clear hb
  go_wp2
  go_ret
  exact ⟨rfl, HB⟩

theorem rfield_bad2 {w : World} (x y z : ByteArray) (tx : ByteArray) (gx : Int) (ty : ByteArray) (gy : Int) (tz : ByteArray) (gz : Int) (nx : ∀ w, Calls Tryd.prog 10 #[.string x] w fun e w' => e = .returned (.tuple #[.string tx, .int .i64 gx]) ∧ Below w.heap.size w w') (ny : ∀ w, Calls Tryd.prog 10 #[.string y] w fun e w' => e = .returned (.tuple #[.string ty, .int .i64 gy]) ∧ Below w.heap.size w w') (nz : ∀ w, Calls Tryd.prog 10 #[.string z] w fun e w' => e = .returned (.tuple #[.string tz, .int .i64 gz]) ∧ Below w.heap.size w w') (h1 : x.size ≤ 160) (h2 : y.size ≤ 160) (h3 : z.size ≤ 160) (zx : gx = 0) (zy : gy = 0) (zz : gz = 12 ∨ gz = 21) : Calls Tryd.prog 3 #[.string x, .string y, .string z] w (Samed w true) := by
  rcases zz with zz | zz
  · exact rfield_bad2_12 x y z tx gx ty gy tz gz nx ny nz h1 h2 h3 zx zy zz
  · exact rfield_bad2_21 x y z tx gx ty gy tz gz nx ny nz h1 h2 h3 zx zy zz

set_option maxRecDepth 100000 in
set_option maxHeartbeats 8000000 in
theorem rfield_zero {w : World} (x y z : ByteArray) (p q r : Rat) (nx : ∀ w, Calls Tryd.prog 10 #[.string x] w fun e w' => e = .returned (.tuple #[.string (T p), .int .i64 0]) ∧ Below w.heap.size w w') (ny : ∀ w, Calls Tryd.prog 10 #[.string y] w fun e w' => e = .returned (.tuple #[.string (T q), .int .i64 0]) ∧ Below w.heap.size w w') (nz : ∀ w, Calls Tryd.prog 10 #[.string z] w fun e w' => e = .returned (.tuple #[.string (T r), .int .i64 0]) ∧ Below w.heap.size w w') (hp : Size p 160 160) (hq : Size q 160 160) (hr : Size r 160 160) (h1 : x.size ≤ 160) (h2 : y.size ≤ 160) (h3 : z.size ≤ 160) (h0 : q = 0) : Calls Tryd.prog 3 #[.string x, .string y, .string z] w (Samed w true) := by
  have sp := hp
  have sq := hq
  have sr := hr
  have spq : Size (p + q) 321 320 := sp.add sq (by decide) (by decide) (by decide)
  have sqr : Size (q + r) 321 320 := sq.add sr (by decide) (by decide) (by decide)
  have spqr : Size (p + q + r) 482 480 := spq.add sr (by decide) (by decide) (by decide)
  have smpq : Size (p * q) 320 320 := sp.mul sq (by decide) (by decide)
  have smqr : Size (q * r) 320 320 := sq.mul sr (by decide) (by decide)
  have smpr : Size (p * r) 320 320 := sp.mul sr (by decide) (by decide)
  have smpqr : Size (p * q * r) 480 480 := smpq.mul sr (by decide) (by decide)
  have sd : Size (p * q + p * r) 641 640 := smpq.add smpr (by decide) (by decide) (by decide)
  have snp : Size (-p) 160 160 := sp.neg
  have gp := Lib.hid (sp.T (by decide) (by decide) (by decide))
  have gq := Lib.hid (sq.T (by decide) (by decide) (by decide))
  have gr := Lib.hid (sr.T (by decide) (by decide) (by decide))
  have gpq := Lib.hid (spq.T (by decide) (by decide) (by decide))
  have gqr := Lib.hid (sqr.T (by decide) (by decide) (by decide))
  have gpqr := Lib.hid (spqr.T (by decide) (by decide) (by decide))
  have gmpq := Lib.hid (smpq.T (by decide) (by decide) (by decide))
  have gmqr := Lib.hid (smqr.T (by decide) (by decide) (by decide))
  have gmpr := Lib.hid (smpr.T (by decide) (by decide) (by decide))
  have gmpqr := Lib.hid (smpqr.T (by decide) (by decide) (by decide))
  have gd := Lib.hid (sd.T (by decide) (by decide) (by decide))
  have gnp := Lib.hid (snp.T (by decide) (by decide) (by decide))
  clear sp sq sr spq sqr spqr smpq smqr smpr smpqr sd snp
  clear hp hq hr
  have hy := T_nought q
  rw [decide_eq_true h0] at hy
  have H0 := Lib.hid h0
  have e0 := Lib.hid nought_worth
  have e1 := Lib.hid one_worth
  have G0 := Lib.hid nought_good
  have G1 := Lib.hid one_good
  clear h0
  have HB := Below.refl w.heap.size w
  have HH := Lib.hid (And.intro h1 h2); clear h1 h2
  have zz : decide ((160 : Int) < (z.size : Int)) = false := decide_eq_false (by omega)
  replace nx := Lib.hid nx
  replace ny := Lib.hid ny
  replace nz := Lib.hid nz
  go_enter Tryd.func3, Tryd.ntmps3
  go_wp2_with fail
  refine (rhead_any _).mono ?_
  rintro e w1 ⟨rfl, hb⟩
  replace HB := onto HB hb
  clear hb
  go_wp2_with fail
  refine (great_no _ HH.out.1 HH.out.2).mono ?_
  rintro e w2 ⟨rfl, hb⟩
  replace HB := onto HB hb
  clear hb
  go_wp2_with fail
  refine (nx.out _).mono ?_
  rintro e w3 ⟨rfl, hb⟩
  replace HB := onto HB hb
  clear hb
  go_wp2_with fail
  refine (ny.out _).mono ?_
  rintro e w4 ⟨rfl, hb⟩
  replace HB := onto HB hb
  clear hb
  go_wp2_with fail
  refine (nz.out _).mono ?_
  rintro e w5 ⟨rfl, hb⟩
  replace HB := onto HB hb
  clear hb
  go_wp2_with fail
  refine (plus_to (a := T p) (b := T q) (u := T (p + q)) _ gp.out gq.out gpq.out (by simp only [T_worth] <;> grind)).mono ?_
  rintro e w6 ⟨rfl, hb⟩
  replace HB := onto HB hb
  clear hb
  go_wp2_with fail
  refine (plus_to (a := T q) (b := T p) (u := T (p + q)) _ gq.out gp.out gpq.out (by simp only [T_worth] <;> grind)).mono ?_
  rintro e w7 ⟨rfl, hb⟩
  replace HB := onto HB hb
  clear hb
  go_wp2_with fail
  refine (times_to (a := T p) (b := T q) (u := T (p * q)) _ gp.out gq.out gmpq.out (by simp only [T_worth] <;> grind)).mono ?_
  rintro e w8 ⟨rfl, hb⟩
  replace HB := onto HB hb
  clear hb
  go_wp2_with fail
  refine (times_to (a := T q) (b := T p) (u := T (p * q)) _ gq.out gp.out gmpq.out (by simp only [T_worth] <;> grind)).mono ?_
  rintro e w9 ⟨rfl, hb⟩
  replace HB := onto HB hb
  clear hb
  go_wp2_with fail
  refine (plus_to (a := T p) (b := T q) (u := T (p + q)) _ gp.out gq.out gpq.out (by simp only [T_worth] <;> grind)).mono ?_
  rintro e w10 ⟨rfl, hb⟩
  replace HB := onto HB hb
  clear hb
  go_wp2_with fail
  refine (plus_to (a := T (p + q)) (b := T r) (u := T (p + q + r)) _ gpq.out gr.out gpqr.out (by simp only [T_worth] <;> grind)).mono ?_
  rintro e w11 ⟨rfl, hb⟩
  replace HB := onto HB hb
  clear hb
  go_wp2_with fail
  refine (plus_to (a := T q) (b := T r) (u := T (q + r)) _ gq.out gr.out gqr.out (by simp only [T_worth] <;> grind)).mono ?_
  rintro e w12 ⟨rfl, hb⟩
  replace HB := onto HB hb
  clear hb
  go_wp2_with fail
  refine (plus_to (a := T p) (b := T (q + r)) (u := T (p + q + r)) _ gp.out gqr.out gpqr.out (by simp only [T_worth] <;> grind)).mono ?_
  rintro e w13 ⟨rfl, hb⟩
  replace HB := onto HB hb
  clear hb
  go_wp2_with fail
  refine (times_to (a := T p) (b := T q) (u := T (p * q)) _ gp.out gq.out gmpq.out (by simp only [T_worth] <;> grind)).mono ?_
  rintro e w14 ⟨rfl, hb⟩
  replace HB := onto HB hb
  clear hb
  go_wp2_with fail
  refine (times_to (a := T (p * q)) (b := T r) (u := T (p * q * r)) _ gmpq.out gr.out gmpqr.out (by simp only [T_worth] <;> grind)).mono ?_
  rintro e w15 ⟨rfl, hb⟩
  replace HB := onto HB hb
  clear hb
  go_wp2_with fail
  refine (times_to (a := T q) (b := T r) (u := T (q * r)) _ gq.out gr.out gmqr.out (by simp only [T_worth] <;> grind)).mono ?_
  rintro e w16 ⟨rfl, hb⟩
  replace HB := onto HB hb
  clear hb
  go_wp2_with fail
  refine (times_to (a := T p) (b := T (q * r)) (u := T (p * q * r)) _ gp.out gmqr.out gmpqr.out (by simp only [T_worth] <;> grind)).mono ?_
  rintro e w17 ⟨rfl, hb⟩
  replace HB := onto HB hb
  clear hb
  go_wp2_with fail
  refine (plus_to (a := T q) (b := T r) (u := T (q + r)) _ gq.out gr.out gqr.out (by simp only [T_worth] <;> grind)).mono ?_
  rintro e w18 ⟨rfl, hb⟩
  replace HB := onto HB hb
  clear hb
  go_wp2_with fail
  refine (times_to (a := T p) (b := T (q + r)) (u := T (p * q + p * r)) _ gp.out gqr.out gd.out (by simp only [T_worth] <;> grind)).mono ?_
  rintro e w19 ⟨rfl, hb⟩
  replace HB := onto HB hb
  clear hb
  go_wp2_with fail
  refine (times_to (a := T p) (b := T q) (u := T (p * q)) _ gp.out gq.out gmpq.out (by simp only [T_worth] <;> grind)).mono ?_
  rintro e w20 ⟨rfl, hb⟩
  replace HB := onto HB hb
  clear hb
  go_wp2_with fail
  refine (times_to (a := T p) (b := T r) (u := T (p * r)) _ gp.out gr.out gmpr.out (by simp only [T_worth] <;> grind)).mono ?_
  rintro e w21 ⟨rfl, hb⟩
  replace HB := onto HB hb
  clear hb
  go_wp2_with fail
  refine (plus_to (a := T (p * q)) (b := T (p * r)) (u := T (p * q + p * r)) _ gmpq.out gmpr.out gd.out (by simp only [T_worth] <;> grind)).mono ?_
  rintro e w22 ⟨rfl, hb⟩
  replace HB := onto HB hb
  clear hb
  go_wp2_with fail
  refine (plus_to (a := T p) (b := T q) (u := T (p + q)) _ gp.out gq.out gpq.out (by simp only [T_worth] <;> grind)).mono ?_
  rintro e w23 ⟨rfl, hb⟩
  replace HB := onto HB hb
  clear hb
  go_wp2_with fail
  refine (sub_to (a := T (p + q)) (b := T q) (u := T p) _ gpq.out gq.out gp.out (by simp only [T_worth] <;> grind)).mono ?_
  rintro e w24 ⟨rfl, hb⟩
  replace HB := onto HB hb
  clear hb
  go_wp2_with fail
  refine (times_to (a := T p) (b := T q) (u := T (p * q)) _ gp.out gq.out gmpq.out (by simp only [T_worth] <;> grind)).mono ?_
  rintro e w25 ⟨rfl, hb⟩
  replace HB := onto HB hb
  clear hb
  go_wp2_with fail
  refine (div_zero (a := T (p * q)) (b := T q) _ gmpq.out gq.out (by rw [T_worth]; exact H0.out)).mono ?_
  rintro e w26 ⟨rfl, hb⟩
  replace HB := onto HB hb
  clear hb
  go_wp2_with fail
  refine (neg_to (a := T p) (u := T (-p)) _ gp.out gnp.out (by simp only [T_worth])).mono ?_
  rintro e w27 ⟨rfl, hb⟩
  replace HB := onto HB hb
  clear hb
  go_wp2_with fail
  refine (plus_to (a := T p) (b := T (-p)) (u := ⟨#[48]⟩) _ gp.out gnp.out G0.out (by rw [T_worth, T_worth]; refine Eq.trans ?_ e0.out.symm; grind)).mono ?_
  rintro e w28 ⟨rfl, hb⟩
  replace HB := onto HB hb
  clear hb
  go_wp2_with fail
  refine (plus_to (a := T p) (b := ⟨#[48]⟩) (u := T p) _ gp.out G0.out gp.out (by rw [T_worth, show worth (by0 ⟨#[48]⟩) = 0 from e0.out]; grind)).mono ?_
  rintro e w29 ⟨rfl, hb⟩
  replace HB := onto HB hb
  clear hb
  go_wp2_with fail
  refine (times_to (a := T p) (b := ⟨#[49]⟩) (u := T p) _ gp.out G1.out gp.out (by rw [T_worth, show worth (by0 ⟨#[49]⟩) = 1 from e1.out]; grind)).mono ?_
  rintro e w30 ⟨rfl, hb⟩
  replace HB := onto HB hb
  clear hb
  go_wp2
  go_ret
  exact ⟨rfl, HB⟩

set_option maxRecDepth 100000 in
set_option maxHeartbeats 8000000 in
theorem rfield_ok {w : World} (x y z : ByteArray) (p q r : Rat) (nx : ∀ w, Calls Tryd.prog 10 #[.string x] w fun e w' => e = .returned (.tuple #[.string (T p), .int .i64 0]) ∧ Below w.heap.size w w') (ny : ∀ w, Calls Tryd.prog 10 #[.string y] w fun e w' => e = .returned (.tuple #[.string (T q), .int .i64 0]) ∧ Below w.heap.size w w') (nz : ∀ w, Calls Tryd.prog 10 #[.string z] w fun e w' => e = .returned (.tuple #[.string (T r), .int .i64 0]) ∧ Below w.heap.size w w') (hp : Size p 160 160) (hq : Size q 160 160) (hr : Size r 160 160) (h1 : x.size ≤ 160) (h2 : y.size ≤ 160) (h3 : z.size ≤ 160) (h0 : q ≠ 0) : Calls Tryd.prog 3 #[.string x, .string y, .string z] w (Samed w true) := by
  have sp := hp
  have sq := hq
  have sr := hr
  have spq : Size (p + q) 321 320 := sp.add sq (by decide) (by decide) (by decide)
  have sqr : Size (q + r) 321 320 := sq.add sr (by decide) (by decide) (by decide)
  have spqr : Size (p + q + r) 482 480 := spq.add sr (by decide) (by decide) (by decide)
  have smpq : Size (p * q) 320 320 := sp.mul sq (by decide) (by decide)
  have smqr : Size (q * r) 320 320 := sq.mul sr (by decide) (by decide)
  have smpr : Size (p * r) 320 320 := sp.mul sr (by decide) (by decide)
  have smpqr : Size (p * q * r) 480 480 := smpq.mul sr (by decide) (by decide)
  have sd : Size (p * q + p * r) 641 640 := smpq.add smpr (by decide) (by decide) (by decide)
  have snp : Size (-p) 160 160 := sp.neg
  have gp := Lib.hid (sp.T (by decide) (by decide) (by decide))
  have gq := Lib.hid (sq.T (by decide) (by decide) (by decide))
  have gr := Lib.hid (sr.T (by decide) (by decide) (by decide))
  have gpq := Lib.hid (spq.T (by decide) (by decide) (by decide))
  have gqr := Lib.hid (sqr.T (by decide) (by decide) (by decide))
  have gpqr := Lib.hid (spqr.T (by decide) (by decide) (by decide))
  have gmpq := Lib.hid (smpq.T (by decide) (by decide) (by decide))
  have gmqr := Lib.hid (smqr.T (by decide) (by decide) (by decide))
  have gmpr := Lib.hid (smpr.T (by decide) (by decide) (by decide))
  have gmpqr := Lib.hid (smpqr.T (by decide) (by decide) (by decide))
  have gd := Lib.hid (sd.T (by decide) (by decide) (by decide))
  have gnp := Lib.hid (snp.T (by decide) (by decide) (by decide))
  clear sp sq sr spq sqr spqr smpq smqr smpr smpqr sd snp
  clear hp hq hr
  have hy := T_nought q
  rw [decide_eq_false h0] at hy
  have H0 := Lib.hid h0
  have e0 := Lib.hid nought_worth
  have e1 := Lib.hid one_worth
  have G0 := Lib.hid nought_good
  have G1 := Lib.hid one_good
  clear h0
  have HB := Below.refl w.heap.size w
  have HH := Lib.hid (And.intro h1 h2); clear h1 h2
  have zz : decide ((160 : Int) < (z.size : Int)) = false := decide_eq_false (by omega)
  replace nx := Lib.hid nx
  replace ny := Lib.hid ny
  replace nz := Lib.hid nz
  go_enter Tryd.func3, Tryd.ntmps3
  go_wp2_with fail
  refine (rhead_any _).mono ?_
  rintro e w1 ⟨rfl, hb⟩
  replace HB := onto HB hb
  clear hb
  go_wp2_with fail
  refine (great_no _ HH.out.1 HH.out.2).mono ?_
  rintro e w2 ⟨rfl, hb⟩
  replace HB := onto HB hb
  clear hb
  go_wp2_with fail
  refine (nx.out _).mono ?_
  rintro e w3 ⟨rfl, hb⟩
  replace HB := onto HB hb
  clear hb
  go_wp2_with fail
  refine (ny.out _).mono ?_
  rintro e w4 ⟨rfl, hb⟩
  replace HB := onto HB hb
  clear hb
  go_wp2_with fail
  refine (nz.out _).mono ?_
  rintro e w5 ⟨rfl, hb⟩
  replace HB := onto HB hb
  clear hb
  go_wp2_with fail
  refine (plus_to (a := T p) (b := T q) (u := T (p + q)) _ gp.out gq.out gpq.out (by simp only [T_worth] <;> grind)).mono ?_
  rintro e w6 ⟨rfl, hb⟩
  replace HB := onto HB hb
  clear hb
  go_wp2_with fail
  refine (plus_to (a := T q) (b := T p) (u := T (p + q)) _ gq.out gp.out gpq.out (by simp only [T_worth] <;> grind)).mono ?_
  rintro e w7 ⟨rfl, hb⟩
  replace HB := onto HB hb
  clear hb
  go_wp2_with fail
  refine (times_to (a := T p) (b := T q) (u := T (p * q)) _ gp.out gq.out gmpq.out (by simp only [T_worth] <;> grind)).mono ?_
  rintro e w8 ⟨rfl, hb⟩
  replace HB := onto HB hb
  clear hb
  go_wp2_with fail
  refine (times_to (a := T q) (b := T p) (u := T (p * q)) _ gq.out gp.out gmpq.out (by simp only [T_worth] <;> grind)).mono ?_
  rintro e w9 ⟨rfl, hb⟩
  replace HB := onto HB hb
  clear hb
  go_wp2_with fail
  refine (plus_to (a := T p) (b := T q) (u := T (p + q)) _ gp.out gq.out gpq.out (by simp only [T_worth] <;> grind)).mono ?_
  rintro e w10 ⟨rfl, hb⟩
  replace HB := onto HB hb
  clear hb
  go_wp2_with fail
  refine (plus_to (a := T (p + q)) (b := T r) (u := T (p + q + r)) _ gpq.out gr.out gpqr.out (by simp only [T_worth] <;> grind)).mono ?_
  rintro e w11 ⟨rfl, hb⟩
  replace HB := onto HB hb
  clear hb
  go_wp2_with fail
  refine (plus_to (a := T q) (b := T r) (u := T (q + r)) _ gq.out gr.out gqr.out (by simp only [T_worth] <;> grind)).mono ?_
  rintro e w12 ⟨rfl, hb⟩
  replace HB := onto HB hb
  clear hb
  go_wp2_with fail
  refine (plus_to (a := T p) (b := T (q + r)) (u := T (p + q + r)) _ gp.out gqr.out gpqr.out (by simp only [T_worth] <;> grind)).mono ?_
  rintro e w13 ⟨rfl, hb⟩
  replace HB := onto HB hb
  clear hb
  go_wp2_with fail
  refine (times_to (a := T p) (b := T q) (u := T (p * q)) _ gp.out gq.out gmpq.out (by simp only [T_worth] <;> grind)).mono ?_
  rintro e w14 ⟨rfl, hb⟩
  replace HB := onto HB hb
  clear hb
  go_wp2_with fail
  refine (times_to (a := T (p * q)) (b := T r) (u := T (p * q * r)) _ gmpq.out gr.out gmpqr.out (by simp only [T_worth] <;> grind)).mono ?_
  rintro e w15 ⟨rfl, hb⟩
  replace HB := onto HB hb
  clear hb
  go_wp2_with fail
  refine (times_to (a := T q) (b := T r) (u := T (q * r)) _ gq.out gr.out gmqr.out (by simp only [T_worth] <;> grind)).mono ?_
  rintro e w16 ⟨rfl, hb⟩
  replace HB := onto HB hb
  clear hb
  go_wp2_with fail
  refine (times_to (a := T p) (b := T (q * r)) (u := T (p * q * r)) _ gp.out gmqr.out gmpqr.out (by simp only [T_worth] <;> grind)).mono ?_
  rintro e w17 ⟨rfl, hb⟩
  replace HB := onto HB hb
  clear hb
  go_wp2_with fail
  refine (plus_to (a := T q) (b := T r) (u := T (q + r)) _ gq.out gr.out gqr.out (by simp only [T_worth] <;> grind)).mono ?_
  rintro e w18 ⟨rfl, hb⟩
  replace HB := onto HB hb
  clear hb
  go_wp2_with fail
  refine (times_to (a := T p) (b := T (q + r)) (u := T (p * q + p * r)) _ gp.out gqr.out gd.out (by simp only [T_worth] <;> grind)).mono ?_
  rintro e w19 ⟨rfl, hb⟩
  replace HB := onto HB hb
  clear hb
  go_wp2_with fail
  refine (times_to (a := T p) (b := T q) (u := T (p * q)) _ gp.out gq.out gmpq.out (by simp only [T_worth] <;> grind)).mono ?_
  rintro e w20 ⟨rfl, hb⟩
  replace HB := onto HB hb
  clear hb
  go_wp2_with fail
  refine (times_to (a := T p) (b := T r) (u := T (p * r)) _ gp.out gr.out gmpr.out (by simp only [T_worth] <;> grind)).mono ?_
  rintro e w21 ⟨rfl, hb⟩
  replace HB := onto HB hb
  clear hb
  go_wp2_with fail
  refine (plus_to (a := T (p * q)) (b := T (p * r)) (u := T (p * q + p * r)) _ gmpq.out gmpr.out gd.out (by simp only [T_worth] <;> grind)).mono ?_
  rintro e w22 ⟨rfl, hb⟩
  replace HB := onto HB hb
  clear hb
  go_wp2_with fail
  refine (plus_to (a := T p) (b := T q) (u := T (p + q)) _ gp.out gq.out gpq.out (by simp only [T_worth] <;> grind)).mono ?_
  rintro e w23 ⟨rfl, hb⟩
  replace HB := onto HB hb
  clear hb
  go_wp2_with fail
  refine (sub_to (a := T (p + q)) (b := T q) (u := T p) _ gpq.out gq.out gp.out (by simp only [T_worth] <;> grind)).mono ?_
  rintro e w24 ⟨rfl, hb⟩
  replace HB := onto HB hb
  clear hb
  go_wp2_with fail
  refine (times_to (a := T p) (b := T q) (u := T (p * q)) _ gp.out gq.out gmpq.out (by simp only [T_worth] <;> grind)).mono ?_
  rintro e w25 ⟨rfl, hb⟩
  replace HB := onto HB hb
  clear hb
  go_wp2_with fail
  refine (div_to (a := T (p * q)) (b := T q) (u := T p) _ gmpq.out gq.out gp.out (by rw [T_worth]; exact H0.out) (by simp only [T_worth]; exact Rat.mul_div_cancel H0.out)).mono ?_
  rintro e w26 ⟨rfl, hb⟩
  replace HB := onto HB hb
  clear hb
  go_wp2_with fail
  refine (neg_to (a := T p) (u := T (-p)) _ gp.out gnp.out (by simp only [T_worth])).mono ?_
  rintro e w27 ⟨rfl, hb⟩
  replace HB := onto HB hb
  clear hb
  go_wp2_with fail
  refine (plus_to (a := T p) (b := T (-p)) (u := ⟨#[48]⟩) _ gp.out gnp.out G0.out (by rw [T_worth, T_worth]; refine Eq.trans ?_ e0.out.symm; grind)).mono ?_
  rintro e w28 ⟨rfl, hb⟩
  replace HB := onto HB hb
  clear hb
  go_wp2_with fail
  refine (plus_to (a := T p) (b := ⟨#[48]⟩) (u := T p) _ gp.out G0.out gp.out (by rw [T_worth, show worth (by0 ⟨#[48]⟩) = 0 from e0.out]; grind)).mono ?_
  rintro e w29 ⟨rfl, hb⟩
  replace HB := onto HB hb
  clear hb
  go_wp2_with fail
  refine (times_to (a := T p) (b := ⟨#[49]⟩) (u := T p) _ gp.out G1.out gp.out (by rw [T_worth, show worth (by0 ⟨#[49]⟩) = 1 from e1.out]; grind)).mono ?_
  rintro e w30 ⟨rfl, hb⟩
  replace HB := onto HB hb
  clear hb
  go_wp2
  go_ret
  exact ⟨rfl, HB⟩

theorem rfield_law {w : World} (x y z : ByteArray) : Calls Tryd.prog 3 #[.string x, .string y, .string z] w (Samed w true) := by
  by_cases h : 160 < x.size ∨ 160 < y.size
  · exact rfield_great x y z h
  · have h1 : x.size ≤ 160 := by omega
    have h2 : y.size ≤ 160 := by omega
    by_cases h3 : 160 < z.size
    · exact rfield_great3 x y z h1 h2 h3
    · have h3 : z.size ≤ 160 := by omega
      obtain ⟨tx, gx, nx, hx⟩ := norm_short h1
      obtain ⟨ty, gy, ny, hy⟩ := norm_short h2
      obtain ⟨tz, gz, nz, hz⟩ := norm_short h3
      rcases hx with ⟨bx, -, -⟩ | ⟨bx, ex, sx, -, -⟩
      · exact rfield_bad0 x y z tx gx ty gy tz gz nx ny nz h1 h2 h3 bx
      · rcases hy with ⟨by1, -, -⟩ | ⟨by1, ey, sy, -, -⟩
        · exact rfield_bad1 x y z tx gx ty gy tz gz nx ny nz h1 h2 h3 bx by1
        · rcases hz with ⟨bz, -, -⟩ | ⟨bz, ez, sz, -, -⟩
          · exact rfield_bad2 x y z tx gx ty gy tz gz nx ny nz h1 h2 h3 bx by1 bz
          · subst bx by1 bz ex ey ez
            by_cases h0 : worth (by0 y) = 0
            · exact rfield_zero x y z _ _ _ nx ny nz sx sy sz h1 h2 h3 h0
            · exact rfield_ok x y z _ _ _ nx ny nz sx sy sz h1 h2 h3 h0

end Go.Proofs.YtepacminjfeliaaDoor
