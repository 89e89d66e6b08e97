/-
  Counters of axles as numbers: how far one is ahead of another, one step.
-/
import Derived.Test.YtgkihalokedmaaaCore
namespace Go.Proofs.Ytgkihalokedmaaa
open Go.RowKit

/-- Counters. -/
structure Ax where
  had : Bool
  i : Int
  o : Int
  wrong : Bool
/-- Their cells. -/
abbrev axv (a : Ax) : Array Value := #[.bool a.had, .int .i64 a.i, .int .i64 a.o, .bool a.wrong]
/-- How far x is ahead of y. -/
def ahd (x y : Int) : Int := (x - y) % 256
theorem ahd_range (x y : Int) : 0 ≤ ahd x y ∧ ahd x y ≤ 255 := by unfold ahd; omega
theorem ahd_mod_left (x y : Int) : ahd (x % 256) y = ahd x y := by unfold ahd; omega
theorem ahd_mod_right (x y : Int) : ahd x (y % 256) = ahd x y := by unfold ahd; omega
theorem ahd_self (x : Int) : ahd x x = 0 := by unfold ahd; omega
/-- Wrong behind one more step. -/
def wrg (had : Bool) (i o : Int) (wrong : Bool) (x y : Int) : Bool := wrong || (had && (decide (64 < ahd x i) || decide (64 < ahd y o))) || decide (127 < ahd x y)
/-- The counters behind one more step. -/
def stx (a : Ax) (x y : Int) : Ax := ⟨true, x % 256, y % 256, wrg a.had a.i a.o a.wrong x y⟩
/-- Is the track clear? -/
def clr (had : Bool) (i o : Int) (wrong : Bool) : Bool := had && !wrong && decide (ahd i o = 0)
/-- Wrong behind a reset. -/
def rst (i o : Int) (wrong : Bool) : Bool := wrong && decide (ahd i o ≠ 0)

theorem and255 (x : Int) : bits .and .i64 x 255 = x % 256 := by
  show IntKind.i64.wrap ((BitVec.ofInt 64 x &&& BitVec.ofInt 64 255).toNat : Int) = _
  have h1 : (BitVec.ofInt 64 x &&& BitVec.ofInt 64 255).toNat = (BitVec.ofInt 64 x).toNat % 256 := by
    rw [BitVec.toNat_and]
    exact Nat.and_two_pow_sub_one_eq_mod _ 8
  rw [h1, BitVec.toNat_ofInt, IntKind.wrap_i64]
  simp
  omega
theorem wrap_256 (x : Int) : IntKind.i64.wrap x % 256 = x % 256 := by rw [IntKind.wrap_i64]; omega
/-- The difference, as the walk meets it. -/
theorem ahd_and (x y : Int) : ∃ z, IntKind.i64.wrap (x - y) = z ∧ bits .and .i64 z 255 = ahd x y := ⟨_, rfl, by rw [and255, wrap_256]; rfl⟩
end Go.Proofs.Ytgkihalokedmaaa
