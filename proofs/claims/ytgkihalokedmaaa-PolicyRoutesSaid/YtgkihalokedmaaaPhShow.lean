/-
  Enter and Lights by contracts.
-/
import Derived.Test.YtgkihalokedmaaaBlk
namespace Go.Proofs.Ytgkihalokedmaaa
open Go.RowKit

theorem enter_to (p q : Int) (hq : q = if 0 ≤ p ∧ p ≤ 7 then p else 7) (w : World) : Calls Try.prog 16 #[.int .i64 p] w fun e w' => e = .returned (.agg #[.int .i64 q, .int .i64 1]) ∧ Below w.heap.size w w' := by
  have HB := Lib.hid (fun u : Value => below_alloc (Below.refl _ w) (.cells #[u, .int .i64 1] 29))
  have HZ := blk_new w #[.int .i64 0, .int .i64 0] 29
  obtain ⟨z0, z1⟩ := box2 HZ
  have z2 := HZ.frz 0
  have z3 := HZ.frz 1
  clear HZ
  rcases (show (p < 0 ∧ q = 7) ∨ (¬ p < 0 ∧ 7 < p ∧ q = 7) ∨ (¬ p < 0 ∧ ¬ 7 < p ∧ q = p) by split at hq <;> omega) with ⟨h1, rfl⟩ | ⟨h1, h2, rfl⟩ | ⟨h1, h2, rfl⟩
  all_goals
    clear hq
    go_enter Try.func16, Try.ntmps16
    go_wp2_with fail
    (try simp only [Exit.inBlock, Exit.then])
    refine bodyPost_ret ?_ rfl ⟨rfl, HB.out _⟩
    rw [results_cell1 rfl]
    go_simp
/-- What the road is shown in a phase. -/
def phAm (p : Int) : Bool := decide (p = 1)
def phRed (p : Int) : Bool := decide (¬ p = 0 ∧ ¬ p = 1)
def phBell (p : Int) : Bool := decide (¬ p = 0 ∧ ¬ p = 5 ∧ ¬ p = 6)
def phEn (p : Int) : Bool := decide (¬ p = 0 ∧ ¬ p = 1 ∧ ¬ p = 2 ∧ ¬ p = 6)
def phEx (p : Int) : Bool := decide (¬ p = 0 ∧ ¬ p = 1 ∧ ¬ p = 2 ∧ ¬ p = 3 ∧ ¬ p = 6)
set_option maxHeartbeats 4000000 in
theorem lights_to (p s : Int) (am re be en ex : Bool) (h0 : phAm p = am) (h1 : phRed p = re) (h2 : phBell p = be) (h3 : phEn p = en) (h4 : phEx p = ex) (w : World) : Calls Try.prog 14 #[.agg #[.int .i64 p, .int .i64 s]] w fun e w' => e = .returned (.agg #[.bool am, .bool re, .bool be, .bool en, .bool ex]) ∧ Below w.heap.size w w' := by
  have HB := Lib.hid (fun u : Array Value => below_alloc (below_alloc (Below.refl _ w) (.cells #[.int .i64 p, .int .i64 s] 29)) (.cells u 46))
  have b1 := (blk_new w #[.int .i64 p, .int .i64 s] 29).below (below_alloc (Below.refl _ (w.alloc (.cells #[.int .i64 p, .int .i64 s] 29))) (.cells #[.bool false, .bool false, .bool false, .bool false, .bool false] 46))
  obtain ⟨x0, x1⟩ := box2 b1
  clear b1
  have hcs : p = 0 ∨ p = 1 ∨ p = 2 ∨ p = 3 ∨ p = 5 ∨ p = 6 ∨ (¬ p = 0 ∧ ¬ p = 1 ∧ ¬ p = 2 ∧ ¬ p = 3 ∧ ¬ p = 5 ∧ ¬ p = 6) := by omega
  rcases hcs with rfl | rfl | rfl | rfl | rfl | rfl | ⟨g0, g1, g2, g3, g5, g6⟩
  all_goals
    try have e0 : (p == 0) = false := by simpa using g0
    try have e1 : (p == 1) = false := by simpa using g1
    try have e2 : (p == 2) = false := by simpa using g2
    try have e3 : (p == 3) = false := by simpa using g3
    try have e5 : (p == 5) = false := by simpa using g5
    try have e6 : (p == 6) = false := by simpa using g6
    unfold phAm at h0
    unfold phRed at h1
    unfold phBell at h2
    unfold phEn at h3
    unfold phEx at h4
    simp [*] at h0 h1 h2 h3 h4
    subst h0 h1 h2 h3 h4
    go_enter Try.func14, Try.ntmps14
    go_wp2_with fail
    (try simp only [Exit.inBlock, Exit.then])
    refine bodyPost_ret ?_ rfl ⟨rfl, HB.out _⟩
    rw [results_cell1 rfl]
    go_simp
end Go.Proofs.Ytgkihalokedmaaa
