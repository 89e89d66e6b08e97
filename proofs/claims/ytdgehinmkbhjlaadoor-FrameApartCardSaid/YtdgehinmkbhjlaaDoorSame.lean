/-
  The document's Same, by contract.
-/
import Derived.Test.YtdgehinmkbhjlaaDoorRdec
import Derived.Test.YtdgehinmkbhjlaaDoorTxt
namespace Go.Proofs.YtdgehinmkbhjlaaDoor
open Go.RowKit

theorem same_any (c q c' q' : Int) (u v : Value) (xs ys : List (BitVec 8)) (w : World) (hu : Byts w u xs) (hv : Byts w v ys) (b : Bool) (hb : b = decide (c = c' ∧ q = q' ∧ xs = ys)) :
    Calls Tryd.prog 15 #[.agg #[.int .i64 c, .int .i64 q, u], .agg #[.int .i64 c', .int .i64 q', v]] w fun e w' => e = .returned (.bool b) ∧ Below w.heap.size w w' := by
  have hB : Below w.heap.size w ((w.alloc (.cells #[.int .i64 c, .int .i64 q, u] 24)).alloc (.cells #[.int .i64 c', .int .i64 q', v] 24)) := below_alloc (below_alloc (Below.refl _ w) _) _
  have c1 := txt_run _ _ _ (hu.below hB)
  have c2 := txt_run _ _ _ (hv.below hB)
  obtain ⟨ax, cx, rfl⟩ := hu.len
  obtain ⟨ay, cy, rfl⟩ := hv.len
  have HB := Lib.hid hB
  have HBB := Lib.hid hb
  clear hB hu hv hb
  by_cases h1 : c = c'
  · have q1 : (c == c') = true := by simpa using h1
    by_cases h2 : q = q'
    · have q2 : (q == q') = true := by simpa using h2
      by_cases h3 : xs = ys
      · obtain rfl : b = true := by rw [HBB.out]; simp [h1, h2, h3]
        subst h1 h2 h3
        have q3 := txt_same xs
        go_enter Tryd.func15, Tryd.ntmps15
        go_wp2_with fail
        go_ret
        exact ⟨rfl, HB.out⟩
      · obtain rfl : b = false := by rw [HBB.out]; simp [h3]
        have q3 := txt_other h3
        clear h3
        subst h1 h2
        go_enter Tryd.func15, Tryd.ntmps15
        go_wp2_with fail
        go_ret
        exact ⟨rfl, HB.out⟩
    · obtain rfl : b = false := by rw [HBB.out]; simp [h2]
      have q2 : (q == q') = false := by simpa using h2
      subst h1
      clear h2
      go_enter Tryd.func15, Tryd.ntmps15
      go_wp2_with fail
      go_ret
      exact ⟨rfl, HB.out⟩
  · obtain rfl : b = false := by rw [HBB.out]; simp [h1]
    have q1 : (c == c') = false := by simpa using h1
    clear h1
    go_enter Tryd.func15, Tryd.ntmps15
    go_wp2_with fail
    go_ret
    exact ⟨rfl, HB.out⟩
end Go.Proofs.YtdgehinmkbhjlaaDoor
