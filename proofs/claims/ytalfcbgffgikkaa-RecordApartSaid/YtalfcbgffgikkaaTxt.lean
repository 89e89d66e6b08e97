/-
  Two rows of bytes are the same just when their texts are.
-/
import Derived.Test.YtalfcbgffgikkaaBytes
import Derived.MapKept
import Derived.Laws.StructEq
namespace Go.Proofs.Ytalfcbgffgikkaa
open Go.RowKit

theorem txt_inj {xs ys : List (BitVec 8)} (h : txt xs = txt ys) : xs = ys := by
  have h1 := congrArg (fun s => s.data.toList) h
  simp only [txt, strOfNums_data, List.map_map] at h1
  refine (List.map_inj_right ?_).1 h1
  intro x y hxy
  have h2 := congrArg UInt8.toNat hxy
  simp at h2
  have := x.isLt
  have := y.isLt
  exact BitVec.eq_of_toNat_eq (by omega)
theorem txt_same (xs : List (BitVec 8)) : ((txt xs).toList == (txt xs).toList) = true := by simp
theorem txt_other {xs ys : List (BitVec 8)} (h : xs ≠ ys) : ((txt xs).toList == (txt ys).toList) = false := by
  rw [← beq_toListBytes]
  cases hb : (txt xs == txt ys) with
  | false => rfl
  | true => exact absurd (txt_inj ((Go.MapKept.bytes_beq _ _).1 hb)) h
end Go.Proofs.Ytalfcbgffgikkaa
