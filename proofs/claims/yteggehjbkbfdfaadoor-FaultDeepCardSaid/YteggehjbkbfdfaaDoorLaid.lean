/-
  What the listed package variables give a walk: errors.errorType's handle; strconv's table, and so every number's numeral. A world that holds them, for the witnesses. And what the bound of the second form gives.
-/
import Derived.Test.YteggehjbkbfdfaaDoorCards
import Derived.Test.YteggehjbkbfdfaaDoorTie
import Derived.Test.YteggehjbkbfdfaaDoorFrame
import Derived.Test.YteggehjbkbfdfaaDoorRefText
import Derived.Lib.LaidTab
namespace Go.Proofs.YteggehjbkbfdfaaDoor
open Go.ChangeShapes Go.WideShapes Go.ChangeAt Go.RowKit

theorem gET : Tryd.prog.globalNamed "errors.errorType" = some 0 := by kernel_rfl
theorem gRT : (Tryd.prog.cutTypes.find? (·.1 == "internal/reflectlite.rtype")).map (·.2) = some 70 := by kernel_rfl
theorem oneRow : ((List.range (243 - 100)).filter fun t => Tryd.prog.rowNamed t [101, 114, 114, 111, 114]) = [26] := by kernel_rfl
theorem typesSize : Tryd.prog.types.size = 243 - 100 := by kernel_rfl
theorem errHandle : typeHandle Tryd.prog 26 = .pointer (some ⟨5, 26, none⟩) := by kernel_rfl

theorem errType_of {W : World} {laid : List (String × DataW Unit)} (h : handlesMet Tryd.prog laid W) (hm : ("errors.errorType", Rows.laid_errors_errorType) ∈ laid) : ErrType W := by
  obtain ⟨name, u, ty, e1, e2, e3, e4, e5⟩ := h _ hm
  have en : name = [101, 114, 114, 111, 114] := (Option.some.inj e1).symm
  subst en
  obtain rfl := Option.some.inj (gRT.symm.trans e2)
  have hmem : ty ∈ (List.range (243 - 100)).filter fun t => Tryd.prog.rowNamed t [101, 114, 114, 111, 114] := List.mem_filter.2 ⟨List.mem_range.2 (by rw [← typesSize]; exact e3), e4⟩
  rw [oneRow] at hmem
  obtain rfl := List.mem_singleton.1 hmem
  rw [errHandle] at e5
  have := World.var?_cell gET e5 0
  unfold ErrType
  simpa using this

theorem tab_of_vars {P : Program} {W : World} {name : String} {k : IntKind} {zs : List Int} {g : Nat} {t e : TypeId} {n : Nat}
    (hg : P.globalNamed name = some g) (hty : (P.globals[g]?).map (·.type) = some t) (ht : P.underlying t = some (.array n e)) (he : P.underlying e = some (.int k)) (hce : P.cellsOf e = 1) (hct : P.cellsOf t = n) :
    ∀ {l : List (String × DataW Unit)} {ps : List MemPlace}, (name, Lib.tabData k zs) ∈ l → DataW.LaidVars P W l ps → Lib.TabIs P W name k zs
  | [], _, hm, _ => by cases hm
  | (m, d) :: r, ps, hm, h => by
    obtain ⟨g', t', cs, fuel, p, q, hg', ht', hvar, hd, hr, _⟩ := h
    rcases List.mem_cons.1 hm with hm | hm
    · simp only [Prod.mk.injEq] at hm
      obtain ⟨rfl, rfl⟩ := hm
      obtain rfl := Option.some.inj (hg.symm.trans hg')
      obtain rfl := Option.some.inj (hty.symm.trans ht')
      unfold Lib.TabIs
      rw [hvar, ← Lib.cells_of_tab ht he hce hct hd]
    · exact tab_of_vars hg hty ht he hce hct hm hr

theorem gPow : Tryd.prog.globalNamed "internal/strconv.uint64pow10" = some 1 := by kernel_rfl
theorem gPowType : (Tryd.prog.globals[1]?).map (·.type) = some 95 := by kernel_rfl
theorem cellsPow : Tryd.prog.cellsOf 95 = 20 := by kernel_rfl
theorem cellsU64 : Tryd.prog.cellsOf 87 = 1 := by kernel_rfl

theorem below_grow (w : World) (k : Nat) (os : Array Obj) : Below w.heap.size w (Sort.grow (w.drewN k) os) :=
  ⟨rfl, rfl, rfl, by show w.heap.size ≤ (w.heap ++ os).size; simp, fun i hi => by show (w.heap ++ os)[i]? = w.heap[i]?; rw [Array.getElem?_append_left hi]⟩

theorem itoa_ok (n : Int) (h0 : -9223372036854775808 ≤ n) (h1 : n ≤ 9223372036854775807) (w : World) (ht : Lib.TabIs Tryd.prog w "internal/strconv.uint64pow10" .u64 Lib.pow10Tab) : ItoaOk n w := by
  refine ⟨itoa_length n h0 h1, fun w' hb => ?_⟩
  have ht' : Lib.TabIs Tryd.prog w' "internal/strconv.uint64pow10" .u64 Lib.pow10Tab := by
    unfold Lib.TabIs at ht ⊢
    have hlt : 1 < w.heap.size := lt_of_cell (World.var?_cell gPow ht 0)
    exact var?_below hb gPow hlt ht
  refine (Tryd.strconv_Itoa n h0 h1 w' ht').mono fun e w'' ⟨he, k, os, hw⟩ => ⟨he, ?_⟩
  rw [hw]; exact below_grow _ _ _

/-- A world for the witnesses: the settled one, the listed variables' cells laid. -/
noncomputable def laidWorld (os : Os) : World :=
  { World.holding Tryd.prog os ⟨#[], #[], []⟩ with heap := ((World.holding Tryd.prog os ⟨#[], #[], []⟩).heap.modify 0 fun
      | .cells _ t frozen => .cells #[.iface 70 (.agg #[.pointer (some ⟨5, 26, none⟩)])] t frozen
      | o => o) }
/-- The same, with the tables. -/
noncomputable def laidWorld4 (os : Os) : World :=
  { laidWorld os with heap := (((laidWorld os).heap.modify 1 fun
      | .cells _ t frozen => .cells (Lib.pow10Tab.map fun z => Value.int .u64 z).toArray t frozen
      | o => o).modify 2 fun
      | .cells _ t frozen => .cells (#[0, 1, 28, 2, 29, 14, 24, 3, 30, 22, 20, 15, 25, 17, 4, 8, 31, 27, 13, 23, 21, 19, 16, 7, 26, 12, 18, 6, 11, 5, 10, 9].map fun z => Value.int .u8 z) t frozen
      | o => o).modify 3 fun
      | .cells _ t frozen => .cells (#[0, 1, 56, 2, 57, 49, 28, 3, 61, 58, 42, 50, 38, 29, 17, 4, 62, 47, 59, 36, 45, 43, 51, 22, 53, 39, 33, 30, 24, 18, 12, 5, 63, 55, 48, 27, 60, 41, 37, 16, 46, 35, 44, 21, 52, 32, 23, 11, 54, 26, 40, 15, 34, 20, 31, 10, 25, 14, 19, 9, 13, 8, 7, 6].map fun z => Value.int .u8 z) t frozen
      | o => o }

/-- The sum of the places' lengths is bounded by the bulk. -/
theorem preText_bulk {H : Type} (xs : List ByteArray) : (preText xs).size ≤ 2 * Rows.uptoBulkAll (ChangeShapes.strs (H := H) xs) := by
  induction xs with
  | nil => exact Nat.zero_le _
  | cons x xs ih =>
    have e : Rows.uptoBulkAll (ChangeShapes.strs (H := H) (x :: xs)) = (x.data.toList.length + 1) + Rows.uptoBulkAll (ChangeShapes.strs (H := H) xs) := by
      simp [ChangeShapes.strs, Rows.uptoBulkAll, Rows.uptoBulk]
    have e2 : x.data.toList.length = x.size := Array.length_toList
    rw [e, e2]
    simp only [preText, size_app, size_two]
    omega

theorem preText_rev (xs : List ByteArray) : (preText xs.reverse).size = (preText xs).size := by
  induction xs with
  | nil => rfl
  | cons x xs ih =>
    rw [List.reverse_cons, preText_snoc]
    simp only [size_app, size_two, preText, ih]
    omega

theorem upto_places {H : Type} {n : Int} {d : DataW H} {xs : List ByteArray} (hk : Rows.uptoSmall H ([.lit (.int .i64 n), d] ++ []) = true) (hd : (d = .nil ∧ xs = []) ∨ ∃ sp, d = .slice (ChangeShapes.strs xs) sp) :
    (preText xs.reverse).size ≤ 1000000000 := by
  rw [preText_rev]
  rcases hd with ⟨_, rfl⟩ | ⟨sp, rfl⟩
  · exact Nat.zero_le _
  · have h := of_decide_eq_true hk
    simp only [List.append_nil, Rows.uptoBulkAll, Rows.uptoBulk] at h
    have := preText_bulk (H := H) xs
    omega
end Go.Proofs.YteggehjbkbfdfaaDoor
