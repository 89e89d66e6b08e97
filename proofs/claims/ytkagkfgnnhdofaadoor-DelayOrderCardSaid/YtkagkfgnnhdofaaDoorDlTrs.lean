/-
  Slices of threes of numbers: made, laid, owned, appended to.
-/
import Derived.Test.YtkagkfgnnhdofaaDoorDlMath
import Derived.Test.YtkagkfgnnhdofaaDoorBlk
import Derived.Test.YtkagkfgnnhdofaaDoorElg
import Derived.Deep.AppendLies
namespace Go.Proofs.YtkagkfgnnhdofaaDoor
open Go.RowKit

/-- Three numbers at a place. -/
def R3 (w : World) (g o : Nat) (f : Nat → Int) : Prop := w.cell? ⟨g, o, none⟩ = some (.int .i64 (f 0)) ∧ w.cell? ⟨g, o + 1, none⟩ = some (.int .i64 (f 1)) ∧ w.cell? ⟨g, o + 2, none⟩ = some (.int .i64 (f 2))
theorem R3.below {w w' : World} (hb : Below w.heap.size w w') {g o : Nat} {f : Nat → Int} (h : R3 w g o f) : R3 w' g o f := ⟨below_cell hb h.1, below_cell hb h.2.1, below_cell hb h.2.2⟩
theorem info3 : (Tryd.prog.info? 32).map (fun i => (i.zero, i.size, i.bytes)) = some (some (.agg #[.int .i64 0, .int .i64 0, .int .i64 0]), 3, 24) := by kernel_rfl
theorem run_make_tabs (n : Nat) (hn : n ≤ 1000) : ∃ M : Array Value, M.size = n * 3 ∧
    ∀ w : World, (Instr.makeSlice 40 (.int .i64 (n : Int)) (.int .i64 (n : Int))).run Tryd.prog w = .ok (.slice (some ⟨w.heap.size, 0, none⟩) n n) (w.alloc (.cells M 32)) := by
  obtain ⟨i0, hi, hz0, hz1, hz2⟩ := info_parts info3
  refine ⟨madeCells (Value.agg #[.int .i64 0, .int .i64 0, .int .i64 0]).cells (n * 3), by rw [size_madeCells], fun w => ?_⟩
  have := run_make (P := Tryd.prog) w 40 32 i0 (.agg #[.int .i64 0, .int .i64 0, .int .i64 0]) Tryd.underlying40 hi hz0 .i64 .i64 (n : Int) (n : Int) (by omega) (by omega) (by rw [hz2]; omega) (by omega)
  rw [hz1] at this
  simpa using this

/-- Three cells in a row. -/
def TrC (M : Array Value) (o : Nat) (f : Nat → Int) : Prop := M[o]? = some (.int .i64 (f 0)) ∧ M[o + 1]? = some (.int .i64 (f 1)) ∧ M[o + 2]? = some (.int .i64 (f 2))
def set3 (M : Array Value) (p : Nat) (a b c : Value) : Array Value := ((M.setIfInBounds p a).setIfInBounds (p + 1) b).setIfInBounds (p + 2) c
theorem set3_size (M : Array Value) (p : Nat) (a b c : Value) : (set3 M p a b c).size = M.size := by simp [set3]
theorem set3_other (M : Array Value) (p q : Nat) (a b c : Value) (h : q < p ∨ p + 3 ≤ q) : (set3 M p a b c)[q]? = M[q]? := by
  unfold set3
  simp only [Array.getElem?_setIfInBounds]
  rw [if_neg (by omega), if_neg (by omega), if_neg (by omega)]
theorem set3_same (M : Array Value) (p : Nat) (f : Nat → Int) (h : p + 3 ≤ M.size) : TrC (set3 M p (.int .i64 (f 0)) (.int .i64 (f 1)) (.int .i64 (f 2))) p f := by
  refine ⟨?_, ?_, ?_⟩ <;> simp [set3, Array.getElem?_setIfInBounds] <;> omega
/-- A block of n threes, the first j of which are laid. -/
def TrB (w : World) (g n j : Nat) (fs : Nat → Nat → Int) : Prop := ∃ M, Blk w g M 32 ∧ M.size = n * 3 ∧ ∀ i, i < j → TrC M (i * 3) (fs i)
theorem trB_new (w : World) (n : Nat) (M : Array Value) (hM : M.size = n * 3) (fs : Nat → Nat → Int) : TrB (w.alloc (.cells M 32)) w.heap.size n 0 fs := ⟨M, blk_new w M _, hM, fun i hi => by omega⟩
theorem TrB.store {w : World} {g n j : Nat} {fs : Nat → Nat → Int} (h : TrB w g n j fs) (hj : j < n) (f : Nat → Int) (hf : f = fs j) :
    TrB (((w.setCell ⟨g, j * 3, none⟩ (.int .i64 (f 0))).setCell ⟨g, j * 3 + 1, none⟩ (.int .i64 (f 1))).setCell ⟨g, j * 3 + 2, none⟩ (.int .i64 (f 2))) g n (j + 1) fs := by
  subst hf
  obtain ⟨M, hM, hs, h⟩ := h
  refine ⟨set3 M (j * 3) (.int .i64 (fs j 0)) (.int .i64 (fs j 1)) (.int .i64 (fs j 2)), ((hM.set_ _ _).set_ _ _).set_ _ _, by rw [set3_size, hs], fun i hi => ?_⟩
  by_cases hij : i < j
  · obtain ⟨h0, h1, h2⟩ := h i hij
    exact ⟨by rw [set3_other _ _ _ _ _ _ (by omega)]; exact h0, by rw [set3_other _ _ _ _ _ _ (by omega)]; exact h1, by rw [set3_other _ _ _ _ _ _ (by omega)]; exact h2⟩
  · obtain rfl : i = j := by omega
    exact set3_same M _ _ (by omega)
theorem TrB.spot {w : World} {g n j : Nat} {fs : Nat → Nat → Int} (h : TrB w g n j fs) (hj : j < n) (r : Nat) (hr : r < 3) : (∃ u, w.cell? ⟨g, j * 3 + r, none⟩ = some u) ∧ w.frozen? ⟨g, j * 3 + r, none⟩ = false := by
  obtain ⟨M, hM, hs, _⟩ := h
  exact ⟨⟨_, hM.cell _ (Array.getElem?_eq_getElem (by omega))⟩, hM.frz _⟩
theorem TrB.below {w w' : World} {g n j : Nat} {fs : Nat → Nat → Int} (h : TrB w g n j fs) (hb : Below w.heap.size w w') : TrB w' g n j fs := let ⟨M, h, r⟩ := h; ⟨M, h.below hb, r⟩
theorem TrB.els {w : World} {g n : Nat} {fs : Nat → Nat → Int} (h : TrB w g n n fs) (l : List (Nat → Int)) (hl : l.length = n) (he : ∀ i, i < n → l[i]? = some (fs i)) : Els R3 3 w (.slice (some ⟨g, 0, none⟩) n n) l := by
  obtain ⟨M, hM, hs, h⟩ := h
  refine ⟨some ⟨g, 0, none⟩, n, by rw [hl], fun j y hy => ⟨g, 0, rfl, ?_⟩⟩
  have hj : j < n := by rw [← hl]; exact (List.getElem?_eq_some_iff.1 hy).1
  rw [he j hj] at hy
  cases hy
  obtain ⟨h0, h1, h2⟩ := h j hj
  rw [Nat.zero_add]
  exact ⟨hM.cell _ h0, hM.cell _ h1, hM.cell _ h2⟩

/-! Owned threes, behind others. -/
def trl (f : Nat → Int) : List Value := [.int .i64 (f 0), .int .i64 (f 1), .int .i64 (f 2)]
theorem trl_len (fs : List (Nat → Int)) : (fs.flatMap trl).length = fs.length * 3 := by
  induction fs with
  | nil => rfl
  | cons a t ih =>
    rw [List.flatMap_cons, List.length_append, ih, List.length_cons]
    show 3 + t.length * 3 = _
    omega
theorem trl_at : ∀ (fs : List (Nat → Int)) (j : Nat) (f : Nat → Int) (r : Nat), r < 3 → fs[j]? = some f → (fs.flatMap trl)[j * 3 + r]? = (trl f)[r]?
  | [], j, l, r, _, h => by simp at h
  | c :: t, 0, l, r, hr, h => by
    simp at h
    subst h
    rw [List.flatMap_cons, List.getElem?_append_left (by show 0 * 3 + r < 3; omega), Nat.zero_mul, Nat.zero_add]
  | c :: t, j + 1, l, r, hr, h => by
    have ih := trl_at t j l r hr (by simpa using h)
    have hl : (trl c).length = 3 := rfl
    rw [List.flatMap_cons, List.getElem?_append_right (by omega), hl, show (j + 1) * 3 + r - 3 = j * 3 + r by omega]
    exact ih
theorem trl_one (fs : List (Nat → Int)) : ∀ u ∈ fs.flatMap trl, u.oneCell' = true := by
  intro u hu
  obtain ⟨a, _, h⟩ := List.mem_flatMap.1 hu
  simp [trl] at h
  rcases h with rfl | rfl | rfl <;> rfl
/-- The slice v owns the threes fs, at a block from B on. -/
def OwnT (w : World) (B : Nat) (v : Value) (fs : List (Nat → Int)) : Prop := w.ownsRow B 32 3 v fs.length (fs.flatMap trl)
theorem ownT_nil (w : World) (B : Nat) : OwnT w B (.slice none 0 0) [] := World.ownsRow_nil w B 32 3
variable {B : Nat} {w w' : World} {v : Value} {fs : List (Nat → Int)}
theorem OwnT.lt (h : OwnT w B v fs) {g : Nat} (hg : v.ownBlock = some g) : B ≤ g ∧ g < w.heap.size := World.ownsRow.lt h g hg
theorem OwnT.keep {F : Nat → Prop} (h : OwnT w B v fs) (hk : Keep F w w') (hn : ∀ g, F g → g < B) : OwnT w' B v fs := by
  refine ⟨h.1, ?_⟩
  rcases h.2 with h1 | ⟨g, cap, cur, rfl, hB, hg, rest⟩
  · exact .inl h1
  · refine .inr ⟨g, cap, cur, rfl, hB, ?_, rest⟩
    rw [hk.block g (lt_of_block hg) (fun hF => by have := hn g hF; omega)]; exact hg
theorem OwnT.below (h : OwnT w B v fs) (hb : Below w.heap.size w w') : OwnT w' B v fs := h.keep (F := fun _ => False) (Keep.of_below hb) (fun _ h => h.elim)
theorem OwnT.grown (h : OwnT w B v fs) (hg : w.grownBy w' v.ownBlock) (hB : B ≤ w.heap.size) : Below B w w' := (Below.refl B w).grown hg hB fun k hk => (World.ownsRow.lt h k hk).1
theorem OwnT.els (h : OwnT w B v fs) : Els R3 3 w v fs := by
  rcases h.2 with ⟨rfl, hn⟩ | ⟨g, cap, cur, rfl, hB, hg, hcap, hm, hs, ht⟩
  · obtain rfl := List.length_eq_zero_iff.1 hn
    exact ⟨none, 0, rfl, fun j y h => by cases h⟩
  · refine ⟨some ⟨g, 0, none⟩, cap, rfl, fun j y hy => ⟨g, 0, rfl, ?_⟩⟩
    have hk : j < fs.length := (List.getElem?_eq_some_iff.1 hy).1
    have c : ∀ r, r < 3 → w.cell? ⟨g, 0 + j * 3 + r, none⟩ = (trl y)[r]? := fun r hr => by
      rw [Nat.zero_add, World.ownsRow.cellAt h _ (by omega)]
      exact trl_at fs j y r hr hy
    exact ⟨c 0 (by decide), c 1 (by decide), c 2 (by decide)⟩
/-- Where threes lie one behind another. -/
theorem els3_cells {g o m c : Nat} {us : List (Nat → Int)} (h : Els R3 3 w (.slice (some ⟨g, o, none⟩) m c) us) : ∀ (j : Nat) u, (us.flatMap trl)[j]? = some u → w.cell? ((⟨g, o, none⟩ : Addr).add j) = some u := by
  intro j u hu
  rw [plain_add]
  have hj : j < us.length * 3 := by rw [← trl_len]; exact (List.getElem?_eq_some_iff.1 hu).1
  obtain ⟨a, ha⟩ : ∃ a, us[j / 3]? = some a := ⟨_, List.getElem?_eq_getElem (by omega)⟩
  obtain ⟨g', o', e, h0, h1, h2⟩ := h.at_ ha
  simp only [Option.some.injEq, Addr.mk.injEq] at e
  obtain ⟨rfl, rfl, _⟩ := e
  have hc := trl_at us (j / 3) a (j % 3) (by omega) ha
  rw [show j / 3 * 3 + j % 3 = j by omega, hu] at hc
  have hcase : j % 3 = 0 ∨ j % 3 = 1 ∨ j % 3 = 2 := by omega
  rcases hcase with e | e | e
  · rw [e] at hc; rw [show o + j = o + j / 3 * 3 by omega, h0]; exact hc.symm
  · rw [e] at hc; rw [show o + j = o + j / 3 * 3 + 1 by omega, h1]; exact hc.symm
  · rw [e] at hc; rw [show o + j = o + j / 3 * 3 + 2 by omega, h2]; exact hc.symm
/-- One three at the head of a block. -/
theorem els3_one (w : World) (f : Nat → Int) (T : TypeId) : Els R3 3 (w.alloc (.cells (tr3 f) T)) (.slice (some ⟨w.heap.size, 0, none⟩) 1 1) [f] := by
  have hb := blk_new w (tr3 f) T
  refine ⟨_, 1, rfl, fun j y hy => ⟨_, _, rfl, ?_⟩⟩
  rcases j with _ | j
  · cases hy
    exact ⟨hb.cell 0 rfl, hb.cell 1 rfl, hb.cell 2 rfl⟩
  · cases hy
/-- Threes behind others. -/
theorem wpList_appT {ops : Array Oper} {rest : List Oper} {o : Oper} {a : Act} {Q : Exit → Act → World → Prop} (hgd : o.guard = none) (s x : Operand)
    (ho : o.op = .call { callee := .builtin .append, args := #[s, x], argTypes := #[40, 40] })
    (B : Nat) (v : Value) (n : Nat) (fs : List (Nat → Int)) (hs : a.eval s = v) (hn : n = fs.length) (hown : OwnT w B v fs) (g0 o0 m c : Nat) (us : List (Nat → Int)) (hx : a.eval x = .slice (some ⟨g0, o0, none⟩) m c) (hm : us.length = m)
    (hu : Els R3 3 w (.slice (some ⟨g0, o0, none⟩) m c) us) (h0 : 0 < m) (hl : n + m ≤ 1000000) (hB : B ≤ w.heap.size)
    (h : ∀ g cap w', OwnT w' B (.slice (some ⟨g, 0, none⟩) (n + m) cap) (fs ++ us) → Below B w w' → wpList Tryd.prog ops Q rest (a.put o.dst (.slice (some ⟨g, 0, none⟩) (n + m) cap)) w') : wpList Tryd.prog ops Q (o :: rest) a w := by
  obtain ⟨i0, hi, hz0, hz1, hz2⟩ := info_parts info3
  refine wpList_append_lies w hgd s x 40 ho B 32 i0 (.agg #[.int .i64 0, .int .i64 0, .int .i64 0]) 3 24 Tryd.underlying40 hi hz0 hz1 hz2 rfl (by decide) v n (fs.flatMap trl) hs (by rw [hn]; exact hown)
    ⟨g0, o0, none⟩ m c (us.flatMap trl) hx (by rw [trl_len, hm]) (els3_cells hu) (trl_one us) h0 (by unfold maxLen; omega) (by omega) hB _ rfl (fun g cap w' h1 h2 _ _ => h g cap w' ?_ (hown.grown h2 hB))
  unfold OwnT
  rw [List.length_append, List.flatMap_append, hm, ← hn]
  exact h1
/-- The same, at a step of a region that draws its order. -/
theorem step_appT {ops : Array Oper} {o : Oper} {a : Act} {K : Act → World → Prop} {Q : Exit → Act → World → Prop} {E : Prop} (hgd : o.guard = none) (s x : Operand)
    (ho : o.op = .call { callee := .builtin .append, args := #[s, x], argTypes := #[40, 40] })
    (B : Nat) (v : Value) (n : Nat) (fs : List (Nat → Int)) (hs : a.eval s = v) (hn : n = fs.length) (hown : OwnT w B v fs) (g0 o0 m c : Nat) (us : List (Nat → Int)) (hx : a.eval x = .slice (some ⟨g0, o0, none⟩) m c) (hm : us.length = m)
    (hu : Els R3 3 w (.slice (some ⟨g0, o0, none⟩) m c) us) (h0 : 0 < m) (hl : n + m ≤ 1000000) (hB : B ≤ w.heap.size)
    (h : ∀ g cap w', OwnT w' B (.slice (some ⟨g, 0, none⟩) (n + m) cap) (fs ++ us) → Below B w w' → K (a.put o.dst (.slice (some ⟨g, 0, none⟩) (n + m) cap)) w') :
    if Region.wanted o (yielded ops a.tmps) = true then Oper.wp Tryd.prog o a w K Q else E := by
  obtain ⟨i0, hi, hz0, hz1, hz2⟩ := info_parts info3
  refine step_append_lies w hgd s x 40 ho B 32 i0 (.agg #[.int .i64 0, .int .i64 0, .int .i64 0]) 3 24 Tryd.underlying40 hi hz0 hz1 hz2 rfl (by decide) v n (fs.flatMap trl) hs (by rw [hn]; exact hown)
    ⟨g0, o0, none⟩ m c (us.flatMap trl) hx (by rw [trl_len, hm]) (els3_cells hu) (trl_one us) h0 (by unfold maxLen; omega) (by omega) hB _ rfl (fun g cap w' h1 h2 _ _ => h g cap w' ?_ (hown.grown h2 hB))
  unfold OwnT
  rw [List.length_append, List.flatMap_append, hm, ← hn]
  exact h1
end Go.Proofs.YtkagkfgnnhdofaaDoor
