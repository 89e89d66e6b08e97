/-
  Lines that a slice owns; append of lines.
-/
import Derived.Test.YtkagkfgnnhdofaaDoorCfA
import Derived.Test.YtkagkfgnnhdofaaDoorElg
import Derived.Deep.AppendLies
namespace Go.Proofs.YtkagkfgnnhdofaaDoor
open Go.RowKit

/-- A line's cells. -/
def lnl (l : Ln) : List Value := [.int .i64 l.k, .int .i64 l.g, .int .i64 l.a, .int .i64 l.b, .int .i64 l.c]
theorem lnl_len (ls : List Ln) : (ls.flatMap lnl).length = ls.length * 5 := by
  induction ls with
  | nil => rfl
  | cons a t ih =>
    rw [List.flatMap_cons, List.length_append, ih, List.length_cons]
    show 5 + t.length * 5 = _
    omega
theorem lnl_at : ∀ (ls : List Ln) (j : Nat) (l : Ln) (r : Nat), r < 5 → ls[j]? = some l → (ls.flatMap lnl)[j * 5 + r]? = (lnl l)[r]?
  | [], j, l, r, _, h => by simp at h
  | c :: t, 0, l, r, hr, h => by
    simp at h
    subst h
    rw [List.flatMap_cons, List.getElem?_append_left (by show 0 * 5 + r < 5; omega), Nat.zero_mul, Nat.zero_add]
  | c :: t, j + 1, l, r, hr, h => by
    have ih := lnl_at t j l r hr (by simpa using h)
    have hl : (lnl c).length = 5 := rfl
    rw [List.flatMap_cons, List.getElem?_append_right (by omega), hl, show (j + 1) * 5 + r - 5 = j * 5 + r by omega]
    exact ih
theorem lnl_one (ls : List Ln) : ∀ u ∈ ls.flatMap lnl, u.oneCell' = true := by
  intro u hu
  obtain ⟨a, _, h⟩ := List.mem_flatMap.1 hu
  simp [lnl] at h
  rcases h with rfl | rfl | rfl | rfl | rfl <;> rfl
theorem infoL : (Tryd.prog.info? 34).map (fun i => (i.zero, i.size, i.bytes)) = some (some (.agg #[.int .i64 0, .int .i64 0, .int .i64 0, .int .i64 0, .int .i64 0]), 5, 40) := by kernel_rfl

/-- The slice v owns the lines ls, at a block from B on. -/
def OwnL (w : World) (B : Nat) (v : Value) (ls : List Ln) : Prop := w.ownsRow B 34 5 v ls.length (ls.flatMap lnl)
theorem ownL_nil (w : World) (B : Nat) : OwnL w B (.slice none 0 0) [] := World.ownsRow_nil w B 34 5
theorem ownL_lit (w : World) (B : Nat) (hB : B ≤ w.heap.size) : OwnL (w.alloc (.cells #[] 34)) B (.slice (some ⟨w.heap.size, 0, none⟩) 0 0) [] := World.ownsRow_made w #[] 0 hB (by decide) rfl
variable {B : Nat} {w w' : World} {v : Value} {ls : List Ln}
theorem OwnL.lt (h : OwnL w B v ls) {g : Nat} (hg : v.ownBlock = some g) : B ≤ g ∧ g < w.heap.size := World.ownsRow.lt h g hg
theorem OwnL.keep {F : Nat → Prop} (h : OwnL w B v ls) (hk : Keep F w w') (hn : ∀ g, F g → g < B) : OwnL w' B v ls := by
  refine ⟨h.1, ?_⟩
  rcases h.2 with h1 | ⟨g, cap, cur, rfl, hB, hg, rest⟩
  · exact .inl h1
  · refine .inr ⟨g, cap, cur, rfl, hB, ?_, rest⟩
    rw [hk.block g (lt_of_block hg) (fun hF => by have := hn g hF; omega)]; exact hg
theorem OwnL.below (h : OwnL w B v ls) (hb : Below w.heap.size w w') : OwnL w' B v ls := h.keep (F := fun _ => False) (Keep.of_below hb) (fun _ h => h.elim)
theorem OwnL.grown (h : OwnL w B v ls) (hg : w.grownBy w' v.ownBlock) (hB : B ≤ w.heap.size) : Below B w w' := (Below.refl B w).grown hg hB fun k hk => (World.ownsRow.lt h k hk).1
theorem OwnL.els (h : OwnL w B v ls) : Els RLn 5 w v ls := by
  rcases h.2 with ⟨rfl, hn⟩ | ⟨g, cap, cur, rfl, hB, hg, hcap, hm, hs, ht⟩
  · obtain rfl := List.length_eq_zero_iff.1 hn
    exact ⟨none, 0, rfl, fun j y h => by cases h⟩
  · refine ⟨some ⟨g, 0, none⟩, cap, rfl, fun j y hy => ⟨g, 0, rfl, ?_⟩⟩
    have hk : j < ls.length := (List.getElem?_eq_some_iff.1 hy).1
    have c : ∀ r, r < 5 → w.cell? ⟨g, 0 + j * 5 + r, none⟩ = (lnl y)[r]? := fun r hr => by
      rw [Nat.zero_add, World.ownsRow.cellAt h _ (by omega)]
      exact lnl_at ls j y r hr hy
    exact ⟨c 0 (by decide), c 1 (by decide), c 2 (by decide), c 3 (by decide), c 4 (by decide)⟩
/-- Where lines lie one behind another. -/
theorem Els.cells_of {g o m c : Nat} {us : List Ln} (h : Els RLn 5 w (.slice (some ⟨g, o, none⟩) m c) us) : ∀ (j : Nat) u, (us.flatMap lnl)[j]? = some u → w.cell? ((⟨g, o, none⟩ : Addr).add j) = some u := by
  intro j u hu
  rw [plain_add]
  have hj : j < us.length * 5 := by rw [← lnl_len]; exact (List.getElem?_eq_some_iff.1 hu).1
  obtain ⟨a, ha⟩ : ∃ a, us[j / 5]? = some a := ⟨_, List.getElem?_eq_getElem (by omega)⟩
  obtain ⟨g', o', e, h0, h1, h2, h3, h4⟩ := h.at_ ha
  simp only [Option.some.injEq, Addr.mk.injEq] at e
  obtain ⟨rfl, rfl, _⟩ := e
  have hc := lnl_at us (j / 5) a (j % 5) (by omega) ha
  rw [show j / 5 * 5 + j % 5 = j by omega, hu] at hc
  have hcase : j % 5 = 0 ∨ j % 5 = 1 ∨ j % 5 = 2 ∨ j % 5 = 3 ∨ j % 5 = 4 := by omega
  rcases hcase with e | e | e | e | e
  · rw [e] at hc; rw [show o + j = o + j / 5 * 5 by omega, h0]; exact hc.symm
  · rw [e] at hc; rw [show o + j = o + j / 5 * 5 + 1 by omega, h1]; exact hc.symm
  · rw [e] at hc; rw [show o + j = o + j / 5 * 5 + 2 by omega, h2]; exact hc.symm
  · rw [e] at hc; rw [show o + j = o + j / 5 * 5 + 3 by omega, h3]; exact hc.symm
  · rw [e] at hc; rw [show o + j = o + j / 5 * 5 + 4 by omega, h4]; exact hc.symm
/-- One line at the head of a block. -/
theorem els_one (w : World) (l : Ln) (T : TypeId) : Els RLn 5 (w.alloc (.cells #[.int .i64 l.k, .int .i64 l.g, .int .i64 l.a, .int .i64 l.b, .int .i64 l.c] T)) (.slice (some ⟨w.heap.size, 0, none⟩) 1 1) [l] := by
  have hb := blk_new w #[.int .i64 l.k, .int .i64 l.g, .int .i64 l.a, .int .i64 l.b, .int .i64 l.c] T
  refine ⟨_, 1, rfl, fun j y hy => ⟨_, _, rfl, ?_⟩⟩
  rcases j with _ | j
  · cases hy
    exact ⟨hb.cell 0 rfl, hb.cell 1 rfl, hb.cell 2 rfl, hb.cell 3 rfl, hb.cell 4 rfl⟩
  · cases hy
/-- Lines behind others. -/
theorem wpList_appL {ops : Array Oper} {rest : List Oper} {o : Oper} {a : Act} {Q : Exit → Act → World → Prop} (hgd : o.guard = none) (s x : Operand)
    (ho : o.op = .call { callee := .builtin .append, args := #[s, x], argTypes := #[35, 35] })
    (B : Nat) (v : Value) (n : Nat) (ls : List Ln) (hs : a.eval s = v) (hn : n = ls.length) (hown : OwnL w B v ls) (g0 o0 m c : Nat) (us : List Ln) (hx : a.eval x = .slice (some ⟨g0, o0, none⟩) m c) (hm : us.length = m)
    (hu : Els RLn 5 w (.slice (some ⟨g0, o0, none⟩) m c) us) (h0 : 0 < m) (hl : n + m ≤ 1000000) (hB : B ≤ w.heap.size)
    (h : ∀ g cap w', OwnL w' B (.slice (some ⟨g, 0, none⟩) (n + m) cap) (ls ++ us) → Below B w w' → wpList Tryd.prog ops Q rest (a.put o.dst (.slice (some ⟨g, 0, none⟩) (n + m) cap)) w') : wpList Tryd.prog ops Q (o :: rest) a w := by
  obtain ⟨i0, hi, hz0, hz1, hz2⟩ := info_parts infoL
  refine wpList_append_lies w hgd s x 35 ho B 34 i0 (.agg #[.int .i64 0, .int .i64 0, .int .i64 0, .int .i64 0, .int .i64 0]) 5 40 Tryd.underlying35 hi hz0 hz1 hz2 rfl (by decide) v n (ls.flatMap lnl) hs (by rw [hn]; exact hown)
    ⟨g0, o0, none⟩ m c (us.flatMap lnl) hx (by rw [lnl_len, hm]) hu.cells_of (lnl_one us) h0 (by unfold maxLen; omega) (by omega) hB _ rfl (fun g cap w' h1 h2 _ _ => h g cap w' ?_ (hown.grown h2 hB))
  unfold OwnL
  rw [List.length_append, List.flatMap_append, hm, ← hn]
  exact h1
end Go.Proofs.YtkagkfgnnhdofaaDoor
