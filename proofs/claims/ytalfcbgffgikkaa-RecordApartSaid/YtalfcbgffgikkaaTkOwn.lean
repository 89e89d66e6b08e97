/-
  Tracks that a slice owns; append of tracks.
-/
import Derived.Test.YtalfcbgffgikkaaTkRow
import Derived.Test.YtalfcbgffgikkaaBlk
import Derived.Deep.AppendLies
import Derived.Deep.Upon
namespace Go.Proofs.Ytalfcbgffgikkaa
open Go.RowKit

theorem infoTk : (Try.prog.info? 43).map (fun i => (i.zero, i.size, i.bytes)) = some (some (.agg #[.bool false, .int .i64 0, .int .i64 0, .bool false, .int .i64 0, .int .i64 0, .bool false, .bool false, .int .i64 0, .bool false, .bool false]), 11, 80) := by kernel_rfl
/-- A track's cells. -/
def tkl (y : Tk) : List Value := [.bool y.h, .int .i64 y.i, .int .i64 y.o, .bool y.g, .int .i64 y.l, .int .i64 y.s, .bool y.j, .bool y.cl, .int .i64 y.n, .bool y.f, .bool y.c]
theorem tkl_len (fs : List Tk) : (fs.flatMap tkl).length = fs.length * 11 := by
  induction fs with
  | nil => rfl
  | cons a t ih =>
    rw [List.flatMap_cons, List.length_append, ih, List.length_cons]
    show 11 + t.length * 11 = _
    omega
theorem tkl_at : ∀ (fs : List Tk) (j : Nat) (f : Tk) (r : Nat), r < 11 → fs[j]? = some f → (fs.flatMap tkl)[j * 11 + r]? = (tkl f)[r]?
  | [], j, l, r, _, h => by simp at h
  | c :: t, 0, l, r, hr, h => by
    simp at h
    subst h
    rw [List.flatMap_cons, List.getElem?_append_left (by show 0 * 11 + r < 11; omega), Nat.zero_mul, Nat.zero_add]
  | c :: t, j + 1, l, r, hr, h => by
    have ih := tkl_at t j l r hr (by simpa using h)
    have hl : (tkl c).length = 11 := rfl
    rw [List.flatMap_cons, List.getElem?_append_right (by omega), hl, show (j + 1) * 11 + r - 11 = j * 11 + r by omega]
    exact ih
theorem tkl_one (fs : List Tk) : ∀ u ∈ fs.flatMap tkl, u.oneCell' = true := by
  intro u hu
  obtain ⟨a, _, h⟩ := List.mem_flatMap.1 hu
  simp [tkl] at h
  rcases h with rfl | rfl | rfl | rfl | rfl | rfl | rfl | rfl | rfl | rfl | rfl <;> rfl
/-- The slice v owns the tracks fs, at a block from B on. -/
def OwnK (w : World) (B : Nat) (v : Value) (fs : List Tk) : Prop := w.ownsRow B 43 11 v fs.length (fs.flatMap tkl)
theorem ownK_nil (w : World) (B : Nat) : OwnK w B (.slice none 0 0) [] := World.ownsRow_nil w B 43 11
theorem ownK_lit (w : World) (B : Nat) (hB : B ≤ w.heap.size) : OwnK (w.alloc (.cells #[] 43)) B (.slice (some ⟨w.heap.size, 0, none⟩) 0 0) [] := World.ownsRow_made w #[] 0 hB (by decide) rfl
variable {B : Nat} {w w' : World} {v : Value} {fs : List Tk}
theorem OwnK.lt (h : OwnK w B v fs) {g : Nat} (hg : v.ownBlock = some g) : B ≤ g ∧ g < w.heap.size := World.ownsRow.lt h g hg
theorem OwnK.keep {F : Nat → Prop} (h : OwnK w B v fs) (hk : Keep F w w') (hn : ∀ g, v.ownBlock = some g → ¬ F g) : OwnK w' B v fs := by
  refine ⟨h.1, ?_⟩
  rcases h.2 with h1 | ⟨g, cap, cur, rfl, hB, hg, rest⟩
  · exact .inl h1
  · refine .inr ⟨g, cap, cur, rfl, hB, ?_, rest⟩
    rw [hk.block g (lt_of_block hg) (hn g rfl)]; exact hg
theorem OwnK.below (h : OwnK w B v fs) (hb : Below w.heap.size w w') : OwnK w' B v fs := h.keep (F := fun _ => False) (Keep.of_below hb) (fun _ _ h => h.elim)
theorem OwnK.grown (h : OwnK w B v fs) (hg : w.grownBy w' v.ownBlock) (hB : B ≤ w.heap.size) : Below B w w' := (Below.refl B w).grown hg hB fun k hk => (World.ownsRow.lt h k hk).1
/-- It lies in no block of another kind. -/
theorem OwnK.ne {g : Nat} {C : Array Value} {T : TypeId} (h : OwnK w B v fs) (hb : Blk w g C T) (hT : T ≠ 43) : v.ownBlock ≠ some g := by
  intro he
  rcases h.2 with ⟨rfl, _⟩ | ⟨g', cap, cur, rfl, hB, hg, rest⟩
  · cases he
  · simp only [Value.ownBlock, Option.some.injEq] at he
    subst he
    unfold Blk at hb
    rw [hg] at hb
    simp only [Option.some.injEq, Obj.cells.injEq] at hb
    exact hT hb.2.1.symm
theorem OwnK.els (h : OwnK w B v fs) : Els RTk 11 w v fs := by
  rcases h.2 with ⟨rfl, hn⟩ | ⟨g, cap, cur, rfl, hB, hg, hcap, hm, hs, ht⟩
  · obtain rfl := List.length_eq_zero_iff.1 hn
    exact ⟨none, 0, rfl, fun j y h => by cases h⟩
  · refine ⟨some ⟨g, 0, none⟩, cap, rfl, fun j y hy => ⟨g, 0, rfl, ?_⟩⟩
    have hk : j < fs.length := (List.getElem?_eq_some_iff.1 hy).1
    have c : ∀ r, r < 11 → w.cell? ⟨g, 0 + j * 11 + r, none⟩ = (tkl y)[r]? := fun r hr => by
      rw [Nat.zero_add, World.ownsRow.cellAt h _ (by omega)]
      exact tkl_at fs j y r hr hy
    exact ⟨c 0 (by decide), c 1 (by decide), c 2 (by decide), c 3 (by decide), c 4 (by decide), c 5 (by decide), c 6 (by decide), c 7 (by decide), c 8 (by decide), c 9 (by decide), c 10 (by decide)⟩
/-- Where tracks lie one behind another. -/
theorem elsK_cells {g o m c : Nat} {us : List Tk} (h : Els RTk 11 w (.slice (some ⟨g, o, none⟩) m c) us) : ∀ (j : Nat) u, (us.flatMap tkl)[j]? = some u → w.cell? ((⟨g, o, none⟩ : Addr).add j) = some u := by
  intro j u hu
  rw [plain_add]
  have hj : j < us.length * 11 := by rw [← tkl_len]; exact (List.getElem?_eq_some_iff.1 hu).1
  obtain ⟨a, ha⟩ : ∃ a, us[j / 11]? = some a := ⟨_, List.getElem?_eq_getElem (by omega)⟩
  obtain ⟨g', o', e, h0, h1, h2, h3, h4, h5, h6, h7, h8, h9, h10⟩ := h.at_ ha
  simp only [Option.some.injEq, Addr.mk.injEq] at e
  obtain ⟨rfl, rfl, _⟩ := e
  have hc := tkl_at us (j / 11) a (j % 11) (by omega) ha
  rw [show j / 11 * 11 + j % 11 = j by omega, hu] at hc
  have hcase : j % 11 = 0 ∨ j % 11 = 1 ∨ j % 11 = 2 ∨ j % 11 = 3 ∨ j % 11 = 4 ∨ j % 11 = 5 ∨ j % 11 = 6 ∨ j % 11 = 7 ∨ j % 11 = 8 ∨ j % 11 = 9 ∨ j % 11 = 10 := by omega
  rcases hcase with e | e | e | e | e | e | e | e | e | e | e
  · rw [e] at hc; rw [show o + j = o + j / 11 * 11 by omega, h0]; exact hc.symm
  · rw [e] at hc; rw [show o + j = o + j / 11 * 11 + 1 by omega, h1]; exact hc.symm
  · rw [e] at hc; rw [show o + j = o + j / 11 * 11 + 2 by omega, h2]; exact hc.symm
  · rw [e] at hc; rw [show o + j = o + j / 11 * 11 + 3 by omega, h3]; exact hc.symm
  · rw [e] at hc; rw [show o + j = o + j / 11 * 11 + 4 by omega, h4]; exact hc.symm
  · rw [e] at hc; rw [show o + j = o + j / 11 * 11 + 5 by omega, h5]; exact hc.symm
  · rw [e] at hc; rw [show o + j = o + j / 11 * 11 + 6 by omega, h6]; exact hc.symm
  · rw [e] at hc; rw [show o + j = o + j / 11 * 11 + 7 by omega, h7]; exact hc.symm
  · rw [e] at hc; rw [show o + j = o + j / 11 * 11 + 8 by omega, h8]; exact hc.symm
  · rw [e] at hc; rw [show o + j = o + j / 11 * 11 + 9 by omega, h9]; exact hc.symm
  · rw [e] at hc; rw [show o + j = o + j / 11 * 11 + 10 by omega, h10]; exact hc.symm
/-- One track at the head of a block. -/
theorem elsK_one {w : World} {g : Nat} (y : Tk) (T : TypeId) (hb : Blk w g #[.bool y.h, .int .i64 y.i, .int .i64 y.o, .bool y.g, .int .i64 y.l, .int .i64 y.s, .bool y.j, .bool y.cl, .int .i64 y.n, .bool y.f, .bool y.c] T) : Els RTk 11 w (.slice (some ⟨g, 0, none⟩) 1 1) [y] := by
  refine ⟨_, 1, rfl, fun j y' hy => ⟨_, _, rfl, ?_⟩⟩
  rcases j with _ | j
  · cases hy
    exact ⟨hb.cell 0 rfl, hb.cell 1 rfl, hb.cell 2 rfl, hb.cell 3 rfl, hb.cell 4 rfl, hb.cell 5 rfl, hb.cell 6 rfl, hb.cell 7 rfl, hb.cell 8 rfl, hb.cell 9 rfl, hb.cell 10 rfl⟩
  · cases hy
/-- Tracks behind others. -/
theorem wpList_appK {ops : Array Oper} {rest : List Oper} {o : Oper} {a : Act} {Q : Exit → Act → World → Prop} (hgd : o.guard = none) (s x : Operand)
    (ho : o.op = .call { callee := .builtin .append, args := #[s, x], argTypes := #[24, 24] })
    (B : Nat) (v : Value) (n : Nat) (fs : List Tk) (hs : a.eval s = v) (hn : n = fs.length) (hown : OwnK w B v fs) (g0 o0 m c : Nat) (us : List Tk) (hx : a.eval x = .slice (some ⟨g0, o0, none⟩) m c) (hm : us.length = m)
    (hu : Els RTk 11 w (.slice (some ⟨g0, o0, none⟩) m c) us) (h0 : 0 < m) (hl : n + m ≤ 1000000) (hB : B ≤ w.heap.size)
    (h : ∀ g cap w', OwnK w' B (.slice (some ⟨g, 0, none⟩) (n + m) cap) (fs ++ us) → Below B w w' → wpList Try.prog ops Q rest (a.put o.dst (.slice (some ⟨g, 0, none⟩) (n + m) cap)) w') : wpList Try.prog ops Q (o :: rest) a w := by
  obtain ⟨i0, hi, hz0, hz1, hz2⟩ := info_parts infoTk
  refine wpList_append_lies w hgd s x 24 ho B 43 i0 (.agg #[.bool false, .int .i64 0, .int .i64 0, .bool false, .int .i64 0, .int .i64 0, .bool false, .bool false, .int .i64 0, .bool false, .bool false]) 11 80 Try.underlying24 hi hz0 hz1 hz2 rfl (by decide) v n (fs.flatMap tkl) hs (by rw [hn]; exact hown)
    ⟨g0, o0, none⟩ m c (us.flatMap tkl) hx (by rw [tkl_len, hm]) (elsK_cells hu) (tkl_one us) h0 (by unfold maxLen; omega) (by omega) hB _ rfl (fun g cap w' h1 h2 _ _ => h g cap w' ?_ (hown.grown h2 hB))
  unfold OwnK
  rw [List.length_append, List.flatMap_append, hm, ← hn]
  exact h1
/-- .. at a step of a region that draws its order. -/
theorem step_appK {ops : Array Oper} {o : Oper} {a : Act} {K : Act → World → Prop} {Q : Exit → Act → World → Prop} {E : Prop} (hgd : o.guard = none) (s x : Operand)
    (ho : o.op = .call { callee := .builtin .append, args := #[s, x], argTypes := #[24, 24] })
    (B : Nat) (v : Value) (n : Nat) (fs : List Tk) (hs : a.eval s = v) (hn : n = fs.length) (hown : OwnK w B v fs) (g0 o0 m c : Nat) (us : List Tk) (hx : a.eval x = .slice (some ⟨g0, o0, none⟩) m c) (hm : us.length = m)
    (hu : Els RTk 11 w (.slice (some ⟨g0, o0, none⟩) m c) us) (h0 : 0 < m) (hl : n + m ≤ 1000000) (hB : B ≤ w.heap.size) (N : Nat) (hN : n + m = N)
    (h : ∀ g cap w', OwnK w' B (.slice (some ⟨g, 0, none⟩) N cap) (fs ++ us) → Below B w w' → w.grownBy w' v.ownBlock → K (a.put o.dst (.slice (some ⟨g, 0, none⟩) N cap)) w') :
    if Region.wanted o (yielded ops a.tmps) = true then Oper.wp Try.prog o a w K Q else E := by
  obtain ⟨i0, hi, hz0, hz1, hz2⟩ := info_parts infoTk
  subst hN
  refine step_append_lies w hgd s x 24 ho B 43 i0 (.agg #[.bool false, .int .i64 0, .int .i64 0, .bool false, .int .i64 0, .int .i64 0, .bool false, .bool false, .int .i64 0, .bool false, .bool false]) 11 80 Try.underlying24 hi hz0 hz1 hz2 rfl (by decide) v n (fs.flatMap tkl) hs (by rw [hn]; exact hown)
    ⟨g0, o0, none⟩ m c (us.flatMap tkl) hx (by rw [tkl_len, hm]) (elsK_cells hu) (tkl_one us) h0 (by unfold maxLen; omega) (by omega) hB _ rfl (fun g cap w' h1 h2 _ _ => h g cap w' ?_ (hown.grown h2 hB) h2)
  unfold OwnK
  rw [List.length_append, List.flatMap_append, hm, ← hn]
  exact h1
/-- Nothing behind tracks. -/
theorem step_appK0 {ops : Array Oper} {o : Oper} {a : Act} {K : Act → World → Prop} {Q : Exit → Act → World → Prop} {E : Prop} (hgd : o.guard = none) (s x : Operand)
    (ho : o.op = .call { callee := .builtin .append, args := #[s, x], argTypes := #[24, 24] }) (g n cap : Nat) (a0 : Option Addr) (c0 : Nat) (hs : a.eval s = .slice (some ⟨g, 0, none⟩) n cap) (hn : n ≤ cap) (hx : a.eval x = .slice a0 0 c0)
    (h : K (a.put o.dst (.slice (some ⟨g, 0, none⟩) n cap)) w) : if Region.wanted o (yielded ops a.tmps) = true then Oper.wp Try.prog o a w K Q else E := by
  obtain ⟨i0, hi, hz0, hz1, hz2⟩ := info_parts infoTk
  have hw : Region.wanted o (yielded ops a.tmps) = true := by simp [Region.wanted, hgd]
  rw [if_pos hw]
  have hsrc : Src Try.prog i0.size 24 (.slice a0 0 c0) 0 [] w := by
    cases a0 with
    | none => exact Src.ofNil w Try.underlying24 c0
    | some ad => exact Src.ofSlice w Try.underlying24 ad 0 c0 [] (by simp) (fun j u hu => by simp at hu) (fun u hu => by cases hu)
  have hrun := run_append_nothing w 24 24 o.type 43 i0 Try.underlying24 hi (some ⟨g, 0, none⟩) n cap hn (.slice a0 0 c0) hsrc
  unfold Oper.wp
  simp [execOp, ho, resolve, invoke, builtin, hs, hx, hrun, Result.andThen]
  exact h
end Go.Proofs.Ytalfcbgffgikkaa
