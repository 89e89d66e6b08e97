/-
  Signals that a slice owns; append of signals.
-/
import Derived.Test.YtdgaaikmhbppeaaLoOpen
import Derived.Test.YtdgaaikmhbppeaaBlk
import Derived.Deep.AppendLies
import Derived.Deep.Upon
namespace Go.Proofs.Ytdgaaikmhbppeaa
open Go.RowKit

theorem infoLo : (Try.prog.info? 27).map (fun i => (i.zero, i.size, i.bytes)) = some (some (.agg #[.bool false, .int .i64 0]), 2, 16) := by kernel_rfl
/-- A signal's cells. -/
def lol (y : Lo) : List Value := [.bool y.c, .int .i64 y.h]
theorem lol_len (fs : List Lo) : (fs.flatMap lol).length = fs.length * 2 := by
  induction fs with
  | nil => rfl
  | cons a t ih =>
    rw [List.flatMap_cons, List.length_append, ih, List.length_cons]
    show 2 + t.length * 2 = _
    omega
theorem lol_at : ∀ (fs : List Lo) (j : Nat) (f : Lo) (r : Nat), r < 2 → fs[j]? = some f → (fs.flatMap lol)[j * 2 + r]? = (lol f)[r]?
  | [], j, l, r, _, h => by simp at h
  | c :: t, 0, l, r, hr, h => by
    simp at h
    subst h
    rw [List.flatMap_cons, List.getElem?_append_left (by show 0 * 2 + r < 2; omega), Nat.zero_mul, Nat.zero_add]
  | c :: t, j + 1, l, r, hr, h => by
    have ih := lol_at t j l r hr (by simpa using h)
    have hl : (lol c).length = 2 := rfl
    rw [List.flatMap_cons, List.getElem?_append_right (by omega), hl, show (j + 1) * 2 + r - 2 = j * 2 + r by omega]
    exact ih
theorem lol_one (fs : List Lo) : ∀ u ∈ fs.flatMap lol, u.oneCell' = true := by
  intro u hu
  obtain ⟨a, _, h⟩ := List.mem_flatMap.1 hu
  simp [lol] at h
  rcases h with rfl | rfl <;> rfl
/-- The slice v owns the signals fs, at a block from B on. -/
def OwnLo (w : World) (B : Nat) (v : Value) (fs : List Lo) : Prop := w.ownsRow B 27 2 v fs.length (fs.flatMap lol)
theorem ownLo_nil (w : World) (B : Nat) : OwnLo w B (.slice none 0 0) [] := World.ownsRow_nil w B 27 2
theorem ownLo_lit (w : World) (B : Nat) (hB : B ≤ w.heap.size) : OwnLo (w.alloc (.cells #[] 27)) B (.slice (some ⟨w.heap.size, 0, none⟩) 0 0) [] := World.ownsRow_made w #[] 0 hB (by decide) rfl
variable {B : Nat} {w w' : World} {v : Value} {fs : List Lo}
theorem OwnLo.lt (h : OwnLo w B v fs) {g : Nat} (hg : v.ownBlock = some g) : B ≤ g ∧ g < w.heap.size := World.ownsRow.lt h g hg
theorem OwnLo.keep {F : Nat → Prop} (h : OwnLo w B v fs) (hk : Keep F w w') (hn : ∀ g, v.ownBlock = some g → ¬ F g) : OwnLo w' B v fs := by
  refine ⟨h.1, ?_⟩
  rcases h.2 with h1 | ⟨g, cap, cur, rfl, hB, hg, rest⟩
  · exact .inl h1
  · refine .inr ⟨g, cap, cur, rfl, hB, ?_, rest⟩
    rw [hk.block g (lt_of_block hg) (hn g rfl)]; exact hg
theorem OwnLo.below (h : OwnLo w B v fs) (hb : Below w.heap.size w w') : OwnLo w' B v fs := h.keep (F := fun _ => False) (Keep.of_below hb) (fun _ _ h => h.elim)
theorem OwnLo.grown (h : OwnLo w B v fs) (hg : w.grownBy w' v.ownBlock) (hB : B ≤ w.heap.size) : Below B w w' := (Below.refl B w).grown hg hB fun k hk => (World.ownsRow.lt h k hk).1
/-- It lies in no block of another kind. -/
theorem OwnLo.ne {g : Nat} {C : Array Value} {T : TypeId} (h : OwnLo w B v fs) (hb : Blk w g C T) (hT : T ≠ 27) : v.ownBlock ≠ some g := by
  intro he
  rcases h.2 with ⟨rfl, _⟩ | ⟨g', cap, cur, rfl, hB, hg, rest⟩
  · cases he
  · simp only [Value.ownBlock, Option.some.injEq] at he
    subst he
    unfold Blk at hb
    rw [hg] at hb
    simp only [Option.some.injEq, Obj.cells.injEq] at hb
    exact hT hb.2.1.symm
theorem OwnLo.els (h : OwnLo w B v fs) (hr : ∀ y ∈ fs, LoR y.h) : Els RLo 2 w v fs := by
  rcases h.2 with ⟨rfl, hn⟩ | ⟨g, cap, cur, rfl, hB, hg, hcap, hm, hs, ht⟩
  · obtain rfl := List.length_eq_zero_iff.1 hn
    exact ⟨none, 0, rfl, fun j y h => by cases h⟩
  · refine ⟨some ⟨g, 0, none⟩, cap, rfl, fun j y hy => ⟨g, 0, rfl, ?_⟩⟩
    have hk : j < fs.length := (List.getElem?_eq_some_iff.1 hy).1
    have c : ∀ r, r < 2 → w.cell? ⟨g, 0 + j * 2 + r, none⟩ = (lol y)[r]? := fun r hr => by
      rw [Nat.zero_add, World.ownsRow.cellAt h _ (by omega)]
      exact lol_at fs j y r hr hy
    exact ⟨c 0 (by decide), c 1 (by decide), hr y (List.mem_of_getElem? hy)⟩
/-- Where signals lie one behind another. -/
theorem elsLo_cells {g o m c : Nat} {us : List Lo} (h : Els RLo 2 w (.slice (some ⟨g, o, none⟩) m c) us) : ∀ (j : Nat) u, (us.flatMap lol)[j]? = some u → w.cell? ((⟨g, o, none⟩ : Addr).add j) = some u := by
  intro j u hu
  rw [plain_add]
  have hj : j < us.length * 2 := by rw [← lol_len]; exact (List.getElem?_eq_some_iff.1 hu).1
  obtain ⟨a, ha⟩ : ∃ a, us[j / 2]? = some a := ⟨_, List.getElem?_eq_getElem (by omega)⟩
  obtain ⟨g', o', e, h0, h1, _⟩ := h.at_ ha
  simp only [Option.some.injEq, Addr.mk.injEq] at e
  obtain ⟨rfl, rfl, _⟩ := e
  have hc := lol_at us (j / 2) a (j % 2) (by omega) ha
  rw [show j / 2 * 2 + j % 2 = j by omega, hu] at hc
  rcases (show j % 2 = 0 ∨ j % 2 = 1 by omega) with e | e
  · rw [e] at hc; rw [show o + j = o + j / 2 * 2 by omega, h0]; exact hc.symm
  · rw [e] at hc; rw [show o + j = o + j / 2 * 2 + 1 by omega, h1]; exact hc.symm
/-- One signal at the head of a block. -/
theorem elsLo_one {w : World} {g : Nat} (c : Bool) (h : Int) (T : TypeId) (hb : Blk w g #[.bool c, .int .i64 h] T) (hr : LoR h) : Els RLo 2 w (.slice (some ⟨g, 0, none⟩) 1 1) [⟨c, h⟩] := by
  refine ⟨_, 1, rfl, fun j y' hy => ⟨_, _, rfl, ?_⟩⟩
  rcases j with _ | j
  · cases hy
    exact ⟨hb.cell 0 rfl, hb.cell 1 rfl, hr⟩
  · cases hy
theorem elsLo_none (a0 : Option Addr) (c0 : Nat) (w : World) : Els RLo 2 w (.slice a0 0 c0) [] := ⟨a0, c0, rfl, fun j y hy => by simp at hy⟩
/-- Signals behind others, at a step of a region that draws its order, guarded or not. -/
theorem step_appLo {ops : Array Oper} {o : Oper} {a : Act} {K : Act → World → Prop} {Q : Exit → Act → World → Prop} {E : Prop} (hw : Region.wanted o (yielded ops a.tmps) = true) (s x : Operand)
    (ho : o.op = .call { callee := .builtin .append, args := #[s, x], argTypes := #[22, 22] })
    (B : Nat) (v : Value) (n : Nat) (fs : List Lo) (hs : a.eval s = v) (hn : n = fs.length) (hown : OwnLo w B v fs) (g0 o0 m c : Nat) (us : List Lo) (hx : a.eval x = .slice (some ⟨g0, o0, none⟩) m c) (hm : us.length = m)
    (hu : Els RLo 2 w (.slice (some ⟨g0, o0, none⟩) m c) us) (h0 : 0 < m) (hl : n + m ≤ 1000000) (hB : B ≤ w.heap.size) (N : Nat) (hN : n + m = N)
    (h : ∀ g cap w', OwnLo w' B (.slice (some ⟨g, 0, none⟩) N cap) (fs ++ us) → Below B w w' → w.grownBy w' v.ownBlock → K (a.put o.dst (.slice (some ⟨g, 0, none⟩) N cap)) w') :
    if Region.wanted o (yielded ops a.tmps) = true then Oper.wp Try.prog o a w K Q else E := by
  obtain ⟨i0, hi, hz0, hz1, hz2⟩ := info_parts infoLo
  subst hN
  rw [if_pos hw]
  refine wp_append_lies w s x 22 ho B 27 i0 (.agg #[.bool false, .int .i64 0]) 2 16 Try.underlying22 hi hz0 hz1 hz2 rfl (by decide) v n (fs.flatMap lol) hs (by rw [hn]; exact hown)
    ⟨g0, o0, none⟩ m c (us.flatMap lol) hx (by rw [lol_len, hm]) (elsLo_cells hu) (lol_one us) h0 (by unfold maxLen; omega) (by omega) hB _ rfl (fun g cap w' h1 h2 _ _ => h g cap w' ?_ (hown.grown h2 hB) h2)
  unfold OwnLo
  rw [List.length_append, List.flatMap_append, hm, ← hn]
  exact h1
/-- Nothing behind signals. -/
theorem step_appLo0 {ops : Array Oper} {o : Oper} {a : Act} {K : Act → World → Prop} {Q : Exit → Act → World → Prop} {E : Prop} (hw : Region.wanted o (yielded ops a.tmps) = true) (s x : Operand)
    (ho : o.op = .call { callee := .builtin .append, args := #[s, x], argTypes := #[22, 22] }) (g n cap : Nat) (a0 : Option Addr) (c0 : Nat) (hs : a.eval s = .slice (some ⟨g, 0, none⟩) n cap) (hn : n ≤ cap) (hx : a.eval x = .slice a0 0 c0)
    (h : K (a.put o.dst (.slice (some ⟨g, 0, none⟩) n cap)) w) : if Region.wanted o (yielded ops a.tmps) = true then Oper.wp Try.prog o a w K Q else E := by
  obtain ⟨i0, hi, hz0, hz1, hz2⟩ := info_parts infoLo
  rw [if_pos hw]
  have hsrc : Src Try.prog i0.size 22 (.slice a0 0 c0) 0 [] w := by
    cases a0 with
    | none => exact Src.ofNil w Try.underlying22 c0
    | some ad => exact Src.ofSlice w Try.underlying22 ad 0 c0 [] (by simp) (fun j u hu => by simp at hu) (fun u hu => by cases hu)
  have hrun := run_append_nothing w 22 22 o.type 27 i0 Try.underlying22 hi (some ⟨g, 0, none⟩) n cap hn (.slice a0 0 c0) hsrc
  unfold Oper.wp
  simp [execOp, ho, resolve, invoke, builtin, hs, hx, hrun, Result.andThen]
  exact h
end Go.Proofs.Ytdgaaikmhbppeaa
