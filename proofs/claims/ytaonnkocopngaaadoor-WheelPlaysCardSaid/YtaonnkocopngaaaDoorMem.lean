/-
  A wheel in memory: its time, its timers, its slots, each of which owns its list; what is kept and what is not.
-/
import Derived.Test.YtaonnkocopngaaaDoorCore
import Derived.Test.YtaonnkocopngaaaDoorMath
import Derived.Laws.OwnMore
import Derived.OwnWalk
import Derived.Laws.MakeOwn
import Derived.Deep.AppendLies
import Derived.BigQuiet
import Derived.Deep.QuietTactic
namespace Go.Proofs.YtaonnkocopngaaaDoor
open Go.RowKit

/-- Nothing older has changed but blocks of F. -/
structure Keep (F : Nat → Prop) (w w' : World) : Prop where
  os : w'.os = w.os
  tape : w'.tape = w.tape
  output : w'.output = w.output
  size : w.heap.size ≤ w'.heap.size
  block : ∀ k, k < w.heap.size → ¬ F k → w'.heap[k]? = w.heap[k]?
theorem Keep.refl (F : Nat → Prop) (w : World) : Keep F w w := ⟨rfl, rfl, rfl, Nat.le_refl _, fun _ _ _ => rfl⟩
theorem Keep.trans {F G : Nat → Prop} {w w1 w2 : World} (h : Keep F w w1) (k : Keep G w1 w2) (hs : ∀ g, G g → F g ∨ w.heap.size ≤ g) : Keep F w w2 :=
  ⟨k.os.trans h.os, k.tape.trans h.tape, k.output.trans h.output, Nat.le_trans h.size k.size, fun i hi hn => (k.block i (Nat.lt_of_lt_of_le hi h.size) (fun hg => (hs i hg).elim hn (fun h => by omega))).trans (h.block i hi hn)⟩
theorem Keep.mono {F G : Nat → Prop} {w w1 : World} (h : Keep F w w1) (hs : ∀ g, F g → G g) : Keep G w w1 := ⟨h.os, h.tape, h.output, h.size, fun i hi hn => h.block i hi fun hf => hn (hs i hf)⟩
theorem Keep.of_below {F : Nat → Prop} {w w' : World} (h : Below w.heap.size w w') : Keep F w w' := ⟨h.os, h.tape, h.output, h.size, fun k hk _ => h.block k hk⟩
theorem Keep.below {F : Nat → Prop} {B : Nat} {w w' : World} (h : Keep F w w') (hb : ∀ g, F g → B ≤ g) (hB : B ≤ w.heap.size) : Below B w w' :=
  ⟨h.os, h.tape, h.output, h.size, fun k hk => h.block k (by omega) (fun hf => by have := hb k hf; omega)⟩
theorem Keep.set_ {F : Nat → Prop} (w : World) (b o : Nat) (u : Value) (hb : F b) : Keep F w (w.setCell ⟨b, o, none⟩ u) :=
  ⟨rfl, rfl, rfl, by simp [World.setCell], fun k _ hn => Below.heap_setCell _ _ _ _ (fun h => hn (by rw [h]; exact hb))⟩
theorem Keep.alloc {F : Nat → Prop} {w w' : World} (h : Keep F w w') (o : Obj) : Keep F w (w'.alloc o) :=
  h.trans (Keep.of_below (F := fun _ => False) (below_alloc (Below.refl _ w') o)) (fun _ h => h.elim)
theorem Keep.grown {F : Nat → Prop} {w w' : World} {r : Option Nat} (h : w.grownBy w' r) (hr : ∀ g, r = some g → F g) : Keep F w w' :=
  ⟨h.os, h.tape, h.output, h.size, fun k hk hn => h.block k hk (fun e => hn (hr k e.symm))⟩
theorem Keep.drewN {F : Nat → Prop} (w : World) (m : Nat) : Keep F w (w.drewN m) := ⟨rfl, rfl, rfl, Nat.le_refl _, fun _ _ _ => rfl⟩
theorem below_keep {F : Nat → Prop} {w0 w w' : World} (h0 : Below w0.heap.size w0 w) (h : Keep F w w') (hb : ∀ g, F g → w0.heap.size ≤ g) : Below w0.heap.size w0 w' := h0.trans (h.below hb h0.size)

/-- A number as a cell. -/
def nc (i : Nat) : Value := .int .i64 (i : Int)
/-- The slice v owns the elements xs, each one cell, as f lays it. -/
def Own {α : Type} (f : α → Value) (w : World) (v : Value) (xs : List α) : Prop := w.ownsRow 0 3 1 v xs.length (xs.map f)
theorem infoI : (Tryd.prog.info? 3).map (fun i => (i.zero, i.size, i.bytes)) = some (some (.int .i64 0), 1, 8) := by kernel_rfl

theorem own_nil {α : Type} (f : α → Value) (w : World) : Own f w (.slice none 0 0) [] := World.ownsRow_nil w 0 3 1
theorem Own.form {α : Type} {f : α → Value} {w : World} {v : Value} {xs : List α} (h : Own f w v xs) : (v = .slice none 0 0 ∧ xs = []) ∨ ∃ g cap, v = .slice (some ⟨g, 0, none⟩) xs.length cap ∧ g < w.heap.size := by
  rcases h.2 with ⟨h1, hn⟩ | ⟨g, cap, cur, rfl, hB, hg, hcap, hm, hs, ht⟩
  · exact .inl ⟨h1, List.length_eq_zero_iff.1 hn⟩
  · refine .inr ⟨g, cap, rfl, ?_⟩
    rcases Nat.lt_or_ge g w.heap.size with hlt | hge
    · exact hlt
    · rw [Array.getElem?_eq_none hge] at hg; cases hg
theorem Own.len {α : Type} {f : α → Value} {w : World} {v : Value} {xs : List α} (h : Own f w v xs) : ∃ a c, v = .slice a xs.length c := by
  rcases h.form with ⟨h1, rfl⟩ | ⟨g, cap, h1, _⟩
  · exact ⟨_, _, h1⟩
  · exact ⟨_, _, h1⟩
theorem Own.at_ {α : Type} {f : α → Value} {w : World} {v : Value} {xs : List α} (h : Own f w v xs) (k : Nat) (x : α) (hx : xs[k]? = some x) :
    ∃ g cap, v = .slice (some ⟨g, 0, none⟩) xs.length cap ∧ g < w.heap.size ∧ w.cell? ⟨g, k, none⟩ = some (f x) ∧ w.frozen? ⟨g, k, none⟩ = false := by
  have hk : k < xs.length := (List.getElem?_eq_some_iff.1 hx).1
  rcases h.form with ⟨_, rfl⟩ | ⟨g, cap, rfl, hg⟩
  · simp at hk
  · refine ⟨g, cap, rfl, hg, ?_, World.ownsRow.frozenAt h k⟩
    rw [World.ownsRow.cellAt h k (by omega)]
    simp [hx]
theorem Own.keep {α : Type} {f : α → Value} {F : Nat → Prop} {w w' : World} {v : Value} {xs : List α} (h : Own f w v xs) (hk : Keep F w w') (hn : ∀ g, v.ownBlock = some g → ¬ F g) : Own f w' v xs := by
  refine ⟨h.1, ?_⟩
  rcases h.2 with h1 | ⟨g, cap, cur, rfl, hB, hg, rest⟩
  · exact .inl h1
  · refine .inr ⟨g, cap, cur, rfl, hB, ?_, rest⟩
    have hlt : g < w.heap.size := by
      rcases Nat.lt_or_ge g w.heap.size with h1 | h1
      · exact h1
      · rw [Array.getElem?_eq_none h1] at hg; cases hg
    rw [hk.block g hlt (hn g rfl)]; exact hg
theorem Own.lt {α : Type} {f : α → Value} {w : World} {v : Value} {xs : List α} (h : Own f w v xs) {g : Nat} (hg : v.ownBlock = some g) : g < w.heap.size := (World.ownsRow.lt h g hg).2
theorem Own.set_ {α : Type} {f : α → Value} {w : World} {g n cap : Nat} {xs : List α} (h : Own f w (.slice (some ⟨g, 0, none⟩) n cap) xs) (hn : n = xs.length) (k : Nat) (x : α) :
    Own f (w.setCell ⟨g, k, none⟩ (f x)) (.slice (some ⟨g, 0, none⟩) n cap) (xs.set k x) := by
  subst hn
  have := (World.ownsRow.stored h k (f x)).1
  unfold Own
  rw [List.length_set, List.map_set]
  exact this

/-- One more behind the others. -/
theorem wpList_app1 {α : Type} {f : α → Value} (hf : ∀ x, (f x).oneCell' = true) {w : World} {ops : Array Oper} {rest : List Oper} {o : Oper} {a : Act} {Q : Exit → Act → World → Prop} (hgd : o.guard = none) (s x : Operand)
    (ho : o.op = .call { callee := .builtin .append, args := #[s, x], argTypes := #[39, 39] })
    (v : Value) (xs : List α) (hs : a.eval s = v) (hown : Own f w v xs) (ad : Addr) (y : α) (hx : a.eval x = .slice (some ad) 1 1) (hy : w.cell? ad = some (f y)) (hm : xs.length ≤ 1000000)
    (h : ∀ g cap w', Own f w' (.slice (some ⟨g, 0, none⟩) (xs.length + 1) cap) (xs ++ [y]) → w.grownBy w' v.ownBlock → (v.ownBlock = some g ∨ g = w.heap.size) → g < w'.heap.size → wpList Tryd.prog ops Q rest (a.put o.dst (.slice (some ⟨g, 0, none⟩) (xs.length + 1) cap)) w') :
    wpList Tryd.prog ops Q (o :: rest) a w := by
  obtain ⟨i0, hi, hz0, hz1, hz2⟩ := info_parts infoI
  refine wpList_append_lies w hgd s x 39 ho 0 3 i0 (.int .i64 0) 1 8 Tryd.underlying39 hi hz0 hz1 hz2 rfl (by decide) v xs.length (xs.map f) hs hown ad 1 1 [f y] hx rfl
    (fun j u hu => ?_) (fun u hu => ?_) (by decide) (by unfold maxLen; omega) (by omega) (Nat.zero_le _) _ rfl (fun g cap w' h1 h2 h3 h4 => h g cap w' ?_ h2 h3 h4)
  · rcases j with _ | j
    · simp at hu
      rw [← hu, show ad.add 0 = ad by unfold Addr.add; simp]
      exact hy
    · simp at hu
  · simp at hu
    rw [hu]; exact hf y
  · unfold Own
    rw [List.length_append, List.map_append]
    exact h1

/-- A timer of the pool, as it lies there. -/
structure Ent where
  armed : Bool
  tag : Int
  due : Nat
def upd {α : Type} (f : Nat → α) (i : Nat) (x : α) : Nat → α := fun j => if j = i then x else f j
theorem upd_same {α : Type} (f : Nat → α) (i : Nat) (x : α) : upd f i x i = x := if_pos rfl
theorem upd_other {α : Type} (f : Nat → α) (i : Nat) (x : α) {j : Nat} (h : j ≠ i) : upd f i x j = f j := if_neg h

/-- A wheel at block b, of n timers (at block tb), at the time now; the slot k (of 256) is the value vs k, and holds the timers S k. -/
structure Wh (w : World) (b tb n now : Nat) (vs : Nat → Value) (en : Nat → Ent) (S : Nat → List Nat) : Prop where
  row : ∃ c : Array Value, w.heap[b]? = some (.cells c 53 (0, 0)) ∧ c.size = 258 ∧ c[0]? = some (.int .u64 (now : Int)) ∧ c[1]? = some (.slice (some ⟨tb, 0, none⟩) n n) ∧ ∀ k, k < 256 → c[2 + k]? = some (vs k)
  ents : ∃ c : Array Value, w.heap[tb]? = some (.cells c 60 (0, 0)) ∧ c.size = n * 3 ∧ ∀ i, i < n → c[i * 3]? = some (.bool (en i).armed) ∧ c[i * 3 + 1]? = some (.int .i64 (en i).tag) ∧ c[i * 3 + 2]? = some (.int .u64 ((en i).due : Int))
  own : ∀ k, k < 256 → Own nc w (vs k) (S k)
  ne : b ≠ tb
  nb : ∀ k, k < 256 → (vs k).ownBlock ≠ some b ∧ (vs k).ownBlock ≠ some tb
  two : ∀ j k g, j < 256 → k < 256 → j ≠ k → (vs j).ownBlock = some g → (vs k).ownBlock ≠ some g
/-- The blocks of a wheel. -/
def Fp (b tb : Nat) (vs : Nat → Value) (g : Nat) : Prop := g = b ∨ g = tb ∨ ∃ k, k < 256 ∧ (vs k).ownBlock = some g

theorem lt_of_block {w : World} {g : Nat} {o : Obj} (h : w.heap[g]? = some o) : g < w.heap.size := by
  rcases Nat.lt_or_ge g w.heap.size with h1 | h1
  · exact h1
  · rw [Array.getElem?_eq_none h1] at h; cases h
variable {w w' : World} {b tb n now : Nat} {vs : Nat → Value} {en : Nat → Ent} {S : Nat → List Nat}
theorem Wh.blt (h : Wh w b tb n now vs en S) : b < w.heap.size := let ⟨_, h, _⟩ := h.row; lt_of_block h
theorem Wh.tlt (h : Wh w b tb n now vs en S) : tb < w.heap.size := let ⟨_, h, _⟩ := h.ents; lt_of_block h
theorem Wh.flt (h : Wh w b tb n now vs en S) : ∀ g, Fp b tb vs g → g < w.heap.size := by
  rintro g (rfl | rfl | ⟨k, hk, hg⟩)
  · exact h.blt
  · exact h.tlt
  · exact (h.own k hk).lt hg
theorem Wh.now_ (h : Wh w b tb n now vs en S) : w.cell? ⟨b, 0, none⟩ = some (.int .u64 (now : Int)) ∧ w.frozen? ⟨b, 0, none⟩ = false := by
  obtain ⟨c, h1, _, h2, _⟩ := h.row
  exact ⟨by rw [cell_of_row w b 0 _ _ _ h1]; exact h2, frozen_of_row w b 0 _ _ h1⟩
theorem Wh.tims (h : Wh w b tb n now vs en S) : w.cell? ⟨b, 1, none⟩ = some (.slice (some ⟨tb, 0, none⟩) n n) := by
  obtain ⟨c, h1, _, _, h2, _⟩ := h.row
  rw [cell_of_row w b 1 _ _ _ h1]; exact h2
theorem Wh.slot (h : Wh w b tb n now vs en S) (k : Nat) (hk : k < 256) : w.cell? ⟨b, 2 + k, none⟩ = some (vs k) ∧ w.frozen? ⟨b, 2 + k, none⟩ = false := by
  obtain ⟨c, h1, _, _, _, h2⟩ := h.row
  exact ⟨by rw [cell_of_row w b _ _ _ _ h1]; exact h2 k hk, frozen_of_row w b _ _ _ h1⟩
theorem Wh.ent (h : Wh w b tb n now vs en S) (i : Nat) (hi : i < n) : w.cell? ⟨tb, i * 3, none⟩ = some (.bool (en i).armed) ∧ w.cell? ⟨tb, i * 3 + 1, none⟩ = some (.int .i64 (en i).tag) ∧ w.cell? ⟨tb, i * 3 + 2, none⟩ = some (.int .u64 ((en i).due : Int)) := by
  obtain ⟨c, h1, _, h2⟩ := h.ents
  obtain ⟨a1, a2, a3⟩ := h2 i hi
  refine ⟨?_, ?_, ?_⟩
  · rw [cell_of_row w tb _ _ _ _ h1]; exact a1
  · rw [cell_of_row w tb _ _ _ _ h1]; exact a2
  · rw [cell_of_row w tb _ _ _ _ h1]; exact a3
theorem Wh.frz (h : Wh w b tb n now vs en S) (k : Nat) : w.frozen? ⟨tb, k, none⟩ = false := by
  obtain ⟨c, h1, _⟩ := h.ents
  exact frozen_of_row w tb _ _ _ h1
theorem Wh.keep {F : Nat → Prop} (h : Wh w b tb n now vs en S) (hk : Keep F w w') (hn : ∀ g, Fp b tb vs g → ¬ F g) : Wh w' b tb n now vs en S := by
  obtain ⟨c, h1, hr⟩ := h.row
  obtain ⟨d, e1, er⟩ := h.ents
  refine ⟨⟨c, ?_, hr⟩, ⟨d, ?_, er⟩, fun k hk' => (h.own k hk').keep hk (fun g hg => hn g (.inr (.inr ⟨k, hk', hg⟩))), h.ne, h.nb, h.two⟩
  · rw [hk.block b h.blt (hn b (.inl rfl))]; exact h1
  · rw [hk.block tb h.tlt (hn tb (.inr (.inl rfl)))]; exact e1
theorem Wh.below (h : Wh w b tb n now vs en S) (hb : Below w.heap.size w w') : Wh w' b tb n now vs en S := h.keep (Keep.of_below (F := fun _ => False) hb) (fun _ _ h => h)
theorem Wh.setNow (h : Wh w b tb n now vs en S) (t : Nat) : Wh (w.setCell ⟨b, 0, none⟩ (.int .u64 (t : Int))) b tb n t vs en S := by
  obtain ⟨c, h1, h2, h3, h4, h5⟩ := h.row
  have hk := Keep.set_ (F := fun g => g = b) w b 0 (.int .u64 (t : Int)) rfl
  obtain ⟨d, e1, er⟩ := h.ents
  refine ⟨⟨c.setIfInBounds 0 (.int .u64 (t : Int)), heap_setCell_same w b 0 _ _ _ h1, by simpa using h2, ?_, ?_, fun k hk => ?_⟩, ⟨d, ?_, er⟩, fun k hk' => (h.own k hk').keep hk (fun g hg hb => (h.nb k hk').1 (by rw [hg, hb])), h.ne, h.nb, h.two⟩
  · rw [Array.getElem?_setIfInBounds]; simp [h2]
  · rw [Array.getElem?_setIfInBounds]; simpa using h4
  · rw [Array.getElem?_setIfInBounds, if_neg (by omega)]; exact h5 k hk
  · rw [hk.block tb h.tlt (fun e => h.ne e.symm)]; exact e1
/-- A slot's value changes, and what it owns. -/
theorem Wh.setSlot (h : Wh w b tb n now vs en S) {r : Option Nat} {k : Nat} (hk : k < 256) (hr : r = none ∨ r = (vs k).ownBlock) (hg : w.grownBy w' r) {v : Value} {xs : List Nat} (ho : Own nc w' v xs)
    (hv : v.ownBlock = none ∨ v.ownBlock = (vs k).ownBlock ∨ ∃ g, v.ownBlock = some g ∧ w.heap.size ≤ g) :
    Wh (w'.setCell ⟨b, 2 + k, none⟩ v) b tb n now (upd vs k v) en (upd S k xs) ∧ Keep (Fp b tb vs) w (w'.setCell ⟨b, 2 + k, none⟩ v) ∧ ∀ g, Fp b tb (upd vs k v) g → Fp b tb vs g ∨ w.heap.size ≤ g := by
  have hrk : ∀ g, r = some g → (vs k).ownBlock = some g := fun g hg => by rcases hr with h | h <;> simp_all
  have hk1 : Keep (fun g => (vs k).ownBlock = some g) w w' := Keep.grown hg hrk
  have hvne : ∀ g, v.ownBlock = some g → (vs k).ownBlock = some g ∨ w.heap.size ≤ g := by
    intro g hg
    rcases hv with h | h | ⟨g', h, h'⟩
    · rw [h] at hg; cases hg
    · exact .inl (by rw [← h]; exact hg)
    · rw [h] at hg; cases hg; exact .inr h'
  have hvb : v.ownBlock ≠ some b := fun e => by
    rcases hvne b e with h1 | h1
    · exact (h.nb k hk).1 h1
    · have := h.blt; omega
  have hvt : v.ownBlock ≠ some tb := fun e => by
    rcases hvne tb e with h1 | h1
    · exact (h.nb k hk).2 h1
    · have := h.tlt; omega
  have hk2 : Keep (fun g => g = b) w' (w'.setCell ⟨b, 2 + k, none⟩ v) := Keep.set_ w' b _ _ rfl
  obtain ⟨c, h1, h2, h3, h4, h5⟩ := h.row
  obtain ⟨d, e1, er⟩ := h.ents
  have h1' : w'.heap[b]? = some (.cells c 53 (0, 0)) := by rw [hk1.block b h.blt (h.nb k hk).1]; exact h1
  refine ⟨⟨⟨c.setIfInBounds (2 + k) v, heap_setCell_same w' b _ _ _ _ h1', by simpa using h2, ?_, ?_, fun j hj => ?_⟩, ⟨d, ?_, er⟩, fun j hj => ?_, h.ne, fun j hj => ?_, fun i j g hi hj hij => ?_⟩, ?_, ?_⟩
  · rw [Array.getElem?_setIfInBounds, if_neg (by omega)]; exact h3
  · rw [Array.getElem?_setIfInBounds, if_neg (by omega)]; exact h4
  · rw [Array.getElem?_setIfInBounds]
    by_cases e : j = k
    · subst e; simp [upd_same, h2]; omega
    · rw [if_neg (by omega), upd_other _ _ _ e]; exact h5 j hj
  · rw [hk2.block tb (Nat.lt_of_lt_of_le h.tlt hk1.size) (fun e => h.ne e.symm), hk1.block tb h.tlt (h.nb k hk).2]; exact e1
  · by_cases e : j = k
    · subst e
      rw [upd_same, upd_same]
      exact ho.keep hk2 (fun g hg hb => hvb (by rw [hg, hb]))
    · rw [upd_other _ _ _ e, upd_other _ _ _ e]
      exact ((h.own j hj).keep hk1 (fun g hg hb => h.two j k g hj hk e hg hb)).keep hk2 (fun g hg hb => (h.nb j hj).1 (by rw [hg, hb]))
  · by_cases e : j = k
    · subst e; rw [upd_same]; exact ⟨hvb, hvt⟩
    · rw [upd_other _ _ _ e]; exact h.nb j hj
  · by_cases e : i = k
    · subst e
      rw [upd_same, upd_other _ _ _ (fun e => hij e.symm)]
      intro hg hjg
      rcases hvne g hg with h1 | h1
      · exact h.two i j g hk hj hij h1 hjg
      · have := (h.own j hj).lt hjg; omega
    · rw [upd_other _ _ _ e]
      by_cases e2 : j = k
      · subst e2
        rw [upd_same]
        intro hg hjg
        rcases hvne g hjg with h1 | h1
        · exact h.two i j g hi hj hij hg h1
        · have := (h.own i hi).lt hg; omega
      · rw [upd_other _ _ _ e2]; exact h.two i j g hi hj hij
  · exact (hk1.mono (G := Fp b tb vs) (fun g hg => .inr (.inr ⟨k, hk, hg⟩))).trans hk2 (fun g hg => .inl (.inl hg))
  · rintro g (hg | hg | ⟨j, hj, hg⟩)
    · exact .inl (.inl hg)
    · exact .inl (.inr (.inl hg))
    · by_cases e : j = k
      · subst e
        rw [upd_same] at hg
        rcases hvne g hg with h1 | h1
        · exact .inl (.inr (.inr ⟨j, hj, h1⟩))
        · exact .inr h1
      · rw [upd_other _ _ _ e] at hg
        exact .inl (.inr (.inr ⟨j, hj, hg⟩))
end Go.Proofs.YtaonnkocopngaaaDoor
