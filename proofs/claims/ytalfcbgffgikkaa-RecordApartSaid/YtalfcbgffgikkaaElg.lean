/-
  A slice of elements of whatever kind among the arguments, read at each index by a reader R of one element.
-/
import Derived.Test.YtalfcbgffgikkaaOpen
import Derived.Deep.Slices
import Derived.Deep.Strs
import Derived.Lib.SmallJoins
namespace Go.Proofs.Ytalfcbgffgikkaa
open Go.ChangeShapes Go.WideShapes Go.ChangeAt Go.RowKit

/-- The slice v holds the elements ls, each of sz cells, as R reads them at a block and a place. -/
def Els {α : Type} (R : World → Nat → Nat → α → Prop) (sz : Nat) (w : World) (v : Value) (ls : List α) : Prop :=
  ∃ a c, v = .slice a ls.length c ∧ ∀ (j : Nat) y, ls[j]? = some y → ∃ g o, a = some ⟨g, o, none⟩ ∧ R w g (o + j * sz) y
/-- In a cell, or handed over. -/
theorem open_els_at {α : Type} [Inhabited α] {R : World → Nat → Nat → α → Prop} {sz : Nat} {H : Type} {enc : TypeId × Value → H} {P : Program} {W : World} {t e : TypeId}
    (ht : P.underlying t = some (.slice e)) (hsz : P.cellsOf e = sz) (h0 : 0 < sz)
    (hR : ∀ (g o n : Nat) (cs : List Value) x, cs.length = sz → (∀ i, i < sz → W.cell? ⟨g, o + i, none⟩ = cs[i]?) → DataW.trod enc P W 0 (fun _ => true) true n e cs = some x → ∃ y, R W g o y)
    {a0 : Option Addr} {len cap : Nat} {d : DataW H} {p : List MemPlace} (h : DataW.Trod enc P W 0 (fun _ => true) true t (.slice a0 len cap) d p) :
    ∃ ls : List α, Els R sz W (.slice a0 len cap) ls ∧ ls.length ≤ maxLen := by
  obtain ⟨fuel, hf⟩ := h
  rcases Go.Deep.open_slice ht hf with ⟨hcs, hx⟩ | ⟨a, len', cap', m, n, D, Pl, hcs, _, hl, hm, hmm, hx, hcell⟩
  · simp [Value.cells] at hcs
    obtain ⟨rfl, rfl, rfl⟩ := hcs
    exact ⟨[], ⟨_, _, rfl, fun j y hy => by simp at hy⟩, by simp⟩
  · simp [Value.cells] at hcs
    obtain ⟨rfl, rfl, rfl⟩ := hcs
    simp only [if_true] at hmm
    subst hmm
    by_cases hlen : len = 0
    · subst hlen
      exact ⟨[], ⟨_, _, rfl, fun j y hy => by simp at hy⟩, by simp⟩
    have spot : a.spot = none := by
      obtain ⟨cs', h1, _⟩ := hcell 0 (by omega)
      rw [hsz] at h1
      obtain ⟨_, hlen', hc⟩ := World.cells?_some h1
      have := hc 0 h0
      rw [Go.Deep.add_add, List.getElem?_eq_getElem (by omega)] at this
      simpa [Addr.add] using World.cell?_spot this
    obtain ⟨b, off, sp⟩ := a
    obtain rfl : sp = none := spot
    have each : ∀ i, i < len → ∃ y : α, R W b (off + i * sz) y := by
      intro i hi
      obtain ⟨cs', h1, h2⟩ := hcell i (by omega)
      rw [hsz] at h1
      obtain ⟨_, hlen', hc⟩ := World.cells?_some h1
      refine hR b (off + i * sz) n cs' _ hlen' (fun j hj => ?_) h2
      have := hc j hj
      rw [Go.Deep.add_add, plain_add, ← Nat.add_assoc] at this
      exact this
    obtain ⟨f, hf⟩ := Go.Deep.choose_lt each
    refine ⟨(List.range len).map f, ⟨_, _, by simp only [List.length_map, List.length_range]; rfl, fun j y hy => ?_⟩, by simp; omega⟩
    have hj : j < len := by
      have := (List.getElem?_eq_some_iff.1 hy).1
      simpa using this
    rw [List.getElem?_map, List.getElem?_range hj] at hy
    simp only [Option.map_some, Option.some.injEq] at hy
    exact ⟨b, off, rfl, by rw [← hy]; exact hf j hj⟩
theorem open_els {α : Type} [Inhabited α] {R : World → Nat → Nat → α → Prop} {sz : Nat} {H : Type} {enc : TypeId × Value → H} {P : Program} {W : World} {base : Nat} {t e : TypeId}
    (ht : P.underlying t = some (.slice e)) (hsz : P.cellsOf e = sz) (h0 : 0 < sz)
    (hR : ∀ (g o n : Nat) (cs : List Value) x, cs.length = sz → (∀ i, i < sz → W.cell? ⟨g, o + i, none⟩ = cs[i]?) → DataW.trod enc P W 0 (fun _ => true) true n e cs = some x → ∃ y, R W g o y)
    {v : Value} {d : DataW H} {p : List MemPlace} (hv : Value.okWide P W .any base t v) (h : DataW.Trod enc P W 0 (fun _ => true) true t v d p) :
    ∃ ls : List α, Els R sz W v ls ∧ ls.length ≤ maxLen := by
  obtain ⟨a0, len, cap, rfl⟩ := okWide_slice ht hv
  exact open_els_at ht hsz h0 hR h
theorem Els.below {α : Type} {R : World → Nat → Nat → α → Prop} {sz : Nat} {w w' : World} {v : Value} {ls : List α} (h : Els R sz w v ls) (hR : ∀ g o y, R w g o y → R w' g o y) : Els R sz w' v ls := by
  obtain ⟨a, c, e, h1⟩ := h
  exact ⟨a, c, e, fun j y hy => let ⟨g, o, ea, r⟩ := h1 j y hy; ⟨g, o, ea, hR g _ y r⟩⟩
theorem Els.len {α : Type} {R : World → Nat → Nat → α → Prop} {sz : Nat} {w : World} {v : Value} {ls : List α} (h : Els R sz w v ls) : ∃ a c, v = .slice a ls.length c := let ⟨a, c, e, _⟩ := h; ⟨a, c, e⟩
theorem Els.at_ {α : Type} {R : World → Nat → Nat → α → Prop} {sz : Nat} {w : World} {a0 : Option Addr} {L c0 : Nat} {ls : List α} (h : Els R sz w (.slice a0 L c0) ls) {i : Nat} {y : α} (hy : ls[i]? = some y) : ∃ g o, a0 = some ⟨g, o, none⟩ ∧ R w g (o + i * sz) y := by
  obtain ⟨a, c, e, h1⟩ := h
  simp only [Value.slice.injEq] at e
  rw [e.1]
  exact h1 i y hy
/-- .. where the slice's address is written out. -/
theorem Els.at2 {α : Type} {R : World → Nat → Nat → α → Prop} {sz : Nat} {w : World} {g o L c0 : Nat} {ls : List α} (h : Els R sz w (.slice (some ⟨g, o, none⟩) L c0) ls) {i : Nat} {y : α} (hy : ls[i]? = some y) : R w g (o + i * sz) y := by
  obtain ⟨g', o', e, h1⟩ := h.at_ hy
  simp only [Option.some.injEq, Addr.mk.injEq] at e
  obtain ⟨rfl, rfl, _⟩ := e
  exact h1
end Go.Proofs.Ytalfcbgffgikkaa
