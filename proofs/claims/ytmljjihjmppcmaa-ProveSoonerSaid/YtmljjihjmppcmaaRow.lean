/-
  A row of barriers: which of them are down.
-/
import Derived.Test.YtmljjihjmppcmaaSmall
import Derived.Test.YtmljjihjmppcmaaPvOpen
namespace Go.Proofs.Ytmljjihjmppcmaa

/-- Is the barrier at i down? -/
def dwn (ls : List Br) (i : Nat) : Bool := match ls[i]? with
  | some y => y.a && y.c
  | none => false
theorem dwn_at {ls : List Br} {i : Nat} {y : Br} (h : ls[i]? = some y) : dwn ls i = (y.a && y.c) := by simp [dwn, h]
theorem Els.at2 {α : Type} {R : World → Nat → Nat → α → Prop} {sz : Nat} {w : World} {g o L c0 : Nat} {ls : List α} (h : Els R sz w (.slice (some ⟨g, o, none⟩) L c0) ls) {i : Nat} {y : α} (hy : ls[i]? = some y) : R w g (o + i * sz) y := by
  obtain ⟨g', o', e, h1⟩ := h.at_ hy
  simp only [Option.some.injEq, Addr.mk.injEq] at e
  obtain ⟨rfl, rfl, _⟩ := e
  exact h1
end Go.Proofs.Ytmljjihjmppcmaa
