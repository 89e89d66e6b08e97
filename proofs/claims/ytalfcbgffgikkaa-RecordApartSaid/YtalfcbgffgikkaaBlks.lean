/-
  Several blocks known whole, as a list.
-/
import Derived.Test.YtalfcbgffgikkaaBlk
namespace Go.Proofs.Ytalfcbgffgikkaa
open Go.RowKit

/-- The blocks of L lie so. -/
def Blks (V : World) (L : List (Nat × Array Value × TypeId)) : Prop := ∀ x ∈ L, Blk V x.1 x.2.1 x.2.2
theorem Blks.nil (V : World) : Blks V [] := fun _ h => by cases h
theorem Blks.add {V : World} {L : List (Nat × Array Value × TypeId)} (h : Blks V L) {g : Nat} {C : Array Value} {Y : TypeId} (hn : Blk V g C Y) : Blks V ((g, C, Y) :: L) := fun x hx => by
  rcases List.mem_cons.1 hx with e | hx
  · rw [e]; exact hn
  · exact h x hx
theorem Blks.below {V V' : World} {L : List (Nat × Array Value × TypeId)} (h : Blks V L) (hb : Below V.heap.size V V') : Blks V' L := fun x hx => (h x hx).below hb
theorem Blks.fresh {V : World} {L : List (Nat × Array Value × TypeId)} (h : Blks V L) : ∀ x ∈ L, x.1 ≠ V.heap.size := fun x hx => Nat.ne_of_lt (h x hx).lt
theorem Blks.far {V : World} {L : List (Nat × Array Value × TypeId)} (h : Blks V L) (b o : Nat) (u : Value) (hne : ∀ x ∈ L, x.1 ≠ b) : Blks (V.setCell ⟨b, o, none⟩ u) L := fun x hx => (h x hx).far b o u (hne x hx)
/-- .. of an alloc. -/
theorem Blks.new {V : World} {L : List (Nat × Array Value × TypeId)} (h : Blks V L) (C : Array Value) (Y : TypeId) : Blks (V.alloc (.cells C Y)) ((V.heap.size, C, Y) :: L) := (h.below (below_alloc (Below.refl _ V) _)).add (blk_new V C Y)
theorem Blks.at_ {V : World} {L : List (Nat × Array Value × TypeId)} (h : Blks V L) (i : Nat) {g : Nat} {C : Array Value} {Y : TypeId} (hi : L[i]? = some (g, C, Y)) : Blk V g C Y := h _ (List.mem_of_getElem? hi)
end Go.Proofs.Ytalfcbgffgikkaa
