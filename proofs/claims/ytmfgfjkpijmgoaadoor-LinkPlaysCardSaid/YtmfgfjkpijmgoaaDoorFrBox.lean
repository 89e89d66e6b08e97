/-
  A telegram in a block of its own, and its bytes.
-/
import Derived.Test.YtmfgfjkpijmgoaaDoorFit
import Derived.Test.YtmfgfjkpijmgoaaDoorBytes
namespace Go.Proofs.YtmfgfjkpijmgoaaDoor
open Go.RowKit


theorem fit_bytes {c q : Int} {n : Nat} (h : Fit c q n) : ∃ x y : BitVec 8, c = (x.toNat : Int) ∧ q = (y.toNat : Int) ∧ x.toNat ≤ 15 := by
  obtain ⟨h1, h2, h3, h4, _⟩ := h
  refine ⟨BitVec.ofNat 8 c.toNat, BitVec.ofNat 8 q.toNat, ?_, ?_, ?_⟩ <;> simp <;> omega
/-- The bytes of a telegram, ahead of their sum. -/
def frm (x y : BitVec 8) (xs : List (BitVec 8)) : List (BitVec 8) := x :: y :: BitVec.ofNat 8 xs.length :: xs

/-- A telegram in a block of its own. -/
def Box (w : World) (g : Nat) (c q : Int) (u : Value) : Prop := w.heap[g]? = some (.cells #[.int .i64 c, .int .i64 q, u] 30 (0, 0))
theorem Box.lt {w : World} {g : Nat} {c q : Int} {u : Value} (h : Box w g c q u) : g < w.heap.size := by
  rcases Nat.lt_or_ge g w.heap.size with h1 | h1
  · exact h1
  · unfold Box at h; rw [Array.getElem?_eq_none h1] at h; cases h
theorem Box.below {w w' : World} {g : Nat} {c q : Int} {u : Value} (h : Box w g c q u) (hb : Below w.heap.size w w') : Box w' g c q u := (hb.block g h.lt).trans h
theorem box_new (w : World) (c q : Int) (u : Value) : Box (w.alloc (.cells #[.int .i64 c, .int .i64 q, u] 30)) w.heap.size c q u := heap_alloc_new w _
theorem Box.cells {w : World} {g : Nat} {c q : Int} {u : Value} (h : Box w g c q u) : w.cell? ⟨g, 0, none⟩ = some (.int .i64 c) ∧ w.cell? ⟨g, 1, none⟩ = some (.int .i64 q) ∧ w.cell? ⟨g, 2, none⟩ = some u := by
  refine ⟨?_, ?_, ?_⟩ <;> (rw [cell_of_row _ _ _ _ _ _ h]; rfl)
theorem Box.frz {w : World} {g : Nat} {c q : Int} {u : Value} (h : Box w g c q u) (k : Nat) : w.frozen? ⟨g, k, none⟩ = false := frozen_of_row _ _ _ _ _ h
theorem head_cel (x y : BitVec 8) (n : Nat) (hn : n ≤ 16) : #[Value.int .u8 (x.toNat : Int), Value.int .u8 (y.toNat : Int), Value.int .u8 (n : Int)] = (([x, y, BitVec.ofNat 8 n] : List (BitVec 8)).map cel).toArray := by
  have : (BitVec.ofNat 8 n).toNat = n := by simp; omega
  simp [cel, this]

end Go.Proofs.YtmfgfjkpijmgoaaDoor
