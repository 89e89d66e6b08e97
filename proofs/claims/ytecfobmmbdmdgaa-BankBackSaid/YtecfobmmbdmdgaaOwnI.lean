/-
  Slices of numbers that a call made: appended to, read.
-/
import Derived.Test.YtecfobmmbdmdgaaBytK
import Derived.Deep.AppendLies
namespace Go.Proofs.Ytecfobmmbdmdgaa
open Go.RowKit

/-- The slice v owns the numbers xs, at a block from B on. -/
def OwnI (w : World) (B : Nat) (v : Value) (xs : List Nat) : Prop := w.ownsRow B 3 1 v xs.length (xs.map fun (x : Nat) => Value.int .i64 (x : Int))
theorem infoI : (Try.prog.info? 3).map (fun i => (i.zero, i.size, i.bytes)) = some (some (.int .i64 0), 1, 8) := by kernel_rfl
theorem ownI_nil (w : World) (B : Nat) : OwnI w B (.slice none 0 0) [] := World.ownsRow_nil w B 3 1
variable {B : Nat} {w w' : World} {v : Value} {xs : List Nat}
theorem OwnI.len (h : OwnI w B v xs) : ∃ a c, v = .slice a xs.length c := by
  rcases h.2 with ⟨rfl, hn⟩ | ⟨g, cap, cur, rfl, _⟩
  · rw [hn]; exact ⟨_, _, rfl⟩
  · exact ⟨_, _, rfl⟩
theorem OwnI.keep {F : Nat → Prop} (h : OwnI w B v xs) (hk : Keep F w w') (hn : ∀ g, v.ownBlock = some g → ¬ F g) : OwnI w' B v xs := by
  refine ⟨h.1, ?_⟩
  rcases h.2 with h1 | ⟨g, cap, cur, rfl, hB, hg, rest⟩
  · exact .inl h1
  · refine .inr ⟨g, cap, cur, rfl, hB, ?_, rest⟩
    rw [hk.block g (lt_of_block hg) (hn g rfl)]; exact hg
theorem OwnI.below (h : OwnI w B v xs) (hb : Below w.heap.size w w') : OwnI w' B v xs := h.keep (F := fun _ => False) (Keep.of_below hb) (fun _ _ h => h)
theorem OwnI.at_ (h : OwnI w B v xs) {k : Nat} {x : Nat} (hx : xs[k]? = some x) : ∃ g cap, v = .slice (some ⟨g, 0, none⟩) xs.length cap ∧ w.cell? ⟨g, k, none⟩ = some (.int .i64 (x : Int)) := by
  have hk : k < xs.length := (List.getElem?_eq_some_iff.1 hx).1
  rcases h.2 with ⟨rfl, hn⟩ | ⟨g, cap, cur, rfl, _⟩
  · omega
  · refine ⟨g, cap, rfl, ?_⟩
    rw [World.ownsRow.cellAt h k (by omega)]
    simp [hx]
/-- Bytes and numbers lie in blocks of their own. -/
theorem own_ne {B B' : Nat} {u : Value} {bs : List (BitVec 8)} (h : Own w B u bs) (k : OwnI w B' v xs) : ∀ g, u.ownBlock = some g → v.ownBlock ≠ some g := by
  intro g hg hv
  rcases h.2 with ⟨rfl, _⟩ | ⟨g1, _, _, rfl, _, h1, _⟩
  · cases hg
  · rcases k.2 with ⟨rfl, _⟩ | ⟨g2, _, _, rfl, _, h2, _⟩
    · cases hv
    · simp [Value.ownBlock] at hg hv
      subst hg hv
      rw [h1] at h2
      simp at h2
/-- One more number. -/
theorem wpList_appI {ops : Array Oper} {rest : List Oper} {o : Oper} {a : Act} {Q : Exit → Act → World → Prop} (hgd : o.guard = none) (s x : Operand)
    (ho : o.op = .call { callee := .builtin .append, args := #[s, x], argTypes := #[38, 38] })
    (B : Nat) (v : Value) (xs : List Nat) (hs : a.eval s = v) (hown : OwnI w B v xs) (g0 : Nat) (y : Nat) (hx : a.eval x = .slice (some ⟨g0, 0, none⟩) 1 1) (hy : w.cell? ⟨g0, 0, none⟩ = some (.int .i64 (y : Int)))
    (hm : xs.length ≤ 1000000) (hB : B ≤ w.heap.size)
    (h : ∀ v' w', OwnI w' B v' (xs ++ [y]) → w.grownBy w' v.ownBlock → wpList Try.prog ops Q rest (a.put o.dst v') w') : wpList Try.prog ops Q (o :: rest) a w := by
  obtain ⟨i0, hi, hz0, hz1, hz2⟩ := info_parts infoI
  refine wpList_append_lies w hgd s x 38 ho B 3 i0 (.int .i64 0) 1 8 Try.underlying38 hi hz0 hz1 hz2 rfl (by decide) v xs.length (xs.map fun (x : Nat) => Value.int .i64 (x : Int)) hs hown ⟨g0, 0, none⟩ 1 1 [.int .i64 (y : Int)] hx rfl
    (fun j u hu => ?_) (fun u hu => ?_) (by decide) (by unfold maxLen; omega) (by omega) hB _ rfl (fun g cap w' h1 h2 h3 h4 => h _ w' ?_ h2)
  · rcases j with _ | j
    · simp at hu
      rw [← hu, plain_add]
      exact hy
    · simp at hu
  · simp at hu
    rw [hu]
    rfl
  · unfold OwnI
    rw [List.length_append, List.map_append]
    exact h1
end Go.Proofs.Ytecfobmmbdmdgaa
