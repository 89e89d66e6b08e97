/-
  Bytes of a constant: the conversion, and what is appended behind them (new memory). No word of any layer.
-/
import Derived.Test.YtecfobmmbdmdgaaBytes
import Derived.ArgAppend
import Derived.Lib.SlBytesConst
namespace Go.Proofs.Ytecfobmmbdmdgaa
open Go.RowKit

/-- The bytes of a constant bear a mark behind the last one. -/
theorem conv_mark (w : World) (C : Array Value) (n : Nat) (h : C.size = n := by rfl) : (convert 23 23 (.slice (some ⟨w.heap.size, 0, none⟩) n n)).run Try.prog (w.alloc (.cells C 5)) = .ok (.slice (some ⟨w.heap.size, 0, none⟩) n n) (w.alloc (.cells C 5 (n, n + 1))) := by
  subst h
  exact Lib.run_convert_bytes_const w 23 5 C _ _ Try.underlying23 Try.underlying5
theorem Byts.cells_of {w : World} {a : Addr} {n c : Nat} {xs : List (BitVec 8)} (h : Byts w (.slice (some a) n c) xs) : ∀ (j : Nat) u, (xs.map cel)[j]? = some u → w.cell? (a.add j) = some u := by
  intro j u hu
  rw [List.getElem?_map] at hu
  cases hx : xs[j]? with
  | none => rw [hx] at hu; cases hu
  | some x =>
    rw [hx] at hu
    cases hu
    rcases h with ⟨rfl, _⟩ | ⟨g, o, cap, hv, _, h⟩
    · simp at hx
    · simp only [Value.slice.injEq, Option.some.injEq] at hv
      rw [hv.1, plain_add]
      exact h j x hx
/-- append to a slice without room: new memory. -/
theorem wpList_appG {w : World} {ops : Array Oper} {rest : List Oper} {o : Oper} {a : Act} {Q : Exit → Act → World → Prop} (hgd : o.guard = none) (s x : Operand)
    (ho : o.op = .call { callee := .builtin .append, args := #[s, x], argTypes := #[23, 23] })
    (ad : Addr) (n : Nat) (xs : List (BitVec 8)) (hs : a.eval s = .slice (some ad) n n) (hn : xs.length = n) (hv : Byts w (.slice (some ad) n n) xs)
    (bd : Addr) (m c : Nat) (ys : List (BitVec 8)) (hx : a.eval x = .slice (some bd) m c) (hm : ys.length = m) (hu : Byts w (.slice (some bd) m c) ys)
    (hl : 0 < m ∧ n + m ≤ 1000000)
    (h : ∀ v' w', Own w' w.heap.size v' (xs ++ ys) → Below w.heap.size w w' → wpList Try.prog ops Q rest (a.put o.dst v') w') : wpList Try.prog ops Q (o :: rest) a w := by
  obtain ⟨i0, hi, hz0, hz1, hz2⟩ := info_parts infoU8
  refine wpList_append_grows w hgd s x 23 ho 5 i0 (.int .u8 0) 1 1 Try.underlying23 hi hz0 hz1 hz2 rfl (by decide) (some ad) n n (xs.map cel) hs (fun h => by cases h) (by simp [hn]) (fun b hb j u hj => by cases hb; exact hv.cells_of j u hj) bd m c (ys.map cel) hx (by simp [hm]) hu.cells_of (cel_one ys) (by omega) (by unfold maxLen; omega) (by omega) ?_
  intro v' w' hown hg
  refine h v' w' ?_ ((Below.refl _ w).grown hg (Nat.le_refl _) (fun k hk => by cases hk))
  unfold Own
  rw [List.length_append, List.map_append, hn, hm]
  exact hown
end Go.Proofs.Ytecfobmmbdmdgaa
