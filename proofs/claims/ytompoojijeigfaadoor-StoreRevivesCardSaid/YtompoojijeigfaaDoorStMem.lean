/-
  A store in memory: its four cells, and its bytes in a block of their own. Bytes laid over bytes by copy.
-/
import Derived.Test.YtompoojijeigfaaDoorBlk
import Derived.Test.YtompoojijeigfaaDoorBytes
import Derived.Laws.CopyOwn
import Derived.Deep.RegionLaw
namespace Go.Proofs.YtompoojijeigfaaDoor
open Go.RowKit

theorem Keep.setRow {F : Nat → Prop} (w : World) (g : Nat) (cs : Array Value) (hg : F g) : Keep F w (w.setRow g cs) :=
  ⟨rfl, rfl, rfl, by simp [World.setRow], fun k _ hn => setRow_other w g k cs (fun e => hn (e ▸ hg))⟩

/-- The block g begins with the bytes xs. -/
def Room (w : World) (g : Nat) (xs : List (BitVec 8)) : Prop := ∃ (tail : List Value) (T : TypeId), w.heap[g]? = some (.cells (xs.map cel ++ tail).toArray T (0, 0))
theorem Room.lt {w : World} {g : Nat} {xs : List (BitVec 8)} (h : Room w g xs) : g < w.heap.size := by obtain ⟨_, _, h⟩ := h; exact lt_of_block h
theorem Room.keep {w w' : World} {g : Nat} {xs : List (BitVec 8)} (h : Room w g xs) {G : Nat → Prop} (hk : Keep G w w') (hg : ¬ G g) : Room w' g xs := by
  have hl := h.lt
  obtain ⟨tail, T, h⟩ := h
  exact ⟨tail, T, (hk.block g hl hg).trans h⟩
theorem Room.cell {w : World} {g : Nat} {xs : List (BitVec 8)} (h : Room w g xs) (j : Nat) (x : BitVec 8) (hx : xs[j]? = some x) : w.cell? ⟨g, j, none⟩ = some (cel x) := by
  obtain ⟨tail, T, h⟩ := h
  have hj : j < xs.length := by
    rcases Nat.lt_or_ge j xs.length with h1 | h1
    · exact h1
    · rw [List.getElem?_eq_none h1] at hx; cases hx
  rw [cell_of_row _ _ _ _ _ _ h, ← Array.getElem?_toList, List.toList_toArray, List.getElem?_append_left (by simpa using hj), List.getElem?_map, hx]
  rfl
theorem Room.byts {w : World} {g : Nat} {xs : List (BitVec 8)} (h : Room w g xs) : Byts w (.slice (some ⟨g, 0, none⟩) xs.length xs.length) xs :=
  .inr ⟨g, 0, xs.length, rfl, Nat.le_refl _, fun j x hx => by rw [Nat.zero_add]; exact h.cell j x hx⟩

theorem map_splice {α β : Type} (f : α → β) (L : List α) (off : Nat) (cs : List α) : (splice L off cs).map f = splice (L.map f) off (cs.map f) := by
  simp [splice, List.map_take, List.map_drop]
theorem splice_front {α : Type} (L R : List α) (off : Nat) (cs : List α) (h : off + cs.length ≤ L.length) : splice (L ++ R) off cs = splice L off cs ++ R := by
  unfold splice
  rw [List.take_append_of_le_length (by omega), List.drop_append_of_le_length (by omega)]
  simp
theorem splice_none {α : Type} (L : List α) (off : Nat) : splice L off [] = L := by simp [splice]
theorem splice_whole {α : Type} (L cs : List α) (h : cs.length = L.length) : splice L 0 cs = cs := by
  unfold splice
  rw [List.drop_eq_nil_of_le (by omega)]
  simp
theorem splice_part {α : Type} (L : List α) (off : Nat) (cs : List α) (h : off + cs.length ≤ L.length) : ((splice L off cs).drop off).take cs.length = cs := by
  unfold splice
  have e : (L.take off).length = off := by simp; omega
  rw [List.drop_append, e, Nat.sub_self, List.drop_zero, List.drop_eq_nil_of_le (by omega), List.nil_append]
  simp
/-- One more byte of those that are laid. -/
theorem splice_set {α : Type} (L : List α) (off : Nat) (ys : List α) (k : Nat) (x : α) (hx : ys[k]? = some x) (h : off + ys.length ≤ L.length) : (splice L off (ys.take k)).set (off + k) x = splice L off (ys.take (k + 1)) := by
  have hk : k < ys.length := by
    rcases Nat.lt_or_ge k ys.length with h1 | h1
    · exact h1
    · rw [List.getElem?_eq_none h1] at hx; cases hx
  apply List.ext_getElem?
  intro j
  have e : (L.take off).length = off := by simp; omega
  have l1 : (ys.take k).length = k := by simp; omega
  have l2 : (ys.take (k + 1)).length = k + 1 := by simp; omega
  rw [List.getElem?_set]
  unfold splice
  rw [l1, l2]
  simp only [List.getElem?_append, e, l1, l2, List.length_append, List.length_drop, List.getElem?_drop, List.getElem?_take]
  rcases Nat.lt_or_ge j off with h1 | h1
  · simp [h1]; omega
  · have q0 : ¬ j < off := by omega
    rcases Nat.lt_trichotomy (off + k) j with h2 | h2 | h2
    · have q1 : ¬ off + k = j := by omega
      have q2 : ¬ j - off < k := by omega
      have q3 : ¬ j - off < k + 1 := by omega
      simp only [if_neg q0, if_neg q1, if_neg q2, if_neg q3]
      congr 1
      omega
    · subst h2
      have q2 : off + k < off + k + (L.length - (off + k)) := by omega
      have q3 : off + k - off = k := by omega
      simp only [if_neg q0, q3, Nat.lt_succ_self, if_true, hx]
      rw [if_pos]
      omega
    · have q1 : ¬ off + k = j := by omega
      have q2 : j - off < k := by omega
      have q3 : j - off < k + 1 := by omega
      simp only [if_neg q0, if_neg q1, if_pos q2, if_pos q3]

theorem run_copy_room (w : World) (dp sp : Option Addr) (dLen dCap sLen sCap : Nat) (g off : Nat) (xs : List (BitVec 8)) (hg : Room w g xs) (cs : List (BitVec 8)) (hn : cs.length = Nat.min sLen dLen)
    (hpos : 0 < cs.length → dp = some ⟨g, off, none⟩ ∧ ∃ ad, sp = some ad ∧ ∀ (j : Nat) x, cs[j]? = some x → w.cell? (ad.add j) = some (cel x)) (hfit : off + cs.length ≤ xs.length) :
    ∃ w', (∀ T, (Builtin.copy_ #[22, 22] T #[.slice dp dLen dCap, .slice sp sLen sCap]).run Tryd.prog w = .ok (.int .i64 (cs.length : Int)) w') ∧ Room w' g (splice xs off cs) ∧ Keep (fun k => k = g) w w' := by
  have hsz : (Tryd.prog.info? 5).map (·.size) = some 1 := by kernel_rfl
  by_cases h0 : cs.length = 0
  · obtain rfl : cs = [] := List.eq_nil_of_length_eq_zero h0
    refine ⟨w, fun T => ?_, ?_, Keep.refl _ w⟩
    · have := run_copy_none (P := Tryd.prog) w 22 22 T 5 dp sp dLen dCap sLen sCap Tryd.underlying22 hsz (by simpa using hn.symm)
      simpa [goInt] using this
    · rw [splice_none]; exact hg
  · obtain ⟨rfl, ad, rfl, hsrc⟩ := hpos (by omega)
    obtain ⟨tail, TT, hg⟩ := hg
    have hrun := fun T => run_copy_row (P := Tryd.prog) w 22 22 T 5 g off dLen dCap ad sLen sCap _ TT (cs.map cel) Tryd.underlying22 hsz hg (by simpa using hn) (fun j v hv => by
      rw [List.getElem?_map] at hv
      cases hy : cs[j]? with
      | none => rw [hy] at hv; cases hv
      | some y => rw [hy] at hv; cases hv; exact hsrc j y hy) (by simp; omega) (cel_one cs)
    refine ⟨_, fun T => by simpa [goInt] using hrun T, ⟨tail, TT, ?_⟩, Keep.setRow w g _ rfl⟩
    rw [setRow_heap w g _ _ TT _ hg, map_splice, ← splice_front _ _ _ _ (by simp; omega)]
    simp [splice]

/-- A copy, as one step of a region that draws its order. -/
theorem step_copy {ops : Array Oper} {o : Oper} {a : Act} {K : Act → World → Prop} {Q : Exit → Act → World → Prop} {E : Prop} (hgd : o.guard = none) (d s : Operand)
    (ho : o.op = .call { callee := .builtin .copy, args := #[d, s], argTypes := #[22, 22] })
    {v u v' : Value} {w w' : World} (hd : a.eval d = v) (hs : a.eval s = u) (hrun : ∀ T, (Builtin.copy_ #[22, 22] T #[v, u]).run Tryd.prog w = .ok v' w') (h : K (a.put o.dst v') w') :
    if Region.wanted o (yielded ops a.tmps) = true then Oper.wp Tryd.prog o a w K Q else E := by
  have hw : Region.wanted o (yielded ops a.tmps) = true := by simp [Region.wanted, hgd]
  rw [if_pos hw]
  unfold Oper.wp
  simp [execOp, ho, resolve, invoke, builtin, hd, hs, hrun, Result.andThen]
  exact h

theorem wpList_copy {ops : Array Oper} {rest : List Oper} {dst : Option Tmp} {ty : TypeId} {pos : String} {aft} {d s : Operand} {a : Act} {Q : Exit → Act → World → Prop} {v u v' : Value} {w w' : World} (hd : a.eval d = v) (hs : a.eval s = u)
    (hrun : ∀ T, (Builtin.copy_ #[22, 22] T #[v, u]).run Tryd.prog w = .ok v' w') (h : wpList Tryd.prog ops Q rest (a.put dst v') w') :
    wpList Tryd.prog ops Q (⟨dst, .call { callee := .builtin .copy, args := #[d, s], argTypes := #[22, 22] }, ty, pos, aft, none⟩ :: rest) a w := by
  refine wpList_plain rfl fun K hK => ?_
  unfold Oper.wp
  simp [execOp, resolve, invoke, builtin, hd, hs, hrun, Result.andThen]
  exact hK _ _ h

/-- What a slice of bytes bears to a copy. -/
theorem Byts.src {w : World} {v : Value} {xs : List (BitVec 8)} (h : Byts w v xs) : ∃ sp c, v = .slice sp xs.length c ∧ (0 < xs.length → ∃ ad, sp = some ad ∧ ∀ (j : Nat) x, xs[j]? = some x → w.cell? (ad.add j) = some (cel x)) := by
  rcases h with ⟨rfl, rfl | ⟨a, c, rfl⟩⟩ | ⟨g, o, cap, rfl, hc, h⟩
  · exact ⟨none, 0, rfl, fun h => by simp at h⟩
  · exact ⟨some a, c, rfl, fun h => by simp at h⟩
  · exact ⟨_, cap, rfl, fun _ => ⟨_, rfl, fun j x hx => by rw [plain_add]; exact h j x hx⟩⟩

/-- A store: its bytes xs in the block B; is it dead, is it to die, and behind how many bytes. -/
structure Sto (w : World) (s B : Nat) (xs : List (BitVec 8)) (dead doomed : Bool) (left : Nat) : Prop where
  blk : Blk w s #[.slice (some ⟨B, 0, none⟩) xs.length xs.length, .bool dead, .bool doomed, .int .i64 (left : Int)] 41
  row : Room w B xs
  ne : s ≠ B
  len : xs.length ≤ 65536
  most : left ≤ 9223372036854775807
theorem Sto.keep {w w' : World} {s B : Nat} {xs : List (BitVec 8)} {dead doomed : Bool} {left : Nat} (h : Sto w s B xs dead doomed left) {G : Nat → Prop} (hk : Keep G w w') (h1 : ¬ G s) (h2 : ¬ G B) : Sto w' s B xs dead doomed left :=
  ⟨h.blk.keep hk h1, h.row.keep hk h2, h.ne, h.len, h.most⟩
theorem Sto.below {w w' : World} {s B : Nat} {xs : List (BitVec 8)} {dead doomed : Bool} {left : Nat} (h : Sto w s B xs dead doomed left) (hb : Below w.heap.size w w') : Sto w' s B xs dead doomed left :=
  h.keep (Keep.of_below (F := fun _ => False) hb) id id
end Go.Proofs.YtompoojijeigfaaDoor
