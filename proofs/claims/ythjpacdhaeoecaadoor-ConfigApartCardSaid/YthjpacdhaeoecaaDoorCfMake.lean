/-
  make([]api.Line, n); a slice of lines of the call's own.
-/
import Derived.Test.YthjpacdhaeoecaaDoorCfRead
import Derived.Deep.AppendLies
namespace Go.Proofs.YthjpacdhaeoecaaDoor
open Go.RowKit

theorem infoLn : (Tryd.prog.info? 48).map (fun i => (i.zero, i.size, i.bytes)) = some (some (.agg #[.int .i64 0, .int .i64 0, .int .i64 0, .int .i64 0, .int .i64 0]), 5, 40) := by kernel_rfl
theorem run_make_lines (n : Nat) (hn : n ≤ 1000) : ∃ M : Array Value, M.size = n * 5 ∧
    ∀ w : World, (Instr.makeSlice 22 (.int .u8 (n : Int)) (.int .u8 (n : Int))).run Tryd.prog w = .ok (.slice (some ⟨w.heap.size, 0, none⟩) n n) (w.alloc (.cells M 48)) := by
  obtain ⟨i0, hi, hz0, hz1, hz2⟩ := info_parts infoLn
  refine ⟨madeCells (Value.agg #[.int .i64 0, .int .i64 0, .int .i64 0, .int .i64 0, .int .i64 0]).cells (n * 5), by rw [size_madeCells], fun w => ?_⟩
  have := run_make (P := Tryd.prog) w 22 48 i0 (.agg #[.int .i64 0, .int .i64 0, .int .i64 0, .int .i64 0, .int .i64 0]) Tryd.underlying22 hi hz0 .u8 .u8 (n : Int) (n : Int) (by omega) (by omega) (by rw [hz2]; omega) (by omega)
  rw [hz1] at this
  simpa using this

/-- A line's cells in a row. -/
def LnC (M : Array Value) (o : Nat) (l : Ln) : Prop := M[o]? = some (.int .i64 l.k) ∧ M[o + 1]? = some (.int .i64 l.g) ∧ M[o + 2]? = some (.int .i64 l.a) ∧ M[o + 3]? = some (.int .i64 l.b) ∧ M[o + 4]? = some (.int .i64 l.c)
def set5 (M : Array Value) (p : Nat) (a b c d e : Value) : Array Value := ((((M.setIfInBounds p a).setIfInBounds (p + 1) b).setIfInBounds (p + 2) c).setIfInBounds (p + 3) d).setIfInBounds (p + 4) e
theorem set5_size (M : Array Value) (p : Nat) (a b c d e : Value) : (set5 M p a b c d e).size = M.size := by simp [set5]
theorem set5_other (M : Array Value) (p q : Nat) (a b c d e : Value) (h : q < p ∨ p + 5 ≤ q) : (set5 M p a b c d e)[q]? = M[q]? := by
  unfold set5
  simp only [Array.getElem?_setIfInBounds]
  rw [if_neg (by omega), if_neg (by omega), if_neg (by omega), if_neg (by omega), if_neg (by omega)]
theorem set5_same (M : Array Value) (p : Nat) (l : Ln) (h : p + 5 ≤ M.size) : LnC (set5 M p (.int .i64 l.k) (.int .i64 l.g) (.int .i64 l.a) (.int .i64 l.b) (.int .i64 l.c)) p l := by
  refine ⟨?_, ?_, ?_, ?_, ?_⟩ <;> simp [set5, Array.getElem?_setIfInBounds] <;> omega
/-- A block of n lines, the first j of which are laid. -/
def LnB (w : World) (g n j : Nat) (ls : Nat → Ln) : Prop := ∃ M, Blk w g M 48 ∧ M.size = n * 5 ∧ ∀ i, i < j → LnC M (i * 5) (ls i)
theorem LnB.store {w : World} {g n j : Nat} {ls : Nat → Ln} (h : LnB w g n j ls) (hj : j < n) :
    LnB (((((w.setCell ⟨g, j * 5, none⟩ (.int .i64 (ls j).k)).setCell ⟨g, j * 5 + 1, none⟩ (.int .i64 (ls j).g)).setCell ⟨g, j * 5 + 2, none⟩ (.int .i64 (ls j).a)).setCell ⟨g, j * 5 + 3, none⟩ (.int .i64 (ls j).b)).setCell ⟨g, j * 5 + 4, none⟩ (.int .i64 (ls j).c)) g n (j + 1) ls := by
  obtain ⟨M, hM, hs, h⟩ := h
  refine ⟨set5 M (j * 5) (.int .i64 (ls j).k) (.int .i64 (ls j).g) (.int .i64 (ls j).a) (.int .i64 (ls j).b) (.int .i64 (ls j).c), ((((hM.set_ _ _).set_ _ _).set_ _ _).set_ _ _).set_ _ _, by rw [set5_size, hs], fun i hi => ?_⟩
  by_cases hij : i < j
  · obtain ⟨h0, h1, h2, h3, h4⟩ := h i hij
    exact ⟨by rw [set5_other _ _ _ _ _ _ _ _ (by omega)]; exact h0, by rw [set5_other _ _ _ _ _ _ _ _ (by omega)]; exact h1, by rw [set5_other _ _ _ _ _ _ _ _ (by omega)]; exact h2,
      by rw [set5_other _ _ _ _ _ _ _ _ (by omega)]; exact h3, by rw [set5_other _ _ _ _ _ _ _ _ (by omega)]; exact h4⟩
  · obtain rfl : i = j := by omega
    exact set5_same M _ _ (by omega)
theorem LnB.spot {w : World} {g n j : Nat} {ls : Nat → Ln} (h : LnB w g n j ls) (hj : j < n) (r : Nat) (hr : r < 5) : (∃ u, w.cell? ⟨g, j * 5 + r, none⟩ = some u) ∧ w.frozen? ⟨g, j * 5 + r, none⟩ = false := by
  obtain ⟨M, hM, hs, _⟩ := h
  exact ⟨⟨_, hM.cell _ (Array.getElem?_eq_getElem (by omega))⟩, hM.frz _⟩
theorem LnB.lt {w : World} {g n j : Nat} {ls : Nat → Ln} (h : LnB w g n j ls) : g < w.heap.size := let ⟨_, h, _⟩ := h; h.lt
theorem LnB.apart {w w' : World} {g n j b : Nat} {ls : Nat → Ln} (h : LnB w g n j ls) (ha : Apart b w w') (hn : g ≠ b) : LnB w' g n j ls := let ⟨M, h, r⟩ := h; ⟨M, h.apart ha hn, r⟩
theorem LnB.below {w w' : World} {g n j : Nat} {ls : Nat → Ln} (h : LnB w g n j ls) (hb : Below w.heap.size w w') : LnB w' g n j ls := let ⟨M, h, r⟩ := h; ⟨M, h.below hb, r⟩
theorem LnB.far {w : World} {g n j : Nat} {ls : Nat → Ln} (h : LnB w g n j ls) (b o : Nat) (u : Value) (hne : g ≠ b) : LnB (w.setCell ⟨b, o, none⟩ u) g n j ls := let ⟨M, h, r⟩ := h; ⟨M, h.far b o u hne, r⟩
theorem LnB.els {w : World} {g n : Nat} {ls : Nat → Ln} (h : LnB w g n n ls) (l : List Ln) (hl : l.length = n) (he : ∀ i, i < n → l[i]? = some (ls i)) : Els RLn 5 w (.slice (some ⟨g, 0, none⟩) n n) l := by
  obtain ⟨M, hM, hs, h⟩ := h
  refine ⟨some ⟨g, 0, none⟩, n, by rw [hl], fun j y hy => ⟨g, 0, rfl, ?_⟩⟩
  have hj : j < n := by rw [← hl]; exact (List.getElem?_eq_some_iff.1 hy).1
  rw [he j hj] at hy
  cases hy
  obtain ⟨h0, h1, h2, h3, h4⟩ := h j hj
  rw [Nat.zero_add]
  exact ⟨hM.cell _ h0, hM.cell _ h1, hM.cell _ h2, hM.cell _ h3, hM.cell _ h4⟩
/-- Times laid one by one. -/
theorem cfc_set (v : Value) (f : Nat → Int) (j : Nat) (h : j < 10) (x : Int) (hx : x = f j) : (cfc v (upto f j)).setIfInBounds (j + 1) (.int .i64 x) = cfc v (upto f (j + 1)) := by
  subst hx
  rcases j with _ | _ | _ | _ | _ | _ | _ | _ | _ | _ | j
  all_goals first | omega | simp [cfc, upto]
theorem cfc_all (v : Value) (f : Nat → Int) : cfc v (upto f 10) = cfc v f := by simp [cfc, upto]
theorem cfc_none (v : Value) (f : Nat → Int) : cfc v (upto f 0) = cfc v (fun _ => 0) := by simp [cfc, upto]
theorem End_any {w : World} {b lo L : Nat} {xs : List (BitVec 8)} {m : Nat} (h : RdAt w b lo L xs m) (code : Int) (hc : code = if xs.length = m then 0 else 2) :
    Calls Tryd.prog 44 #[.pointer (some ⟨b, 0, none⟩)] w fun e w' => ∃ r, e = .returned r ∧ ErrV w' r code ∧ Below w.heap.size w w' := by
  unfold RdAt at h
  by_cases h1 : xs.length < m
  · rw [decide_eq_true h1] at h
    rw [hc, if_neg (by omega)]
    exact (end_bad _ b lo L _ w h).mono fun e w' ⟨g, _, he, hg, hb⟩ => ⟨_, he, .inr ⟨g, by decide, rfl, hg⟩, hb⟩
  · rw [decide_eq_false h1] at h
    by_cases h2 : xs.length = m
    · rw [List.drop_eq_nil_of_le (by omega)] at h
      rw [hc, if_pos h2]
      exact (end_nil _ b lo L w h).mono fun e w' ⟨he, hw⟩ => ⟨_, he, .inl ⟨rfl, rfl⟩, by rw [hw]; exact Below.refl _ _⟩
    · rw [hc, if_neg h2]
      exact (end_left _ b lo L _ w h (by rw [List.length_drop]; omega)).mono fun e w' ⟨g, _, he, hg, hb⟩ => ⟨_, he, .inr ⟨g, by decide, rfl, hg⟩, hb⟩
end Go.Proofs.YthjpacdhaeoecaaDoor
