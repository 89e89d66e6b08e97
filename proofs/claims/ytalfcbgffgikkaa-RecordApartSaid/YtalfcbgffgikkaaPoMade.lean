/-
  A block of tracks made and laid field by field; what it is at last.
-/
import Derived.Test.YtalfcbgffgikkaaPoBits
import Derived.Test.YtalfcbgffgikkaaTkOwn
namespace Go.Proofs.Ytalfcbgffgikkaa
open Go.RowKit

/-- A track of which nothing is known. -/
def tk0 : Tk := ⟨false, 0, 0, false, 0, 0, false, false, 0, false, false⟩
theorem potk0 : potk false false = tk0 := rfl
/-- A block of tracks. -/
def TkB (w : World) (g : Nat) (ls : List Tk) : Prop := Blk w g (ls.flatMap tkl).toArray 43
theorem TkB.keep {w w' : World} {g : Nat} {ls : List Tk} (h : TkB w g ls) {G : Nat → Prop} (hk : Keep G w w') (hg : ¬ G g) : TkB w' g ls := Blk.keep h hk hg
theorem TkB.below {w w' : World} {g : Nat} {ls : List Tk} (h : TkB w g ls) (hb : Below w.heap.size w w') : TkB w' g ls := Blk.below h hb
theorem TkB.far {w : World} {g : Nat} {ls : List Tk} (h : TkB w g ls) (b o : Nat) (u : Value) (hne : g ≠ b) : TkB (w.setCell ⟨b, o, none⟩ u) g ls := Blk.far h b o u hne
theorem TkB.cell {w : World} {g : Nat} {ls : List Tk} (h : TkB w g ls) {k : Nat} {y : Tk} (hy : ls[k]? = some y) (r : Nat) (hr : r < 11) : w.cell? ⟨g, k * 11 + r, none⟩ = (tkl y)[r]? := by
  obtain ⟨u, hu⟩ : ∃ u, (tkl y)[r]? = some u := ⟨_, List.getElem?_eq_getElem (show r < (tkl y).length from hr)⟩
  rw [hu]
  refine Blk.cell h _ ?_
  rw [List.getElem?_toArray, tkl_at ls k y r hr hy, hu]
theorem TkB.els {w : World} {g : Nat} {ls : List Tk} (h : TkB w g ls) (n c : Nat) (hn : ls.length = n) : Els RTk 11 w (.slice (some ⟨g, 0, none⟩) n c) ls := by
  refine ⟨some ⟨g, 0, none⟩, c, by rw [hn], fun j y hy => ⟨g, 0, rfl, ?_⟩⟩
  rw [Nat.zero_add]
  exact ⟨h.cell hy 0 (by decide), h.cell hy 1 (by decide), h.cell hy 2 (by decide), h.cell hy 3 (by decide), h.cell hy 4 (by decide), h.cell hy 5 (by decide), h.cell hy 6 (by decide), h.cell hy 7 (by decide), h.cell hy 8 (by decide), h.cell hy 9 (by decide), h.cell hy 10 (by decide)⟩
theorem tkl_set : ∀ (ls : List Tk) (k r : Nat) (y y' : Tk) (u : Value), r < 11 → ls[k]? = some y → (tkl y).set r u = tkl y' → (ls.flatMap tkl).set (k * 11 + r) u = (ls.set k y').flatMap tkl
  | [], k, r, y, y', u, _, h, _ => by simp at h
  | c :: t, 0, r, y, y', u, hr, h, he => by
    simp at h
    subst h
    rw [List.set_cons_zero, List.flatMap_cons, List.flatMap_cons, Nat.zero_mul, Nat.zero_add, List.set_append_left _ _ (show r < (tkl c).length from hr), he]
  | c :: t, k + 1, r, y, y', u, hr, h, he => by
    have ih := tkl_set t k r y y' u hr (by simpa using h) he
    have hl : (tkl c).length = 11 := rfl
    rw [List.set_cons_succ, List.flatMap_cons, List.flatMap_cons, List.set_append_right _ _ (by omega), hl, show (k + 1) * 11 + r - 11 = k * 11 + r by omega, ih]
theorem TkB.set_ {w : World} {g : Nat} {ls : List Tk} (h : TkB w g ls) {k : Nat} {y : Tk} (hy : ls[k]? = some y) (r : Nat) (hr : r < 11) (u : Value) (y' : Tk) (he : (tkl y).set r u = tkl y') : TkB (w.setCell ⟨g, k * 11 + r, none⟩ u) g (ls.set k y') := by
  have h1 := Blk.set_ h (k * 11 + r) u
  rw [List.setIfInBounds_toArray, tkl_set ls k r y y' u hr hy he] at h1
  exact h1
theorem run_make_tracks (n : Nat) (hn : n ≤ 1000) : ∀ w : World, (Instr.makeSlice 24 (.int .i64 (n : Int)) (.int .i64 (n : Int))).run Try.prog w = .ok (.slice (some ⟨w.heap.size, 0, none⟩) n n) (w.alloc (.cells ((List.replicate n tk0).flatMap tkl).toArray 43)) := by
  obtain ⟨i0, hi, hz0, hz1, hz2⟩ := info_parts infoTk
  intro w
  have h := run_make (P := Try.prog) w 24 43 i0 (.agg #[.bool false, .int .i64 0, .int .i64 0, .bool false, .int .i64 0, .int .i64 0, .bool false, .bool false, .int .i64 0, .bool false, .bool false]) Try.underlying24 hi hz0 .i64 .i64 (n : Int) (n : Int) (by omega) (by omega) (by rw [hz2]; omega) (by omega)
  rw [hz1] at h
  have e : madeCells (Value.agg #[.bool false, .int .i64 0, .int .i64 0, .bool false, .int .i64 0, .int .i64 0, .bool false, .bool false, .int .i64 0, .bool false, .bool false]).cells (n * 11) = ((List.replicate n tk0).flatMap tkl).toArray := by
    apply Array.ext
    · rw [size_madeCells, List.size_toArray, tkl_len, List.length_replicate]
    · intro i h1 h2
      rw [size_madeCells] at h1
      have h3 := tkl_at (List.replicate n tk0) (i / 11) tk0 (i % 11) (by omega) (by rw [List.getElem?_replicate, if_pos (by omega)])
      rw [show i / 11 * 11 + i % 11 = i by omega] at h3
      have h4 : (((List.replicate n tk0).flatMap tkl).toArray)[i]? = (tkl tk0)[i % 11]? := by rw [List.getElem?_toArray]; exact h3
      rw [Array.getElem?_eq_getElem h2] at h4
      have h5 : (madeCells (Value.agg #[.bool false, .int .i64 0, .int .i64 0, .bool false, .int .i64 0, .int .i64 0, .bool false, .bool false, .int .i64 0, .bool false, .bool false]).cells (n * 11))[i]? = (tkl tk0)[i % 11]? := by
        have hlt : i % 11 < (tkl tk0).length := Nat.mod_lt _ (by decide)
        have h6 : (Value.agg #[.bool false, .int .i64 0, .int .i64 0, .bool false, .int .i64 0, .int .i64 0, .bool false, .bool false, .int .i64 0, .bool false, .bool false]).cells = (tkl tk0).toArray := rfl
        rw [h6, List.getElem?_eq_getElem hlt]
        have h7 : (tkl tk0).length = 11 := rfl
        simp [madeCells, h1, h7]
        rw [List.getElem?_eq_getElem hlt]
        rfl
      rw [Array.getElem?_eq_getElem (by rw [size_madeCells]; exact h1), ← h4] at h5
      exact Option.some.inj h5
  rw [show (n : Int).toNat = n by omega] at h
  rw [e] at h
  exact h
theorem tkB_new (w : World) (n : Nat) : TkB (w.alloc (.cells ((List.replicate n tk0).flatMap tkl).toArray 43)) w.heap.size (List.replicate n tk0) := blk_new w _ _
/-- Rows half laid: the first k as they shall be. -/
def pohalf (f : Nat → Tk) (n k : Nat) : List Tk := (List.range n).map fun i => if i < k then f i else tk0
theorem pohalf_len (f : Nat → Tk) (n k : Nat) : (pohalf f n k).length = n := by unfold pohalf; rw [List.length_map, List.length_range]
theorem pohalf_at (f : Nat → Tk) (n k i : Nat) (h : i < n) : (pohalf f n k)[i]? = some (if i < k then f i else tk0) := by
  unfold pohalf
  rw [List.getElem?_map, List.getElem?_range h]
  rfl
theorem pohalf_zero (f : Nat → Tk) (n : Nat) : pohalf f n 0 = List.replicate n tk0 := by
  apply List.ext_getElem?
  intro i
  by_cases h : i < n
  · rw [pohalf_at f n 0 i h, if_neg (by omega), List.getElem?_replicate, if_pos h]
  · rw [List.getElem?_eq_none (by rw [pohalf_len]; omega), List.getElem?_eq_none (by rw [List.length_replicate]; omega)]
theorem pohalf_full (f : Nat → Tk) (n : Nat) : pohalf f n n = (List.range n).map f := by
  unfold pohalf
  apply List.map_congr_left
  intro i hi
  rw [if_pos (List.mem_range.1 hi)]
theorem pohalf_next (f : Nat → Tk) (n k : Nat) (hk : k < n) (y : Tk) : ((pohalf f n k).set k y).set k (f k) = pohalf f n (k + 1) := by
  apply List.ext_getElem?
  intro i
  by_cases h : i < n
  · rw [pohalf_at f n (k + 1) i h]
    by_cases e : k = i
    · subst e
      rw [List.getElem?_set_self (by rw [List.length_set, pohalf_len]; exact hk), if_pos (by omega)]
    · rw [List.getElem?_set_ne e, List.getElem?_set_ne e, pohalf_at f n k i h]
      by_cases e2 : i < k
      · rw [if_pos e2, if_pos (by omega)]
      · rw [if_neg e2, if_neg (by omega)]
  · rw [List.getElem?_eq_none (by rw [List.length_set, List.length_set, pohalf_len]; omega), List.getElem?_eq_none (by rw [pohalf_len]; omega)]
end Go.Proofs.Ytalfcbgffgikkaa
