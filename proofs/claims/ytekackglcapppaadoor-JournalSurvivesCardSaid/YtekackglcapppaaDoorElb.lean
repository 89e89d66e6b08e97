/-
  Slices of slices of bytes among the arguments, with the form's own reach: how long each may be.
-/
import Derived.SizedLaws
import Derived.Test.YtekackglcapppaaDoorEls

namespace Go.Proofs.YtekackglcapppaaDoor
open Go.ChangeShapes Go.WideShapes Go.ChangeAt Go.RowKit

theorem weights_of {H : Type} {P : Program} {ts : List TypeId} {ds : List (DataW H)} (h : (DataW.weightsEach P ts ds).all (· ≤ reachBytes) = true) {j : Nat} {t : TypeId} {d : DataW H} (ht : ts[j]? = some t) (hd : ds[j]? = some d) : ∀ m ∈ d.weights P t, m ≤ reachBytes := fun m hm => by
  simpa using List.all_eq_true.1 h _ (DataW.weights_mem_each ht hd m hm)
theorem weightsAll_mem {H : Type} {P : Program} {e : TypeId} : ∀ {l : List (DataW H)} {d : DataW H}, d ∈ l → ∀ m ∈ d.weights P e, m ∈ DataW.weightsAll P e l
  | [], _, h, _, _ => by cases h
  | a :: t, d, h, m, hm => by
    simp only [DataW.weightsAll, List.mem_append]
    rcases List.mem_cons.1 h with rfl | h
    · exact .inl hm
    · exact .inr (weightsAll_mem h m hm)
theorem weights_elem {H : Type} {P : Program} {t e : TypeId} (hu : P.underlying t = some (.slice e)) {els spare : List (DataW H)} (hw : ∀ m ∈ (DataW.slice els spare).weights P t, m ≤ reachBytes) {d : DataW H} (hd : d ∈ els) : ∀ m ∈ d.weights P e, m ≤ reachBytes := fun m hm => hw m (by
  simp only [DataW.weights, hu]
  exact List.mem_cons_of_mem _ (List.mem_append_left _ (weightsAll_mem hd m hm)))
theorem weights_len {H : Type} {P : Program} {t e : TypeId} (hu : P.underlying t = some (.slice e)) {els spare : List (DataW H)} (hw : ∀ m ∈ (DataW.slice els spare).weights P t, m ≤ reachBytes) : (els.length + spare.length) * P.bytesOf e ≤ reachBytes := hw _ (by
  simp only [DataW.weights, hu]
  exact List.mem_cons_self)
/-- XElg's open_els_at, where a reader may know its element's reach. -/
theorem open_elsW {α : Type} [Inhabited α] {R : World → Nat → Nat → α → Prop} {sz : Nat} {H : Type} {enc : TypeId × Value → H} {P : Program} {W : World} {t e : TypeId}
    (ht : P.underlying t = some (.slice e)) (hsz : P.cellsOf e = sz) (h0 : 0 < sz)
    (hR : ∀ (g o n : Nat) (cs : List Value) x, cs.length = sz → (∀ i, i < sz → W.cell? ⟨g, o + i, none⟩ = cs[i]?) → DataW.trod enc P W 0 (fun _ => true) true n e cs = some x → (∀ m ∈ x.1.weights P e, m ≤ reachBytes) → ∃ y, R W g o y)
    {a0 : Option Addr} {len cap : Nat} {d : DataW H} {p : List MemPlace} (h : DataW.Trod enc P W 0 (fun _ => true) true t (.slice a0 len cap) d p) (hw : ∀ m ∈ d.weights P t, m ≤ reachBytes) :
    ∃ ls : List α, Els R sz W (.slice a0 len cap) ls ∧ ls.length ≤ maxLen := by
  obtain ⟨fuel, hf⟩ := h
  rcases Go.Deep.open_slice ht hf with ⟨hcs, hx⟩ | ⟨a, len', cap', m, n, D, Pl, hcs, _, hl, hm, hmm, hx, hcell⟩
  · simp [Value.cells] at hcs
    obtain ⟨rfl, rfl, rfl⟩ := hcs
    exact ⟨[], ⟨_, _, rfl, fun j y hy => by simp at hy⟩, by simp⟩
  · simp [Value.cells] at hcs
    obtain ⟨rfl, rfl, rfl⟩ := hcs
    simp only [if_true] at hmm
    subst hmm
    by_cases hlen : len = 0
    · subst hlen
      exact ⟨[], ⟨_, _, rfl, fun j y hy => by simp at hy⟩, by simp⟩
    have spot : a.spot = none := by
      obtain ⟨cs', h1, _⟩ := hcell 0 (by omega)
      rw [hsz] at h1
      obtain ⟨_, hlen', hc⟩ := World.cells?_some h1
      have := hc 0 h0
      rw [Go.Deep.add_add, List.getElem?_eq_getElem (by omega)] at this
      simpa [Addr.add] using World.cell?_spot this
    obtain ⟨b, off, sp⟩ := a
    obtain rfl : sp = none := spot
    cases hx
    have each : ∀ i, i < len → ∃ y : α, R W b (off + i * sz) y := by
      intro i hi
      obtain ⟨cs', h1, h2⟩ := hcell i (by omega)
      rw [hsz] at h1
      obtain ⟨_, hlen', hc⟩ := World.cells?_some h1
      refine hR b (off + i * sz) n cs' _ hlen' (fun j hj => ?_) h2 (weights_elem ht hw (List.mem_map.2 ⟨i, List.mem_range.2 hi, rfl⟩))
      have := hc j hj
      rw [Go.Deep.add_add, plain_add, ← Nat.add_assoc] at this
      exact this
    obtain ⟨f, hf⟩ := Go.Deep.choose_lt each
    refine ⟨(List.range len).map f, ⟨_, _, by simp only [List.length_map, List.length_range]; rfl, fun j y hy => ?_⟩, by simp; omega⟩
    have hj : j < len := by
      have := (List.getElem?_eq_some_iff.1 hy).1
      simpa using this
    rw [List.getElem?_map, List.getElem?_range hj] at hy
    simp only [Option.map_some, Option.some.injEq] at hy
    exact ⟨b, off, rfl, by rw [← hy]; exact hf j hj⟩
theorem bytes_u8 : Tryd.prog.bytesOf 5 = 1 := by kernel_rfl
theorem cells_bytes : Tryd.prog.cellsOf 29 = 1 := by kernel_rfl
/-- A row of bytes in a cell, within the form's reach. -/
def RB (w : World) (g o : Nat) (xs : List (BitVec 8)) : Prop := RByts w g o xs ∧ xs.length ≤ 140737488351232
theorem RB.below {w w2 : World} (hb : Below w.heap.size w w2) {g o : Nat} {xs : List (BitVec 8)} (h : RB w g o xs) : RB w2 g o xs := ⟨h.1.below hb, h.2⟩
section
variable {H : Type} {enc : TypeId × Value → H} {W : World}
set_option maxRecDepth 100000 in
theorem read_rb (g o n : Nat) (u : Value) (x) (hc : W.cell? ⟨g, o, none⟩ = some u) (h : DataW.trod enc Tryd.prog W 0 (fun _ => true) true n 29 [u] = some x) (hw : ∀ m ∈ x.1.weights Tryd.prog 29, m ≤ reachBytes) : ∃ xs, RB W g o xs := by
  obtain ⟨a, l, c, e⟩ := Go.Joins.slice_form Tryd.underlying29 h
  simp at e
  subst e
  obtain ⟨zs, hs, _, _, hd⟩ := open_sl_at (d := x.1) (p := x.2) cel (fun n => BitVec.ofNat 8 n.toNat) (fun n hn => by unfold cel; rw [u8_of_wf hn]) Tryd.underlying29 Tryd.underlying5 cells_u8 ⟨n, h⟩
  have hl : Byts W (.slice a l c) (zs.map fun n => BitVec.ofNat 8 n.toNat) := hs
  obtain ⟨a', c', e'⟩ := hl.len
  simp only [Value.slice.injEq] at e'
  obtain ⟨rfl, rfl, rfl⟩ := e'
  refine ⟨_, ⟨_, _, hc, hl⟩, ?_⟩
  rcases hd with ⟨_, rfl⟩ | ⟨sp, h1⟩
  · simp
  · rw [h1] at hw
    have := weights_len Tryd.underlying29 hw
    rw [bytes_u8] at this
    simp [lits] at this
    unfold reachBytes at this
    simp
    omega
set_option maxRecDepth 100000 in
theorem open_rowsW {base : Nat} {v : Value} {d : DataW H} {p : List MemPlace} (hv : Value.okWide Tryd.prog W .any base 22 v) (h : DataW.Trod enc Tryd.prog W 0 (fun _ => true) true 22 v d p) (hw : ∀ m ∈ d.weights Tryd.prog 22, m ≤ reachBytes) :
    ∃ ls : List (List (BitVec 8)), Els RB 1 W v ls ∧ ls.length ≤ maxLen := by
  obtain ⟨a0, len, cap, rfl⟩ := okWide_slice Tryd.underlying22 hv
  exact open_elsW (R := RB) (sz := 1) Tryd.underlying22 cells_bytes (by decide) (fun g o n cs x hl hc ht hx => by
    obtain ⟨u, rfl⟩ := List.length_eq_one_iff.1 hl
    exact read_rb g o n u x (by simpa using hc 0 (by omega)) ht hx) h hw
end
end Go.Proofs.YtekackglcapppaaDoor
