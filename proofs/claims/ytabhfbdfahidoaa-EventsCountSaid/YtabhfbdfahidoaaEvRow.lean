/-
  Events at a place, one and a slice of them among the arguments; compared with itself; that a slice owns; append of events.
-/
import Derived.Test.YtabhfbdfahidoaaElg
import Derived.Test.YtabhfbdfahidoaaEvMath
import Derived.Test.YtabhfbdfahidoaaEqF
import Derived.Test.YtabhfbdfahidoaaBlk
import Derived.Deep.AppendLies
import Derived.Deep.Upon
import Derived.Laws.OwnMore
namespace Go.Proofs.Ytabhfbdfahidoaa
open Go.ChangeShapes Go.WideShapes Go.ChangeAt Go.RowKit Go.Joins

theorem cells_evint : Try.prog.cellsOf 3 = 1 := by kernel_rfl
theorem cells_ev64 : Try.prog.cellsOf 29 = 1 := by kernel_rfl
theorem cells_event : Try.prog.cellsOf 31 = 3 := by kernel_rfl
/-- An event, at a place. -/
def REv (w : World) (g o : Nat) (y : Ev) : Prop := w.cell? ⟨g, o, none⟩ = some (.int .u64 y.t) ∧ w.cell? ⟨g, o + 1, none⟩ = some (.int .i64 y.c) ∧ w.cell? ⟨g, o + 2, none⟩ = some (.int .i64 y.a)
theorem REv.below {w w' : World} {g o : Nat} {y : Ev} (h : REv w g o y) (hb : Below w.heap.size w w') : REv w' g o y := ⟨below_cell hb h.1, below_cell hb h.2.1, below_cell hb h.2.2⟩
theorem REv.keep {F : Nat → Prop} {w w' : World} {g o : Nat} {y : Ev} (h : REv w g o y) (k : Keep F w w') (hn : ¬ F g) : REv w' g o y := ⟨k.cell h.1 hn, k.cell h.2.1 hn, k.cell h.2.2 hn⟩
section
variable {H : Type} {enc : TypeId × Value → H} {W : World}
set_option maxRecDepth 100000 in
theorem trod_event {n : Nat} {cs : List Value} {x : DataW H × List MemPlace} (hl : cs.length = 3) (h : DataW.trod enc Try.prog W 0 (fun _ => true) true n 31 cs = some x) :
    ∃ y : Ev, cs = [.int .u64 y.t, .int .i64 y.c, .int .i64 y.a] := by
  match cs, hl with
  | [v0, v1, v2], _ =>
    obtain ⟨y0, y1, y2, m, _, _, t0, t1, t2⟩ := Go.Deep.trod_struct3 Try.underlying31 h
    simp [cells_ev64, cells_evint] at t0 t1 t2
    obtain ⟨a, e0, _⟩ := DataW.trod_int Try.underlying29 t0
    obtain ⟨b, e1, _⟩ := DataW.trod_int Try.underlying3 t1
    obtain ⟨c, e2, _⟩ := DataW.trod_int Try.underlying3 t2
    simp at e0 e1 e2
    subst e0 e1 e2
    exact ⟨⟨a, b, c⟩, rfl⟩
set_option maxRecDepth 100000 in
theorem open_events {base : Nat} {v : Value} {d : DataW H} {p : List MemPlace} (hv : Value.okWide Try.prog W .any base 22 v) (h : DataW.Trod enc Try.prog W 0 (fun _ => true) true 22 v d p) : ∃ ls : List Ev, Els REv 3 W v ls ∧ ls.length ≤ maxLen :=
  haveI : Inhabited Ev := ⟨⟨0, 0, 0⟩⟩
  open_els (R := REv) (sz := 3) Try.underlying22 cells_event (by decide) (fun g o n cs x hl hc ht => by
    obtain ⟨y, rfl⟩ := trod_event hl ht
    exact ⟨y, by simpa using hc 0 (by omega), by simpa using hc 1 (by omega), by simpa using hc 2 (by omega)⟩) hv h
set_option maxRecDepth 100000 in
/-- .. with its room. -/
theorem open_eventsC {base : Nat} {v : Value} {d : DataW H} {p : List MemPlace} (hv : Value.okWide Try.prog W .any base 22 v) (h : DataW.Trod enc Try.prog W 0 (fun _ => true) true 22 v d p) : ∃ ls : List Ev, Els REv 3 W v ls ∧ ls.length ≤ maxLen ∧ ∃ a c, v = .slice a ls.length c ∧ ls.length ≤ c := by
  obtain ⟨ls, h1, h2⟩ := open_events hv h
  refine ⟨ls, h1, h2, ?_⟩
  obtain ⟨a, c, rfl⟩ := h1.len
  refine ⟨a, c, rfl, ?_⟩
  obtain ⟨fuel, hf⟩ := h
  rcases Go.Deep.open_slice Try.underlying22 hf with ⟨hcs, _⟩ | ⟨a', len', cap', m, n, D, Pl, hcs, _, hl, _⟩
  · simp [Value.cells] at hcs
    simp [hcs]
  · simp [Value.cells] at hcs
    omega
end
/-! Compared with itself. -/
theorem plainU64 : Try.prog.plainKey 29 = true := by kernel_rfl
theorem eqF_u64 {d : Nat} {xs ys : Array Value} {f : Field} {fs : List Field} {a b : Int} (hn : f.name ≠ "_") (ht : f.type = 29) (ha : xs[f.offset]? = some (.int .u64 a)) (hb : ys[f.offset]? = some (.int .u64 b)) (w : World) :
    (Op.eqFields (d + 1) xs ys (f :: fs)).run Try.prog w = if a = b then (Op.eqFields (d + 1) xs ys fs).run Try.prog w else .ok false w := by
  have e1 := run_part_plain w plainU64 ha
  have e2 := run_part_plain w plainU64 hb
  rw [Op.eqFields, if_pos hn, ht]
  simp only [Sem.run_bind, e1, e2, Result.andThen_ok, run_equalIn_int w d 29 .u64 .u64 a b Try.underlying29]
  by_cases h : a = b
  · rw [if_pos h, beq_iff_eq.2 h]
    simp
  · rw [if_neg h, beq_eq_false_iff_ne.2 h]
    simp
theorem noholdEvent : Try.prog.stoodInHeld 31 = false := by kernel_rfl
theorem eq_ev (d : Nat) (a b c : Int) (w : World) : (Op.equalIn (d + 2) 31 (.agg #[.int .u64 a, .int .i64 b, .int .i64 c]) (.agg #[.int .u64 a, .int .i64 b, .int .i64 c])).run Try.prog w = .ok true w := by
  have hf : Try.prog.underlying 31 = some (.struct (Try.prog.fieldsOf 31)) := by unfold Program.fieldsOf; rw [Try.underlying31]
  rw [run_equalIn_agg w (d + 1) 31 _ _ hf noholdEvent]
  unfold Program.fieldsOf
  rw [Try.underlying31]
  dsimp only
  rw [eqF_u64 (by decide) rfl rfl rfl, if_pos rfl, eqF_int (by decide) rfl rfl rfl, if_pos rfl, eqF_int (by decide) rfl rfl rfl, if_pos rfl]
  simp only [Op.eqFields]
  rfl
theorem neq_ev (a b c : Int) (w : World) : (binOp .neq 31 (.agg #[.int .u64 a, .int .i64 b, .int .i64 c]) (.agg #[.int .u64 a, .int .i64 b, .int .i64 c])).run Try.prog w = .ok (.bool false) w := by
  rw [run_neq_struct, eq_ev 9998]
  simp [Result.andThen]
/-! Owned. -/
theorem infoEv : (Try.prog.info? 31).map (fun i => (i.zero, i.size, i.bytes)) = some (some (.agg #[.int .u64 0, .int .i64 0, .int .i64 0]), 3, 24) := by kernel_rfl
/-- An event's cells. -/
def evl (y : Ev) : List Value := [.int .u64 y.t, .int .i64 y.c, .int .i64 y.a]
theorem evl_len (fs : List Ev) : (fs.flatMap evl).length = fs.length * 3 := by
  induction fs with
  | nil => rfl
  | cons a t ih =>
    rw [List.flatMap_cons, List.length_append, ih, List.length_cons]
    show 3 + t.length * 3 = _
    omega
theorem evl_at : ∀ (fs : List Ev) (j : Nat) (f : Ev) (r : Nat), r < 3 → fs[j]? = some f → (fs.flatMap evl)[j * 3 + r]? = (evl f)[r]?
  | [], j, l, r, _, h => by simp at h
  | c :: t, 0, l, r, hr, h => by
    simp at h
    subst h
    rw [List.flatMap_cons, List.getElem?_append_left (by show 0 * 3 + r < 3; omega), Nat.zero_mul, Nat.zero_add]
  | c :: t, j + 1, l, r, hr, h => by
    have ih := evl_at t j l r hr (by simpa using h)
    have hl : (evl c).length = 3 := rfl
    rw [List.flatMap_cons, List.getElem?_append_right (by omega), hl, show (j + 1) * 3 + r - 3 = j * 3 + r by omega]
    exact ih
theorem evl_set : ∀ (ls : List Ev) (k : Nat) (y' : Ev), k < ls.length → (((ls.flatMap evl).set (k * 3) (.int .u64 y'.t)).set (k * 3 + 1) (.int .i64 y'.c)).set (k * 3 + 2) (.int .i64 y'.a) = (ls.set k y').flatMap evl
  | [], k, y', h => by simp at h
  | c :: t, 0, y', h => rfl
  | c :: t, k + 1, y', h => by
    have ih := evl_set t k y' (by simpa using h)
    have hl : (evl c).length = 3 := rfl
    rw [List.set_cons_succ, List.flatMap_cons, List.flatMap_cons, List.set_append_right _ _ (by omega), List.set_append_right _ _ (by omega), List.set_append_right _ _ (by omega), hl,
      show (k + 1) * 3 - 3 = k * 3 by omega, show (k + 1) * 3 + 1 - 3 = k * 3 + 1 by omega, show (k + 1) * 3 + 2 - 3 = k * 3 + 2 by omega, ih]
theorem evl_one (fs : List Ev) : ∀ u ∈ fs.flatMap evl, u.oneCell' = true := by
  intro u hu
  obtain ⟨a, _, h⟩ := List.mem_flatMap.1 hu
  simp [evl] at h
  rcases h with rfl | rfl | rfl <;> rfl
/-- The slice v owns the events fs, at a block from B on. -/
def OwnEv (w : World) (B : Nat) (v : Value) (fs : List Ev) : Prop := w.ownsRow B 31 3 v fs.length (fs.flatMap evl)
theorem ownEv_nil (w : World) (B : Nat) : OwnEv w B (.slice none 0 0) [] := World.ownsRow_nil w B 31 3
variable {B : Nat} {w w' : World} {v : Value} {fs : List Ev}
theorem OwnEv.lt (h : OwnEv w B v fs) {g : Nat} (hg : v.ownBlock = some g) : B ≤ g ∧ g < w.heap.size := World.ownsRow.lt h g hg
theorem OwnEv.len (h : OwnEv w B v fs) : ∃ a c, v = .slice a fs.length c ∧ fs.length ≤ c := by
  rcases h.2 with ⟨rfl, hn⟩ | ⟨g, cap, cur, rfl, _, _, hc, _⟩
  · rw [hn]; exact ⟨_, _, rfl, Nat.le_refl _⟩
  · exact ⟨_, _, rfl, hc⟩
theorem OwnEv.form (h : OwnEv w B v fs) (h0 : 0 < fs.length) : ∃ g c, v = .slice (some ⟨g, 0, none⟩) fs.length c ∧ fs.length ≤ c ∧ B ≤ g ∧ g < w.heap.size := by
  rcases h.2 with ⟨_, hn⟩ | ⟨g, cap, cur, rfl, hB, hg, hc, _⟩
  · omega
  · exact ⟨_, _, rfl, hc, hB, lt_of_block hg⟩
theorem OwnEv.keep {F : Nat → Prop} (h : OwnEv w B v fs) (hk : Keep F w w') (hn : ∀ g, v.ownBlock = some g → ¬ F g) : OwnEv w' B v fs := by
  refine ⟨h.1, ?_⟩
  rcases h.2 with h1 | ⟨g, cap, cur, rfl, hB, hg, rest⟩
  · exact .inl h1
  · refine .inr ⟨g, cap, cur, rfl, hB, ?_, rest⟩
    rw [hk.block g (lt_of_block hg) (hn g rfl)]; exact hg
theorem OwnEv.below (h : OwnEv w B v fs) (hb : Below w.heap.size w w') : OwnEv w' B v fs := h.keep (F := fun _ => False) (Keep.of_below hb) (fun _ _ h => h.elim)
theorem OwnEv.mono {B' : Nat} (h : OwnEv w B v fs) (hb : B' ≤ B) : OwnEv w B' v fs := by
  refine ⟨h.1, ?_⟩
  rcases h.2 with h1 | ⟨g, cap, cur, rfl, hB, rest⟩
  · exact .inl h1
  · exact .inr ⟨g, cap, cur, rfl, by omega, rest⟩
/-- It lies in no block of another kind. -/
theorem OwnEv.ne {g : Nat} {C : Array Value} {T : TypeId} (h : OwnEv w B v fs) (hb : Blk w g C T) (hT : T ≠ 31) : v.ownBlock ≠ some g := by
  intro he
  rcases h.2 with ⟨rfl, _⟩ | ⟨g', cap, cur, rfl, hB, hg, rest⟩
  · cases he
  · simp only [Value.ownBlock, Option.some.injEq] at he
    subst he
    unfold Blk at hb
    rw [hg] at hb
    simp only [Option.some.injEq, Obj.cells.injEq] at hb
    exact hT hb.2.1.symm
theorem OwnEv.at_ {g n cap : Nat} (h : OwnEv w B (.slice (some ⟨g, 0, none⟩) n cap) fs) {j : Nat} {y : Ev} (hy : fs[j]? = some y) : REv w g (j * 3) y := by
  have hn : n = fs.length := by
    rcases h.2 with ⟨h1, _⟩ | ⟨g', cap', cur, h1, _⟩
    · cases h1
    · simp only [Value.slice.injEq] at h1; exact h1.2.1
  subst hn
  have hk : j < fs.length := (List.getElem?_eq_some_iff.1 hy).1
  have c : ∀ r, r < 3 → w.cell? ⟨g, j * 3 + r, none⟩ = (evl y)[r]? := fun r hr => by
    rw [World.ownsRow.cellAt h _ (by omega)]
    exact evl_at fs j y r hr hy
  exact ⟨c 0 (by decide), c 1 (by decide), c 2 (by decide)⟩
theorem OwnEv.frz {g n cap : Nat} (h : OwnEv w B (.slice (some ⟨g, 0, none⟩) n cap) fs) (j : Nat) : w.frozen? ⟨g, j, none⟩ = false := by
  rcases h.2 with ⟨h1, _⟩ | ⟨g', cap', cur, h1, _, hg, _⟩
  · cases h1
  · simp only [Value.slice.injEq, Option.some.injEq, Addr.mk.injEq, and_true] at h1
    rw [h1.1]
    exact frozen_of_row _ _ _ _ _ hg
/-- The k-th event stored anew. -/
theorem OwnEv.set_ {g n cap : Nat} (h : OwnEv w B (.slice (some ⟨g, 0, none⟩) n cap) fs) (hn : n = fs.length) {k : Nat} (hk : k < fs.length) (y : Ev) :
    OwnEv (((w.setCell ⟨g, k * 3, none⟩ (.int .u64 y.t)).setCell ⟨g, k * 3 + 1, none⟩ (.int .i64 y.c)).setCell ⟨g, k * 3 + 2, none⟩ (.int .i64 y.a)) B (.slice (some ⟨g, 0, none⟩) n cap) (fs.set k y) := by
  subst hn
  have h1 := World.ownsRow.stored (World.ownsRow.stored (World.ownsRow.stored h (k * 3) (.int .u64 y.t)).1 (k * 3 + 1) (.int .i64 y.c)).1 (k * 3 + 2) (.int .i64 y.a)
  rw [evl_set fs k y hk] at h1
  unfold OwnEv
  rw [List.length_set]
  exact h1.1
theorem OwnEv.els (h : OwnEv w B v fs) : Els REv 3 w v fs := by
  obtain ⟨a, c, rfl, _⟩ := h.len
  refine ⟨a, c, rfl, fun j y hy => ?_⟩
  obtain ⟨g, c', e, _⟩ := h.form (by have := (List.getElem?_eq_some_iff.1 hy).1; omega)
  simp only [Value.slice.injEq] at e
  rw [e.1] at h ⊢
  exact ⟨g, 0, rfl, by rw [Nat.zero_add]; exact h.at_ hy⟩
/-- A part of what a slice owns, from k on. -/
theorem OwnEv.drop {g n cap m c : Nat} (h : OwnEv w B (.slice (some ⟨g, 0, none⟩) n cap) fs) (k : Nat) (hm : m = (fs.drop k).length) : Els REv 3 w (.slice (some ⟨g, k * 3, none⟩) m c) (fs.drop k) := by
  refine ⟨_, c, by rw [hm], fun j y hy => ⟨g, k * 3, rfl, ?_⟩⟩
  rw [List.getElem?_drop] at hy
  rw [show k * 3 + j * 3 = (k + j) * 3 by omega]
  exact h.at_ hy
/-- Where events lie one behind another. -/
theorem elsEv_cells {g o m c : Nat} {us : List Ev} (h : Els REv 3 w (.slice (some ⟨g, o, none⟩) m c) us) : ∀ (j : Nat) u, (us.flatMap evl)[j]? = some u → w.cell? ((⟨g, o, none⟩ : Addr).add j) = some u := by
  intro j u hu
  rw [plain_add]
  have hj : j < us.length * 3 := by rw [← evl_len]; exact (List.getElem?_eq_some_iff.1 hu).1
  obtain ⟨a, ha⟩ : ∃ a, us[j / 3]? = some a := ⟨_, List.getElem?_eq_getElem (by omega)⟩
  obtain ⟨g', o', e, h0, h1, h2⟩ := h.at_ ha
  simp only [Option.some.injEq, Addr.mk.injEq] at e
  obtain ⟨rfl, rfl, _⟩ := e
  have hc := evl_at us (j / 3) a (j % 3) (by omega) ha
  rw [show j / 3 * 3 + j % 3 = j by omega, hu] at hc
  rcases (show j % 3 = 0 ∨ j % 3 = 1 ∨ j % 3 = 2 by omega) with e | e | e
  · rw [e] at hc; rw [show o + j = o + j / 3 * 3 by omega, h0]; exact hc.symm
  · rw [e] at hc; rw [show o + j = o + j / 3 * 3 + 1 by omega, h1]; exact hc.symm
  · rw [e] at hc; rw [show o + j = o + j / 3 * 3 + 2 by omega, h2]; exact hc.symm
/-- append of any events to a slice that owns its own. -/
theorem run_appEv (ty : TypeId) (hown : OwnEv w B v fs) {u : Value} {us : List Ev} (hu : Els REv 3 w u us) (hm : fs.length + us.length ≤ 1000000) (hB : B ≤ w.heap.size) :
    ∃ v' w', (Builtin.append_ #[22, 22] ty #[v, u]).run Try.prog w = .ok v' w' ∧ OwnEv w' B v' (fs ++ us) ∧ w.grownBy w' v.ownBlock ∧ (v'.ownBlock = v.ownBlock ∨ v'.ownBlock = some w.heap.size) := by
  obtain ⟨i0, hi, hz0, hz1, hz2⟩ := info_parts infoEv
  obtain ⟨au, cu, rfl⟩ := hu.len
  by_cases h0 : us.length = 0
  · obtain rfl := List.length_eq_zero_iff.1 h0
    rw [List.append_nil]
    have hsrc : Src Try.prog i0.size 22 (.slice au 0 cu) 0 [] w := by
      cases au with
      | none => exact Src.ofNil w Try.underlying22 cu
      | some ad => exact Src.ofSlice w Try.underlying22 ad 0 cu [] (by simp) (fun j u hu => by simp at hu) (fun u hu => by cases hu)
    obtain ⟨av, cv, rfl, hc⟩ := hown.len
    exact ⟨_, w, run_append_nothing w 22 22 ty 31 i0 Try.underlying22 hi av fs.length cv hc _ hsrc, hown, World.grownBy.refl w _, .inl rfl⟩
  · obtain ⟨y, hy⟩ : ∃ y, us[0]? = some y := ⟨_, List.getElem?_eq_getElem (by omega)⟩
    obtain ⟨g0, o0, rfl, _⟩ := hu.at_ hy
    obtain ⟨g, cap, w', h1, h2, h3, h4, _⟩ := run_append_lies (P := Try.prog) w 22 ty B 31 i0 (.agg #[.int .u64 0, .int .i64 0, .int .i64 0]) 3 24 Try.underlying22 hi hz0 hz1 hz2 rfl (by decide) v fs.length (fs.flatMap evl) hown
      ⟨g0, o0, none⟩ us.length cu (us.flatMap evl) (by rw [evl_len]) (elsEv_cells hu) (evl_one us) (by omega) (by unfold maxLen; omega) (by omega) hB _ rfl
    refine ⟨_, w', h1, ?_, h3, ?_⟩
    · unfold OwnEv
      rw [List.length_append, List.flatMap_append]
      exact h2
    · rcases h4 with h4 | h4
      · exact .inl h4.symm
      · exact .inr (by rw [h4]; rfl)
/-- append as a step of a region that draws its order, its run known. -/
theorem step_runEv {ops : Array Oper} {o : Oper} {a : Act} {K : Act → World → Prop} {Q : Exit → Act → World → Prop} {E : Prop} (hgd : o.guard = none) (s y : Operand) (t : TypeId) (ho : o.op = .call { callee := .builtin .append, args := #[s, y], argTypes := #[t, t] })
    {v u v' : Value} {w w' : World} (hs : a.eval s = v) (hx : a.eval y = u) (hrun : (Builtin.append_ #[t, t] o.type #[v, u]).run Try.prog w = .ok v' w') (h : K (a.put o.dst v') w') :
    if Region.wanted o (yielded ops a.tmps) = true then Oper.wp Try.prog o a w K Q else E := by
  have hw : Region.wanted o (yielded ops a.tmps) = true := by simp [Region.wanted, hgd]
  rw [if_pos hw]
  unfold Oper.wp
  simp [execOp, ho, resolve, invoke, builtin, hs, hx, hrun, Result.andThen]
  exact h
end Go.Proofs.Ytabhfbdfahidoaa
