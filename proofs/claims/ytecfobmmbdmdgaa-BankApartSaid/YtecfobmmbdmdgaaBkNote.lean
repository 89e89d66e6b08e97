/-
  Notes in memory: slices of notes that a call made, appended to.
-/
import Derived.Test.YtecfobmmbdmdgaaBkMath
import Derived.Test.YtecfobmmbdmdgaaBlk
import Derived.Test.YtecfobmmbdmdgaaBytK
import Derived.OwnWalkIn
namespace Go.Proofs.Ytecfobmmbdmdgaa
open Go.RowKit

/-- A note as it lies in memory: its data's block and room beside what is told. -/
structure NV where
  s : Nat
  g : Nat
  c : Nat
  d : List (BitVec 8)
  e : Nat
def NV.v (y : NV) : Value := .slice (some ⟨y.g, 0, none⟩) y.d.length y.c
def NV.nt (y : NV) : Nt := ⟨y.s, y.d, y.e⟩
def NV.agg (y : NV) : Value := .agg #[.int .u32 (y.s : Int), y.v, .int .i64 (y.e : Int)]
def ntl (y : NV) : List Value := [.int .u32 (y.s : Int), y.v, .int .i64 (y.e : Int)]
theorem ntl_len (l : List NV) : (l.flatMap ntl).length = l.length * 3 := by
  induction l with
  | nil => rfl
  | cons a t ih => rw [List.flatMap_cons, List.length_append, ih, List.length_cons]; show 3 + _ = _; omega
theorem ntl_one (l : List NV) : ∀ u ∈ l.flatMap ntl, u.oneCell' = true := by
  intro u hu
  obtain ⟨a, _, h⟩ := List.mem_flatMap.1 hu
  simp [ntl, NV.v] at h
  rcases h with rfl | rfl | rfl <;> rfl
theorem ntl_at : ∀ (l : List NV) (j : Nat) (y : NV) (r : Nat), r < 3 → l[j]? = some y → (l.flatMap ntl)[j * 3 + r]? = (ntl y)[r]?
  | [], j, y, r, _, h => by simp at h
  | c :: t, 0, y, r, hr, h => by
    simp at h
    subst h
    rw [List.flatMap_cons, List.getElem?_append_left (by show 0 * 3 + r < 3; omega), Nat.zero_mul, Nat.zero_add]
  | c :: t, j + 1, y, r, hr, h => by
    have ih := ntl_at t j y r hr (by simpa using h)
    have hl : (ntl c).length = 3 := rfl
    rw [List.flatMap_cons, List.getElem?_append_right (by omega), hl, show (j + 1) * 3 + r - 3 = j * 3 + r by omega]
    exact ih

/-- The slice v owns the notes ys, at a block from B on. -/
def OwnN (w : World) (B : Nat) (v : Value) (ys : List NV) : Prop := w.ownsRow B 33 3 v ys.length (ys.flatMap ntl)
theorem ownN_nil (w : World) (B : Nat) : OwnN w B (.slice none 0 0) [] := World.ownsRow_nil w B 33 3
variable {B : Nat} {w w' : World} {v : Value} {ys : List NV}
theorem OwnN.keep {F : Nat → Prop} (h : OwnN w B v ys) (hk : Keep F w w') (hn : ∀ g, v.ownBlock = some g → ¬ F g) : OwnN w' B v ys := by
  refine ⟨h.1, ?_⟩
  rcases h.2 with h1 | ⟨g, cap, cur, rfl, hB, hg, rest⟩
  · exact .inl h1
  · refine .inr ⟨g, cap, cur, rfl, hB, ?_, rest⟩
    rw [hk.block g (lt_of_block hg) (hn g rfl)]; exact hg
theorem OwnN.keepB {F : Nat → Prop} (h : OwnN w B v ys) (hk : Keep F w w') (hn : ∀ g, F g → g < B) : OwnN w' B v ys := by
  refine h.keep hk fun g hg hF => ?_
  have h1 := (World.ownsRow.lt h g hg).1
  have h2 := hn g hF
  omega
theorem OwnN.below (h : OwnN w B v ys) (hb : Below w.heap.size w w') : OwnN w' B v ys := h.keep (F := fun _ => False) (Keep.of_below hb) (fun _ _ h => h)
theorem OwnN.mono {B' : Nat} (h : OwnN w B v ys) (hB : B' ≤ B) : OwnN w B' v ys := by
  refine ⟨h.1, ?_⟩
  rcases h.2 with hn | ⟨g, cap, cur, hv, hb, rest⟩
  · exact .inl hn
  · exact .inr ⟨g, cap, cur, hv, by omega, rest⟩
theorem OwnN.grown (h : OwnN w B v ys) (hg : w.grownBy w' v.ownBlock) (hB : B ≤ w.heap.size) : Below B w w' := (Below.refl B w).grown hg hB fun k hk => (World.ownsRow.lt h k hk).1
theorem OwnN.len (h : OwnN w B v ys) : ∃ a c, v = .slice a ys.length c := by
  rcases h.2 with ⟨rfl, hn⟩ | ⟨g, cap, cur, rfl, _⟩
  · rw [hn]; exact ⟨_, _, rfl⟩
  · exact ⟨_, _, rfl⟩
/-- A note of the row. -/
theorem OwnN.at_ (h : OwnN w B v ys) {j : Nat} {y : NV} (hy : ys[j]? = some y) : ∃ g c, v = .slice (some ⟨g, 0, none⟩) ys.length c ∧ B ≤ g ∧ g < w.heap.size ∧
    w.cell? ⟨g, j * 3, none⟩ = some (.int .u32 (y.s : Int)) ∧ w.cell? ⟨g, j * 3 + 1, none⟩ = some y.v ∧ w.cell? ⟨g, j * 3 + 2, none⟩ = some (.int .i64 (y.e : Int)) := by
  have hj : j < ys.length := (List.getElem?_eq_some_iff.1 hy).1
  rcases h.2 with ⟨rfl, hn⟩ | ⟨g, cap, cur, rfl, hB, hg, _⟩
  · omega
  · have c : ∀ r, r < 3 → w.cell? ⟨g, j * 3 + r, none⟩ = (ntl y)[r]? := fun r hr => by
      rw [World.ownsRow.cellAt h _ (by omega)]
      exact ntl_at ys j y r hr hy
    exact ⟨g, cap, rfl, hB, lt_of_block hg, c 0 (by decide), c 1 (by decide), c 2 (by decide)⟩

theorem infoN : (Try.prog.info? 33).map (fun i => (i.zero, i.size, i.bytes)) = some (some (.agg #[.int .u32 0, .slice none 0 0, .int .i64 0]), 3, 40) := by kernel_rfl
/-- One note at the head of a block. -/
theorem note_cells {g : Nat} {y : NV} (h : Blk w g #[.int .u32 (y.s : Int), y.v, .int .i64 (y.e : Int)] 33) : ∀ (j : Nat) u, (ntl y)[j]? = some u → w.cell? ((⟨g, 0, none⟩ : Addr).add j) = some u := by
  intro j u hu
  rw [plain_add, Nat.zero_add]
  rcases j with _ | _ | _ | j
  · exact h.cell 0 (by simpa [ntl] using hu)
  · exact h.cell 1 (by simpa [ntl] using hu)
  · exact h.cell 2 (by simpa [ntl] using hu)
  · simp [ntl] at hu
theorem run_appN {base : Nat} (ty : TypeId) (hown : OwnN w base v ys) (g : Nat) (y : NV) (hg : Blk w g #[.int .u32 (y.s : Int), y.v, .int .i64 (y.e : Int)] 33)
    (hm : ys.length ≤ 1000000) (hbase : base ≤ w.heap.size) :
    ∃ v' w', (Builtin.append_ #[29, 29] ty #[v, .slice (some ⟨g, 0, none⟩) 1 1]).run Try.prog w = .ok v' w' ∧ OwnN w' base v' (ys ++ [y]) ∧ w.grownBy w' v.ownBlock := by
  obtain ⟨i0, hi, hz0, hz1, hz2⟩ := info_parts infoN
  obtain ⟨v', w', h1, h2, h3, _⟩ := run_append_own (P := Try.prog) w base 29 ty 33 i0 (.agg #[.int .u32 0, .slice none 0 0, .int .i64 0]) 3 40 Try.underlying29 hi hz0 hz1 hz2 rfl (by decide) v ys.length (ys.flatMap ntl) hown
    ⟨g, 0, none⟩ 1 1 (ntl y) rfl (note_cells hg) (fun u hu => ntl_one [y] u (by simpa using hu)) (by unfold maxLen; omega) (by omega) hbase
  refine ⟨v', w', h1, ?_, h3⟩
  unfold OwnN
  rw [List.length_append, List.flatMap_append]
  simpa using h2
theorem wpList_appN {ops : Array Oper} {rest : List Oper} {o : Oper} {a : Act} {Q : Exit → Act → World → Prop} (hgd : o.guard = none) (s x : Operand)
    (ho : o.op = .call { callee := .builtin .append, args := #[s, x], argTypes := #[29, 29] })
    (base : Nat) (v : Value) (ys : List NV) (hs : a.eval s = v) (hown : OwnN w base v ys) (g : Nat) (hx : a.eval x = .slice (some ⟨g, 0, none⟩) 1 1) (y : NV) (hg : Blk w g #[.int .u32 (y.s : Int), y.v, .int .i64 (y.e : Int)] 33)
    (hm : ys.length ≤ 1000000) (hbase : base ≤ w.heap.size)
    (h : ∀ v' w', OwnN w' base v' (ys ++ [y]) → w.grownBy w' v.ownBlock → wpList Try.prog ops Q rest (a.put o.dst v') w') : wpList Try.prog ops Q (o :: rest) a w := by
  obtain ⟨v', w', hrun, h1, h2⟩ := run_appN o.type hown g y hg hm hbase
  refine wpList_plain hgd fun K hK => ?_
  unfold Oper.wp
  simp [execOp, ho, resolve, invoke, builtin, hs, hx, hrun, Result.andThen]
  exact hK _ _ (h v' w' h1 h2)
theorem wpListIn_appN {F : Fence} {n : Nat} {ops : Array Oper} {rest : List Oper} {o : Oper} {a : Act} {Q : Exit → Act → World → Prop} (hgd : o.guard = none) (s x : Operand)
    (ho : o.op = .call { callee := .builtin .append, args := #[s, x], argTypes := #[29, 29] })
    (base : Nat) (v : Value) (ys : List NV) (hs : a.eval s = v) (hown : OwnN w base v ys) (g : Nat) (hx : a.eval x = .slice (some ⟨g, 0, none⟩) 1 1) (y : NV) (hg : Blk w g #[.int .u32 (y.s : Int), y.v, .int .i64 (y.e : Int)] 33)
    (hm : ys.length ≤ 1000000) (hbase : base ≤ w.heap.size)
    (h : ∀ v' w', OwnN w' base v' (ys ++ [y]) → w.grownBy w' v.ownBlock → wpListIn F n Try.prog ops Q rest (a.put o.dst v') w') : wpListIn F n Try.prog ops Q (o :: rest) a w := by
  obtain ⟨i0, hi, hz0, hz1, hz2⟩ := info_parts infoN
  refine wpListIn_append_own w hgd s x 29 ho base 33 i0 (.agg #[.int .u32 0, .slice none 0 0, .int .i64 0]) 3 40 Try.underlying29 hi hz0 hz1 hz2 rfl (by decide) v ys.length (ys.flatMap ntl) hs hown
    ⟨g, 0, none⟩ 1 1 (ntl y) hx rfl (note_cells hg) (fun u hu => ntl_one [y] u (by simpa using hu)) (by unfold maxLen; omega) (by omega) hbase (fun v' w' h1 h2 _ => h v' w' ?_ h2)
  unfold OwnN
  rw [List.length_append, List.flatMap_append]
  simpa using h1

/-! The notes' data. -/
/-- Each note's bytes are the call's own, in a block of their own. -/
def Dat (w : World) (lo : Nat) (ys : List NV) : Prop := (∀ y ∈ ys, Own w lo y.v y.d) ∧ ys.Pairwise (fun a b => a.g < b.g)
theorem Dat.nil (w : World) (lo : Nat) : Dat w lo [] := ⟨fun _ h => by simp at h, List.Pairwise.nil⟩
theorem NV.own_block {w : World} {lo : Nat} {y : NV} (h : Own w lo y.v y.d) : ∃ C, w.heap[y.g]? = some (.cells C 5 (0, 0)) ∧ lo ≤ y.g := by
  rcases h.2 with ⟨h1, _⟩ | ⟨g, cap, cur, h1, hB, hg, _⟩
  · cases h1
  · simp only [NV.v, Value.slice.injEq, Option.some.injEq, Addr.mk.injEq] at h1
    obtain ⟨⟨rfl, _⟩, _⟩ := h1
    exact ⟨_, hg, hB⟩
theorem NV.lt {w : World} {lo : Nat} {y : NV} (h : Own w lo y.v y.d) : y.g < w.heap.size := by obtain ⟨C, h, _⟩ := NV.own_block h; exact lt_of_block h
theorem Dat.keep {F : Nat → Prop} {lo : Nat} (h : Dat w lo ys) (hk : Keep F w w') (hn : ∀ y ∈ ys, ¬ F y.g) : Dat w' lo ys :=
  ⟨fun y hy => (h.1 y hy).keepB hk fun g hg => by simp only [NV.v, Value.ownBlock, Option.some.injEq] at hg; subst hg; exact hn y hy, h.2⟩
theorem Dat.below {lo : Nat} (h : Dat w lo ys) (hb : Below w.heap.size w w') : Dat w' lo ys := h.keep (F := fun _ => False) (Keep.of_below hb) (fun _ _ h => h)
theorem Dat.snoc {lo : Nat} (h : Dat w lo ys) {y : NV} (hy : Own w lo y.v y.d) (hg : ∀ x ∈ ys, x.g < y.g) : Dat w lo (ys ++ [y]) :=
  ⟨fun x hx => (List.mem_append.1 hx).elim (h.1 x) (fun hx => by simp at hx; subst hx; exact hy), List.pairwise_append.2 ⟨h.2, by simp, fun a ha b hb => by simp at hb; subst hb; exact hg a ha⟩⟩
theorem Dat.lt {lo : Nat} (h : Dat w lo ys) {y : NV} (hy : y ∈ ys) : y.g < w.heap.size := NV.lt (h.1 y hy)
/-- Notes' data lie apart from the notes themselves. -/
theorem Dat.ne {lo : Nat} (h : Dat w lo ys) (hv : OwnN w B v ys) {y : NV} (hy : y ∈ ys) : ∀ g, v.ownBlock = some g → g ≠ y.g := by
  intro g hg he
  subst he
  obtain ⟨C, hC, _⟩ := NV.own_block (h.1 y hy)
  rcases hv.2 with ⟨rfl, _⟩ | ⟨g', cap, cur, rfl, _, hgb, _⟩
  · cases hg
  · simp [Value.ownBlock] at hg
    subst hg
    rw [hC] at hgb
    simp at hgb
/-- What a call that made a note's bytes hands over. -/
theorem nv_of {w : World} {lo : Nat} {r : Value} {m : Nt} (h : Own w lo r m.d) (h1 : 1 ≤ m.d.length) : ∃ y : NV, y.nt = m ∧ y.v = r ∧ Own w lo y.v y.d ∧ lo ≤ y.g := by
  obtain ⟨g, cap, rfl, _, hB⟩ := h.form h1
  exact ⟨⟨m.s, g, cap, m.d, m.e⟩, rfl, rfl, h, hB⟩
/-- What Last tells: a note, or a zero one. -/
def LastT (m : Option Nt) (B : Nat) (w : World) (s : Int) (a : Option Addr) (k c : Nat) (e : Int) (ok : Bool) : Prop :=
  (m = none ∧ ok = false ∧ s = 0 ∧ a = none ∧ k = 0 ∧ c = 0 ∧ e = 0) ∨ (ok = true ∧ ∃ y : NV, m = some y.nt ∧ s = (y.s : Int) ∧ .slice a k c = y.v ∧ e = (y.e : Int) ∧ Own w B y.v y.d)
theorem LastT.keep {m : Option Nt} {B : Nat} {w w' : World} {s : Int} {a : Option Addr} {k c : Nat} {e : Int} {ok : Bool} {F : Nat → Prop} (h : LastT m B w s a k c e ok) (hk : Keep F w w') (hF : ∀ y : NV, .slice a k c = y.v → ok = true → ¬ F y.g) : LastT m B w' s a k c e ok := by
  rcases h with h | ⟨rfl, y, h1, h2, h3, h4, h5⟩
  · exact .inl h
  · exact .inr ⟨rfl, y, h1, h2, h3, h4, h5.keepB hk fun g hg => by simp only [NV.v, Value.ownBlock, Option.some.injEq] at hg; subst hg; exact hF y h3 rfl⟩
theorem LastT.mono {m : Option Nt} {B B' : Nat} {w : World} {s : Int} {a : Option Addr} {k c : Nat} {e : Int} {ok : Bool} (h : LastT m B w s a k c e ok) (hB : B' ≤ B) : LastT m B' w s a k c e ok := by
  rcases h with h | ⟨rfl, y, h1, h2, h3, h4, h5⟩
  · exact .inl h
  · exact .inr ⟨rfl, y, h1, h2, h3, h4, h5.mono hB⟩
theorem LastT.below {m : Option Nt} {B : Nat} {w w' : World} {s : Int} {a : Option Addr} {k c : Nat} {e : Int} {ok : Bool} (h : LastT m B w s a k c e ok) (hb : Below w.heap.size w w') : LastT m B w' s a k c e ok :=
  h.keep (F := fun _ => False) (Keep.of_below hb) fun _ _ _ h => h
end Go.Proofs.Ytecfobmmbdmdgaa
