/-
  The document's wheel in memory: its pool, its row of timers; New, at, Left, Free.
-/
import Derived.Test.YtaonnkocopngaaaDoorSame
namespace Go.Proofs.YtaonnkocopngaaaDoor
open Go.RowKit

/-- A timer's cells (due: how many ticks are left). -/
def tmc (a : Tm) : List Value := [.int .i64 (a.num : Int), .int .i64 a.tag, .int .i64 (a.due : Int)]
theorem tmc_len (ts : List Tm) : (ts.flatMap tmc).length = ts.length * 3 := by
  induction ts with
  | nil => rfl
  | cons a t ih =>
    rw [List.flatMap_cons, List.length_append, ih, List.length_cons]
    show 3 + t.length * 3 = _
    omega
theorem tmc_at : ∀ (ts : List Tm) (j : Nat) (a : Tm), ts[j]? = some a → (ts.flatMap tmc)[j * 3]? = some (.int .i64 (a.num : Int)) ∧ (ts.flatMap tmc)[j * 3 + 1]? = some (.int .i64 a.tag) ∧ (ts.flatMap tmc)[j * 3 + 2]? = some (.int .i64 (a.due : Int))
  | [], j, a, h => by simp at h
  | c :: t, 0, a, h => by
    simp at h
    subst h
    exact ⟨rfl, rfl, rfl⟩
  | c :: t, j + 1, a, h => by
    obtain ⟨i1, i2, i3⟩ := tmc_at t j a (by simpa using h)
    have hl : (tmc c).length = 3 := rfl
    rw [List.flatMap_cons]
    refine ⟨?_, ?_, ?_⟩
    · rw [List.getElem?_append_right (by omega), hl, show (j + 1) * 3 - 3 = j * 3 by omega]; exact i1
    · rw [List.getElem?_append_right (by omega), hl, show (j + 1) * 3 + 1 - 3 = j * 3 + 1 by omega]; exact i2
    · rw [List.getElem?_append_right (by omega), hl, show (j + 1) * 3 + 2 - 3 = j * 3 + 2 by omega]; exact i3
theorem tmc_one (ts : List Tm) : ∀ u ∈ ts.flatMap tmc, u.oneCell' = true := by
  intro u hu
  obtain ⟨a, _, h⟩ := List.mem_flatMap.1 hu
  simp [tmc] at h
  rcases h with rfl | rfl | rfl <;> rfl

/-- The slice v owns the timers ts, at a block from B on. -/
def Ts (B : Nat) (w : World) (v : Value) (ts : List Tm) : Prop := w.ownsRow B 65 3 v ts.length (ts.flatMap tmc)
theorem infoT : (Tryd.prog.info? 65).map (fun i => (i.zero, i.size, i.bytes)) = some (some (.agg #[.int .i64 0, .int .i64 0, .int .i64 0]), 3, 24) := by kernel_rfl
theorem ts_nil (B : Nat) (w : World) : Ts B w (.slice none 0 0) [] := World.ownsRow_nil w B 65 3
variable {B : Nat} {w w' w1 w2 : World} {v v' : Value} {ts : List Tm}
theorem Ts.form (h : Ts B w v ts) : (v = .slice none 0 0 ∧ ts = []) ∨ ∃ g cap, v = .slice (some ⟨g, 0, none⟩) ts.length cap ∧ B ≤ g ∧ g < w.heap.size ∧ ts.length ≤ cap := by
  rcases h.2 with ⟨h1, hn⟩ | ⟨g, cap, cur, rfl, hB, hg, hcap, hm, hs, ht⟩
  · exact .inl ⟨h1, List.length_eq_zero_iff.1 hn⟩
  · exact .inr ⟨g, cap, rfl, hB, lt_of_block hg, hcap⟩
theorem Ts.len (h : Ts B w v ts) : ∃ a c, v = .slice a ts.length c := by
  rcases h.form with ⟨h1, rfl⟩ | ⟨g, cap, h1, _⟩
  · exact ⟨_, _, h1⟩
  · exact ⟨_, _, h1⟩
theorem Ts.lt (h : Ts B w v ts) {g : Nat} (hg : v.ownBlock = some g) : B ≤ g ∧ g < w.heap.size := World.ownsRow.lt h g hg
theorem Ts.at_ (h : Ts B w v ts) (j : Nat) (a : Tm) (hj : ts[j]? = some a) :
    ∃ g cap, v = .slice (some ⟨g, 0, none⟩) ts.length cap ∧ v.ownBlock = some g ∧ w.cell? ⟨g, j * 3, none⟩ = some (.int .i64 (a.num : Int)) ∧ w.cell? ⟨g, j * 3 + 1, none⟩ = some (.int .i64 a.tag) ∧ w.cell? ⟨g, j * 3 + 2, none⟩ = some (.int .i64 (a.due : Int)) := by
  have hk : j < ts.length := (List.getElem?_eq_some_iff.1 hj).1
  obtain ⟨e1, e2, e3⟩ := tmc_at ts j a hj
  rcases h.form with ⟨_, rfl⟩ | ⟨g, cap, rfl, _⟩
  · simp at hk
  · refine ⟨g, cap, rfl, rfl, ?_, ?_, ?_⟩
    · rw [World.ownsRow.cellAt h _ (by omega)]; exact e1
    · rw [World.ownsRow.cellAt h _ (by omega)]; exact e2
    · rw [World.ownsRow.cellAt h _ (by omega)]; exact e3
theorem Ts.keep {F : Nat → Prop} (h : Ts B w v ts) (hk : Keep F w w') (hn : ∀ g, v.ownBlock = some g → ¬ F g) : Ts B w' v ts := by
  refine ⟨h.1, ?_⟩
  rcases h.2 with h1 | ⟨g, cap, cur, rfl, hB, hg, rest⟩
  · exact .inl h1
  · refine .inr ⟨g, cap, cur, rfl, hB, ?_, rest⟩
    rw [hk.block g (lt_of_block hg) (hn g rfl)]; exact hg
theorem Ts.base {B' : Nat} (h : Ts B w v ts) (hb : ∀ g, v.ownBlock = some g → B' ≤ g) : Ts B' w v ts := by
  refine ⟨h.1, ?_⟩
  rcases h.2 with h1 | ⟨g, cap, cur, rfl, hB, hg, rest⟩
  · exact .inl h1
  · exact .inr ⟨g, cap, cur, rfl, hb g rfl, hg, rest⟩
/-- More timers behind the others. -/
theorem run_appT (B : Nat) (ty : TypeId) (v : Value) (ts : List Tm) (hown : Ts B w v ts) (ad : Addr) (c : Nat) (us : List Tm) (hu : ∀ j u, (us.flatMap tmc)[j]? = some u → w.cell? (ad.add j) = some u) (hm : ts.length + us.length ≤ 1000000) (hb : B ≤ w.heap.size) :
    ∃ v' w', (Builtin.append_ #[54, 54] ty #[v, .slice (some ad) us.length c]).run Tryd.prog w = .ok v' w' ∧ Ts B w' v' (ts ++ us) ∧ w.grownBy w' v.ownBlock := by
  obtain ⟨i0, hi, hz0, hz1, hz2⟩ := info_parts infoT
  obtain ⟨v', w', h1, h2, h3, _⟩ := run_append_own (P := Tryd.prog) w B 54 ty 65 i0 (.agg #[.int .i64 0, .int .i64 0, .int .i64 0]) 3 24 Tryd.underlying54 hi hz0 hz1 hz2 rfl (by decide) v ts.length (ts.flatMap tmc) hown
    ad us.length c (us.flatMap tmc) (tmc_len us) hu (tmc_one us) (by unfold maxLen; omega) (by omega) hb
  refine ⟨v', w', h1, ?_, h3⟩
  unfold Ts
  rw [List.length_append, List.flatMap_append]
  exact h2
theorem wpList_appT {ops : Array Oper} {rest : List Oper} {o : Oper} {a : Act} {Q : Exit → Act → World → Prop} (hgd : o.guard = none) (s x : Operand)
    (ho : o.op = .call { callee := .builtin .append, args := #[s, x], argTypes := #[54, 54] })
    (B : Nat) (v : Value) (ts : List Tm) (hs : a.eval s = v) (hown : Ts B w v ts) (ad : Addr) (c : Nat) (us : List Tm) (hx : a.eval x = .slice (some ad) us.length c) (hu : ∀ j u, (us.flatMap tmc)[j]? = some u → w.cell? (ad.add j) = some u)
    (hm : ts.length + us.length ≤ 1000000) (hb : B ≤ w.heap.size)
    (h : ∀ v' w', Ts B w' v' (ts ++ us) → w.grownBy w' v.ownBlock → wpList Tryd.prog ops Q rest (a.put o.dst v') w') : wpList Tryd.prog ops Q (o :: rest) a w := by
  obtain ⟨v', w', hrun, h1, h2⟩ := run_appT B o.type v ts hown ad c us hu hm hb
  refine wpList_plain hgd fun K hK => ?_
  unfold Oper.wp
  simp [execOp, ho, resolve, invoke, builtin, hs, hx, hrun, Result.andThen]
  exact hK _ _ (h v' w' h1 h2)
theorem one_at (g : Nat) (a : Tm) (h0 : w.cell? ⟨g, 0, none⟩ = some (.int .i64 (a.num : Int))) (h1 : w.cell? ⟨g, 1, none⟩ = some (.int .i64 a.tag)) (h2 : w.cell? ⟨g, 2, none⟩ = some (.int .i64 (a.due : Int))) :
    ∀ j u, (([a] : List Tm).flatMap tmc)[j]? = some u → w.cell? ((⟨g, 0, none⟩ : Addr).add j) = some u := by
  intro j u hu
  rw [plain_add]
  rcases j with _ | _ | _ | j
  · simp [tmc] at hu; rw [← hu]; exact h0
  · simp [tmc] at hu; rw [← hu]; exact h1
  · simp [tmc] at hu; rw [← hu]; exact h2
  · simp [tmc] at hu
theorem some_at (g o : Nat) (us : List Tm) (h : ∀ (j : Nat) (a : Tm), us[j]? = some a → w.cell? ⟨g, o + j * 3, none⟩ = some (.int .i64 (a.num : Int)) ∧ w.cell? ⟨g, o + j * 3 + 1, none⟩ = some (.int .i64 a.tag) ∧ w.cell? ⟨g, o + j * 3 + 2, none⟩ = some (.int .i64 (a.due : Int))) :
    ∀ j u, (us.flatMap tmc)[j]? = some u → w.cell? ((⟨g, o, none⟩ : Addr).add j) = some u := by
  intro j u hu
  rw [plain_add]
  have hj : j < us.length * 3 := by rw [← tmc_len]; exact (List.getElem?_eq_some_iff.1 hu).1
  obtain ⟨a, ha⟩ : ∃ a, us[j / 3]? = some a := ⟨_, List.getElem?_eq_getElem (by omega)⟩
  obtain ⟨e1, e2, e3⟩ := tmc_at us (j / 3) a ha
  obtain ⟨c1, c2, c3⟩ := h (j / 3) a ha
  have hc : j = j / 3 * 3 ∨ j = j / 3 * 3 + 1 ∨ j = j / 3 * 3 + 2 := by omega
  rcases hc with hc | hc | hc
  · rw [hc, e1] at hu; rw [hc, ← hu]; exact c1
  · rw [hc, e2] at hu; rw [hc, ← hu, ← Nat.add_assoc]; exact c2
  · rw [hc, e3] at hu; rw [hc, ← hu, ← Nat.add_assoc]; exact c3

/-- The document's wheel at block x: its pool, its timers (the slice v). -/
structure RWh (w : World) (x pool : Nat) (ts : List Tm) (v : Value) : Prop where
  row : w.heap[x]? = some (.cells #[.int .i64 (pool : Int), v] 56 (0, 0))
  own : Ts 0 w v ts
  ne : v.ownBlock ≠ some x
  small : ts.length ≤ pool ∧ pool ≤ 64
/-- Its blocks. -/
def Rp (x : Nat) (v : Value) (g : Nat) : Prop := g = x ∨ v.ownBlock = some g
variable {x pool : Nat}
theorem RWh.xlt (h : RWh w x pool ts v) : x < w.heap.size := lt_of_block h.row
theorem RWh.lt (h : RWh w x pool ts v) : ∀ g, Rp x v g → g < w.heap.size := by
  rintro g (rfl | hg)
  · exact h.xlt
  · exact (h.own.lt hg).2
theorem RWh.pool_ (h : RWh w x pool ts v) : w.cell? ⟨x, 0, none⟩ = some (.int .i64 (pool : Int)) := by rw [cell_of_row _ _ _ _ _ _ h.row]; rfl
theorem RWh.v_ (h : RWh w x pool ts v) : w.cell? ⟨x, 1, none⟩ = some v ∧ w.frozen? ⟨x, 1, none⟩ = false := ⟨by rw [cell_of_row _ _ _ _ _ _ h.row]; rfl, frozen_of_row _ _ _ _ _ h.row⟩
theorem RWh.keep {F : Nat → Prop} (h : RWh w x pool ts v) (hk : Keep F w w') (hn : ∀ g, Rp x v g → ¬ F g) : RWh w' x pool ts v :=
  ⟨by rw [hk.block x h.xlt (hn x (.inl rfl))]; exact h.row, h.own.keep hk (fun g hg => hn g (.inr hg)), h.ne, h.small⟩
theorem RWh.below (h : RWh w x pool ts v) (hb : Below w.heap.size w w') : RWh w' x pool ts v := h.keep (Keep.of_below (F := fun _ => False) hb) (fun _ _ h => h)
/-- What is left of it behind a call of its own. -/
def RAfter (w w' : World) (x pool : Nat) (ts : List Tm) (v : Value) : Prop := ∃ v', RWh w' x pool ts v' ∧ Keep (Rp x v) w w' ∧ ∀ g, v'.ownBlock = some g → v.ownBlock = some g ∨ w.heap.size ≤ g
/-- Its slice is laid anew. -/
theorem RWh.set_ {ts' : List Tm} (h : RWh w x pool ts v) {F : Nat → Prop} (hk : Keep F w w') (hF : ∀ g, F g → v.ownBlock = some g) (ho : Ts 0 w' v' ts') (hv : ∀ g, v'.ownBlock = some g → v.ownBlock = some g ∨ w.heap.size ≤ g) (hl : ts'.length ≤ pool) :
    RAfter w (w'.setCell ⟨x, 1, none⟩ v') x pool ts' v := by
  have hxF : ¬ F x := fun hf => h.ne (hF x hf)
  have hrow : w'.heap[x]? = some (.cells #[.int .i64 (pool : Int), v] 56 (0, 0)) := by rw [hk.block x h.xlt hxF]; exact h.row
  have hvx : v'.ownBlock ≠ some x := fun e => by
    rcases hv x e with h1 | h1
    · exact h.ne h1
    · have := h.xlt; omega
  have hk2 : Keep (fun g => g = x) w' (w'.setCell ⟨x, 1, none⟩ v') := Keep.set_ w' x 1 v' rfl
  refine ⟨v', ⟨heap_setCell_same w' x 1 _ _ v' hrow, ho.keep hk2 (fun g hg e => hvx (by rw [hg, e])), hvx, hl, h.small.2⟩, ?_, hv⟩
  exact (hk.mono (G := Rp x v) (fun g hg => .inr (hF g hg))).trans hk2 (fun g hg => .inl (.inl hg))

theorem rnew_any (pl : Int) (n : Nat) (h0 : (n : Int) = min (max pl 0) 64) (w : World) :
    Calls Tryd.prog 11 #[.int .i64 pl] w fun e w' => ∃ x v, e = .returned (.pointer (some ⟨x, 0, none⟩)) ∧ RWh w' x n [] v ∧ Below w.heap.size w w' ∧ w.heap.size ≤ x ∧ v.ownBlock = none := by
  obtain ⟨m, hm⟩ : ∃ m : Int, m = max pl 0 := ⟨_, rfl⟩
  have hmx : ∀ (ts : Array TypeId) (t : TypeId) (w : World), (Builtin.max_ ts t #[.int .i64 pl, .int .i64 0]).run Tryd.prog w = .ok (.int .i64 m) w := by
    intro ts t w
    rw [run_max_int2, show (if (0 : Int) > pl then 0 else pl) = m by rw [hm]; split <;> omega]
  have hmn : ∀ (ts : Array TypeId) (t : TypeId) (w : World), (Builtin.min_ ts t #[.int .i64 m, .int .i64 64]).run Tryd.prog w = .ok (.int .i64 (n : Int)) w := by
    intro ts t w
    rw [run_min_int2, show (if (64 : Int) < m then 64 else m) = (n : Int) by rw [hm, h0]; split <;> omega]
  have HN := Lib.hid (show n ≤ 64 by omega)
  clear hm h0
  go_enter Tryd.func11, Tryd.ntmps11
  go_wp2_with fail
  go_ret
  exact ⟨_, .slice none 0 0, rfl, ⟨heap_alloc_new w _, ts_nil 0 _, by simp [Value.ownBlock], by simp, HN.out⟩, below_alloc (Below.refl _ w) _, Nat.le_refl _, rfl⟩

/-- Where a timer of that number stands, or -1. -/
def AtN (ts : List Tm) (num : Int) (r : Int) : Prop := (r = -1 ∧ ∀ a ∈ ts, (a.num : Int) ≠ num) ∨ ∃ (j : Nat) (a : Tm), r = (j : Int) ∧ ts[j]? = some a ∧ (a.num : Int) = num
theorem rat_any (h : RWh w x pool ts v) (num : Int) :
    Calls Tryd.prog 28 #[.pointer (some ⟨x, 0, none⟩), .int .i64 num] w fun e w' => ∃ r, e = .returned (.int .i64 r) ∧ AtN ts num r ∧ w' = w := by
  obtain ⟨a0, c0, ev⟩ := h.own.len
  obtain ⟨n, HN⟩ : ∃ n, Hid (n = ts.length) := ⟨_, Lib.hid rfl⟩
  have hn64 : n ≤ 64 := by rw [HN.out]; have := h.small; omega
  have hv := h.v_.1
  have HO := Lib.hid h.own
  rw [ev, ← HN.out] at hv
  rw [ev] at HO
  clear h ev
  go_enter Tryd.func28, Tryd.ntmps28
  go_wp2_with fail
  go_loopw [5] (fun u wr => ∃ j : Nat, j ≤ n ∧ u = .int .i64 (j : Int) ∧ Hid (wr = w) ∧ Hid (∀ i a, i < j → ts[i]? = some a → (a.num : Int) ≠ num)) (fun u _ => n - (intOf u).toNat)
  case atStart => exact ⟨0, by omega, rfl, Lib.hid rfl, Lib.hid (fun i a hi => by omega)⟩
  case round =>
    obtain ⟨j, hj, rfl, HW, HI⟩ := hrel
    have hvr : wr.cell? ⟨x, 1, none⟩ = some (.slice a0 n c0) := by rw [HW.out]; exact hv
    by_cases hlt : j < n
    · have hltz : (j : Int) < (n : Int) := by omega
      obtain ⟨a, ha⟩ : ∃ a, ts[j]? = some a := ⟨_, List.getElem?_eq_getElem (by rw [← HN.out]; exact hlt)⟩
      obtain ⟨g, cap, e1, _, hc, _⟩ := HO.out.at_ j a ha
      simp only [Value.slice.injEq] at e1
      obtain ⟨rfl, _, _⟩ := e1
      have hcr : wr.cell? ⟨g, j * 3, none⟩ = some (.int .i64 (a.num : Int)) := by rw [HW.out]; exact hc
      obtain ⟨k, HK⟩ : ∃ k : Int, Hid (k = (a.num : Int)) := ⟨_, Lib.hid rfl⟩
      rw [← HK.out] at hcr
      have HA := Lib.hid ha
      clear hc ha
      by_cases hk : k = num
      · have q0 : (k == num) = true := by simp [hk]
        have HKN := Lib.hid hk
        clear hk
        go_wp2_with fail
        go_ret
        exact ⟨_, rfl, .inr ⟨j, a, rfl, HA.out, by rw [← HK.out]; exact HKN.out⟩, HW.out⟩
      · have q0 : (k == num) = false := by simp [hk]
        have HKN := Lib.hid hk
        clear hk
        go_wp2_with fail
        go_roundw
        case rel => exact ⟨j + 1, by omega, by go_num, HW, Lib.hid (fun i c hi hc => by
          by_cases e : i = j
          · subst e; rw [HA.out] at hc; injection hc with hc; rw [← hc, ← HK.out]; exact HKN.out
          · exact HI.out i c (by omega) hc)⟩
        case measure => simp [intOf]; omega
    · obtain rfl : j = n := by omega
      go_wp2_with fail
      go_ret
      refine ⟨_, rfl, .inl ⟨rfl, fun a ha => ?_⟩, HW.out⟩
      obtain ⟨i, hi, e⟩ := List.mem_iff_getElem.1 ha
      exact HI.out i a (by rw [HN.out]; exact hi) (by rw [List.getElem?_eq_getElem hi, e])
end Go.Proofs.YtaonnkocopngaaaDoor
