/-
  The document's Same, by contract.
-/
import Derived.Test.YthjpacdhaeoecaaDoorCfA
import Derived.Test.YthjpacdhaeoecaaDoorEls
import Derived.ChangeKeysEq
import Derived.Laws.StructEq
namespace Go.Proofs.YthjpacdhaeoecaaDoor
open Go.RowKit

theorem plainInt : Tryd.prog.plainKey 3 = true := by kernel_rfl
theorem eqF_int {d : Nat} {xs ys : Array Value} {f : Field} {fs : List Field} {a b : Int} (hn : f.name ≠ "_") (ht : f.type = 3) (ha : xs[f.offset]? = some (.int .i64 a)) (hb : ys[f.offset]? = some (.int .i64 b)) (w : World) :
    (Op.eqFields (d + 1) xs ys (f :: fs)).run Tryd.prog w = if a = b then (Op.eqFields (d + 1) xs ys fs).run Tryd.prog w else .ok false w := by
  have e1 := run_part_plain w plainInt ha
  have e2 := run_part_plain w plainInt hb
  rw [Op.eqFields, if_pos hn, ht]
  simp only [Sem.run_bind, e1, e2, Result.andThen_ok, run_equalIn_int w d 3 .i64 .i64 a b Tryd.underlying3]
  by_cases h : a = b
  · rw [if_pos h, beq_iff_eq.2 h]
    simp
  · rw [if_neg h, beq_eq_false_iff_ne.2 h]
    simp
theorem eqI_int {d : Nat} {xs ys : Array Value} {i : Nat} {is : List Nat} {a b : Int} (ha : xs[i]? = some (.int .i64 a)) (hb : ys[i]? = some (.int .i64 b)) (w : World) :
    (Op.eqItems (d + 1) 3 1 xs ys (i :: is)).run Tryd.prog w = if a = b then (Op.eqItems (d + 1) 3 1 xs ys is).run Tryd.prog w else .ok false w := by
  have e1 := run_part_plain w plainInt ha
  have e2 := run_part_plain w plainInt hb
  rw [Op.eqItems, Nat.mul_one]
  simp only [Sem.run_bind, e1, e2, Result.andThen_ok, run_equalIn_int w d 3 .i64 .i64 a b Tryd.underlying3]
  by_cases h : a = b
  · rw [if_pos h, beq_iff_eq.2 h]
    simp
  · rw [if_neg h, beq_eq_false_iff_ne.2 h]
    simp
def sameT (T T' : Nat → Int) : Prop := T 0 = T' 0 ∧ T 1 = T' 1 ∧ T 2 = T' 2 ∧ T 3 = T' 3 ∧ T 4 = T' 4 ∧ T 5 = T' 5 ∧ T 6 = T' 6 ∧ T 7 = T' 7 ∧ T 8 = T' 8 ∧ T 9 = T' 9
instance (T T' : Nat → Int) : Decidable (sameT T T') := inferInstanceAs (Decidable (_ ∧ _))
theorem sameT_iff (T T' : Nat → Int) : sameT T T' ↔ ∀ i, i < 10 → T i = T' i := by
  constructor
  · rintro ⟨h0, h1, h2, h3, h4, h5, h6, h7, h8, h9⟩ i hi
    match i, hi with
    | 0, _ => exact h0
    | 1, _ => exact h1
    | 2, _ => exact h2
    | 3, _ => exact h3
    | 4, _ => exact h4
    | 5, _ => exact h5
    | 6, _ => exact h6
    | 7, _ => exact h7
    | 8, _ => exact h8
    | 9, _ => exact h9
    | n + 10, h => omega
  · intro h
    exact ⟨h 0 (by omega), h 1 (by omega), h 2 (by omega), h 3 (by omega), h 4 (by omega), h 5 (by omega), h 6 (by omega), h 7 (by omega), h 8 (by omega), h 9 (by omega)⟩
abbrev tz (T : Nat → Int) : Array Value := #[.int .i64 (T 0), .int .i64 (T 1), .int .i64 (T 2), .int .i64 (T 3), .int .i64 (T 4), .int .i64 (T 5), .int .i64 (T 6), .int .i64 (T 7), .int .i64 (T 8), .int .i64 (T 9)]
theorem nohold24 : Tryd.prog.stoodInHeld 24 = false := by kernel_rfl
theorem nohold48 : Tryd.prog.stoodInHeld 48 = false := by kernel_rfl
set_option maxRecDepth 10000 in
theorem eq_ts (d : Nat) (T T' : Nat → Int) (w : World) : (Op.equalIn (d + 2) 24 (.agg (tz T)) (.agg (tz T'))).run Tryd.prog w = .ok (decide (sameT T T')) w := by
  have hf : Tryd.prog.underlying 24 = some (.struct (Tryd.prog.fieldsOf 24)) := by unfold Program.fieldsOf; rw [Tryd.underlying24]
  rw [run_equalIn_agg w (d + 1) 24 _ _ hf nohold24]
  unfold Program.fieldsOf
  rw [Tryd.underlying24]
  dsimp only
  rw [eqF_int (by decide) rfl rfl rfl, eqF_int (by decide) rfl rfl rfl, eqF_int (by decide) rfl rfl rfl, eqF_int (by decide) rfl rfl rfl, eqF_int (by decide) rfl rfl rfl, eqF_int (by decide) rfl rfl rfl, eqF_int (by decide) rfl rfl rfl, eqF_int (by decide) rfl rfl rfl, eqF_int (by decide) rfl rfl rfl, eqF_int (by decide) rfl rfl rfl]
  unfold Op.eqFields
  by_cases h0 : T 0 = T' 0
  · rw [if_pos h0]
    by_cases h1 : T 1 = T' 1
    · rw [if_pos h1]
      by_cases h2 : T 2 = T' 2
      · rw [if_pos h2]
        by_cases h3 : T 3 = T' 3
        · rw [if_pos h3]
          by_cases h4 : T 4 = T' 4
          · rw [if_pos h4]
            by_cases h5 : T 5 = T' 5
            · rw [if_pos h5]
              by_cases h6 : T 6 = T' 6
              · rw [if_pos h6]
                by_cases h7 : T 7 = T' 7
                · rw [if_pos h7]
                  by_cases h8 : T 8 = T' 8
                  · rw [if_pos h8]
                    by_cases h9 : T 9 = T' 9
                    · rw [if_pos h9, decide_eq_true ⟨h0, h1, h2, h3, h4, h5, h6, h7, h8, h9⟩]; rfl
                    · rw [if_neg h9, decide_eq_false (fun h => h9 h.2.2.2.2.2.2.2.2.2)]
                  · rw [if_neg h8, decide_eq_false (fun h => h8 h.2.2.2.2.2.2.2.2.1)]
                · rw [if_neg h7, decide_eq_false (fun h => h7 h.2.2.2.2.2.2.2.1)]
              · rw [if_neg h6, decide_eq_false (fun h => h6 h.2.2.2.2.2.2.1)]
            · rw [if_neg h5, decide_eq_false (fun h => h5 h.2.2.2.2.2.1)]
          · rw [if_neg h4, decide_eq_false (fun h => h4 h.2.2.2.2.1)]
        · rw [if_neg h3, decide_eq_false (fun h => h3 h.2.2.2.1)]
      · rw [if_neg h2, decide_eq_false (fun h => h2 h.2.2.1)]
    · rw [if_neg h1, decide_eq_false (fun h => h1 h.2.1)]
  · rw [if_neg h0, decide_eq_false (fun h => h0 h.1)]
theorem neq_ts (T T' : Nat → Int) (r : Bool) (hr : r = decide (¬ sameT T T')) (w : World) : (binOp .neq 24 (.agg (tz T)) (.agg (tz T'))).run Tryd.prog w = .ok (.bool r) w := by
  rw [run_neq_struct, eq_ts 9998, hr]
  simp [Result.andThen]
theorem infoInt : (Tryd.prog.info? 3).isSome = true := by kernel_rfl
theorem cellsInt1 : Tryd.prog.cellsOf 3 = 1 := by kernel_rfl
def sameL (l l' : Ln) : Prop := l.k = l'.k ∧ l.g = l'.g ∧ l.a = l'.a ∧ l.b = l'.b ∧ l.c = l'.c
instance (l l' : Ln) : Decidable (sameL l l') := inferInstanceAs (Decidable (_ ∧ _))
theorem sameL_iff (l l' : Ln) : sameL l l' ↔ l = l' := by
  obtain ⟨k, g, a, b, c⟩ := l
  obtain ⟨k', g', a', b', c'⟩ := l'
  simp [sameL]
theorem eq_arr3 (d : Nat) (a b c a' b' c' : Int) (w : World) : (Op.equalIn (d + 2) 46 (.agg #[.int .i64 a, .int .i64 b, .int .i64 c]) (.agg #[.int .i64 a', .int .i64 b', .int .i64 c'])).run Tryd.prog w = .ok (decide (a = a' ∧ b = b' ∧ c = c')) w := by
  obtain ⟨i, hi⟩ := Option.isSome_iff_exists.1 infoInt
  rw [run_equalIn_array w (d + 1) _ _ Tryd.underlying46 hi, cellsInt1, show List.range 3 = [0, 1, 2] from rfl, eqI_int rfl rfl, eqI_int rfl rfl, eqI_int rfl rfl]
  by_cases h0 : a = a'
  · rw [if_pos h0]
    by_cases h1 : b = b'
    · rw [if_pos h1]
      by_cases h2 : c = c'
      · rw [if_pos h2, decide_eq_true ⟨h0, h1, h2⟩]; rfl
      · rw [if_neg h2, decide_eq_false (fun h => h2 h.2.2)]
    · rw [if_neg h1, decide_eq_false (fun h => h1 h.2.1)]
  · rw [if_neg h0, decide_eq_false (fun h => h0 h.1)]
theorem part_arr3 (k g a b c : Int) (w : World) : (part 46 #[.int .i64 k, .int .i64 g, .int .i64 a, .int .i64 b, .int .i64 c] 2).run Tryd.prog w = .ok (.agg #[.int .i64 a, .int .i64 b, .int .i64 c]) w := by kernel_rfl
theorem eq_ln (d : Nat) (k g a b c k' g' a' b' c' : Int) (w : World) : (Op.equalIn (d + 3) 48 (.agg #[.int .i64 k, .int .i64 g, .int .i64 a, .int .i64 b, .int .i64 c]) (.agg #[.int .i64 k', .int .i64 g', .int .i64 a', .int .i64 b', .int .i64 c'])).run Tryd.prog w = .ok (decide (k = k' ∧ g = g' ∧ a = a' ∧ b = b' ∧ c = c')) w := by
  have hf : Tryd.prog.underlying 48 = some (.struct (Tryd.prog.fieldsOf 48)) := by unfold Program.fieldsOf; rw [Tryd.underlying48]
  rw [run_equalIn_agg w (d + 2) 48 _ _ hf nohold48]
  unfold Program.fieldsOf
  rw [Tryd.underlying48]
  dsimp only
  rw [eqF_int (by decide) rfl rfl rfl, eqF_int (by decide) rfl rfl rfl, Op.eqFields, if_pos (show "Speeds" ≠ "_" by decide)]
  simp only [Sem.run_bind, part_arr3, Result.andThen_ok, eq_arr3, Op.eqFields]
  by_cases h0 : k = k'
  · rw [if_pos h0]
    by_cases h1 : g = g'
    · rw [if_pos h1]
      by_cases h2 : a = a' ∧ b = b' ∧ c = c'
      · rw [decide_eq_true h2, decide_eq_true ⟨h0, h1, h2⟩]; rfl
      · rw [decide_eq_false h2, decide_eq_false (fun h => h2 h.2.2)]; rfl
    · rw [if_neg h1, decide_eq_false (fun h => h1 h.2.1)]
  · rw [if_neg h0, decide_eq_false (fun h => h0 h.1)]
theorem neq_ln (l l' : Ln) (r : Bool) (hr : r = decide (¬ sameL l l')) (w : World) : (binOp .neq 48 (.agg #[.int .i64 l.k, .int .i64 l.g, .int .i64 l.a, .int .i64 l.b, .int .i64 l.c]) (.agg #[.int .i64 l'.k, .int .i64 l'.g, .int .i64 l'.a, .int .i64 l'.b, .int .i64 l'.c])).run Tryd.prog w = .ok (.bool r) w := by
  rw [run_neq_struct, eq_ln 9997, hr]
  simp [Result.andThen, sameL]

set_option maxHeartbeats 2000000 in
theorem rsame_any (v v' : Value) (T T' : Nat → Int) (ls ls' : List Ln) (b : Bool) (hb : b = true ↔ (∀ i, i < 10 → T i = T' i) ∧ ls = ls') (w : World) (hv : Els RLn 5 w v ls) (hv' : Els RLn 5 w v' ls') (hl : ls.length ≤ 1000) :
    Calls Tryd.prog 17 #[.agg (cfc v T), .agg (cfc v' T')] w fun e w' => e = .returned (.bool b) ∧ Below w.heap.size w w' := by
  have HBB := Lib.hid hb
  have HV := Lib.hid hv
  have HV' := Lib.hid hv'
  obtain ⟨av, cv, ev⟩ := hv.len
  obtain ⟨av', cv', ev'⟩ := hv'.len
  obtain ⟨n, hn⟩ : ∃ n, n = ls.length := ⟨_, rfl⟩
  obtain ⟨n', hn'⟩ : ∃ n', n' = ls'.length := ⟨_, rfl⟩
  rw [← hn] at ev hl
  rw [← hn'] at ev'
  subst ev ev'
  have HN := Lib.hid hn
  have HN' := Lib.hid hn'
  clear hb hv hv' hn hn'
  have hB : Below w.heap.size w ((w.alloc (.cells (cfc (.slice av n cv) T) 26)).alloc (.cells (cfc (.slice av' n' cv') T') 26)) := below_alloc (below_alloc (Below.refl _ w) _) _
  have hX : Blk ((w.alloc (.cells (cfc (.slice av n cv) T) 26)).alloc (.cells (cfc (.slice av' n' cv') T') 26)) w.heap.size (cfc (.slice av n cv) T) 26 := (blk_new w _ _).below (below_alloc (Below.refl _ _) _)
  have hX' : Blk ((w.alloc (.cells (cfc (.slice av n cv) T) 26)).alloc (.cells (cfc (.slice av' n' cv') T') 26)) (w.heap.size + 1) (cfc (.slice av' n' cv') T') 26 := by
    have := blk_new (w.alloc (.cells (cfc (.slice av n cv) T) 26)) (cfc (.slice av' n' cv') T') 26
    rw [show (w.alloc (.cells (cfc (.slice av n cv) T) 26)).heap.size = w.heap.size + 1 by simp] at this
    exact this
  have HB := Lib.hid hB
  have HX := Lib.hid hX
  have HX' := Lib.hid hX'
  clear hB hX hX'
  have hT := neq_ts T T' (decide (¬ sameT T T')) rfl
  unfold cfc at *
  by_cases hTT : sameT T T'
  · have HTT := Lib.hid ((sameT_iff T T').1 hTT)
    rw [show decide (¬ sameT T T') = false by simp [hTT]] at hT
    clear hTT
    by_cases hnn : n = n'
    · subst hnn
      have q1 : ((n : Int) != (n : Int)) = false := by simp
      go_enter Tryd.func17, Tryd.ntmps17
      go_wp2_with fail
      go_loopw [5] (fun i wr => ∃ j : Nat, j ≤ n ∧ i = .int .i64 (j : Int) ∧ Hid (∀ m, m < j → ls[m]? = ls'[m]?) ∧ Hid (Below w.heap.size w wr) ∧ Hid (Blk wr w.heap.size (cfc (.slice av n cv) T) 26) ∧ Hid (Blk wr (w.heap.size + 1) (cfc (.slice av' n cv') T') 26)) (fun i _ => n - (intOf i).toNat)
      case atStart => exact ⟨0, by omega, rfl, Lib.hid (fun m hm => by omega), HB, HX, HX'⟩
      case round =>
        obtain ⟨j, hj, rfl, HS, HBr, HXr, HXr'⟩ := hrel
        clear HB HX HX'
        have hc0 := HXr.out.cell 0 (u := .slice av n cv) rfl
        have hd0 := HXr'.out.cell 0 (u := .slice av' n cv') rfl
        by_cases hlt : j < n
        · have hltI : (j : Int) < (n : Int) := by omega
          obtain ⟨l, hl0⟩ : ∃ l, ls[j]? = some l := ⟨_, List.getElem?_eq_getElem (by rw [← HN.out]; exact hlt)⟩
          obtain ⟨l', hl0'⟩ : ∃ l, ls'[j]? = some l := ⟨_, List.getElem?_eq_getElem (by rw [← HN'.out]; exact hlt)⟩
          obtain ⟨g, o, ea, hr⟩ := HV.out.at_ hl0
          obtain ⟨g', o', ea', hr'⟩ := HV'.out.at_ hl0'
          obtain ⟨e0, e1, e2, e3, e4⟩ := hr.below HBr.out
          obtain ⟨e0', e1', e2', e3', e4'⟩ := hr'.below HBr.out
          subst ea ea'
          have HL := Lib.hid hl0
          have HL' := Lib.hid hl0'
          have hN := neq_ln l l' (decide (¬ sameL l l')) rfl
          clear hl0 hl0' hr hr'
          by_cases hs : sameL l l'
          · have HSL := Lib.hid ((sameL_iff l l').1 hs)
            rw [show decide (¬ sameL l l') = false by simp [hs]] at hN
            clear hs
            obtain ⟨k, s, a, c, d⟩ := l
            obtain ⟨k', s', a', c', d'⟩ := l'
            dsimp only at e0 e1 e2 e3 e4 e0' e1' e2' e3' e4' hN
            go_wp2_with fail
            go_big_region
            go_wp2_with fail
            go_roundw
            case rel =>
              refine ⟨j + 1, by omega, by go_num, Lib.hid (fun m hm => ?_), Lib.hid (below_call HBr.out (bel_drew _)), Lib.hid (HXr.out.below (bel_drew _)), Lib.hid (HXr'.out.below (bel_drew _))⟩
              by_cases hmj : m < j
              · exact HS.out m hmj
              · obtain rfl : m = j := by omega
                rw [HL.out, HL'.out, HSL.out]
            case measure => simp [intOf]; omega
          · obtain rfl : b = false := by
              rw [← Bool.not_eq_true, HBB.out]
              rintro ⟨_, h⟩
              refine hs ((sameL_iff l l').2 ?_)
              have h1 := HL.out
              rw [h, HL'.out] at h1
              exact (Option.some.inj h1).symm
            rw [show decide (¬ sameL l l') = true by simp [hs]] at hN
            clear hs
            obtain ⟨k, s, a, c, d⟩ := l
            obtain ⟨k', s', a', c', d'⟩ := l'
            dsimp only at e0 e1 e2 e3 e4 e0' e1' e2' e3' e4' hN
            go_wp2_with fail
            go_big_region
            go_wp2_with fail
            go_ret
            exact ⟨rfl, below_call HBr.out (bel_drew _)⟩
        · obtain rfl : b = true := by
            rw [HBB.out]
            refine ⟨HTT.out, List.ext_getElem? fun i => ?_⟩
            by_cases hi : i < j
            · exact HS.out i hi
            · rw [List.getElem?_eq_none (by rw [← HN.out]; omega), List.getElem?_eq_none (by rw [← HN'.out]; omega)]
          obtain rfl : j = n := by omega
          go_wp2_with fail
          go_ret
          exact ⟨rfl, HBr.out⟩
    · obtain rfl : b = false := by
        rw [← Bool.not_eq_true, HBB.out]
        rintro ⟨_, h⟩
        exact hnn (by rw [HN.out, HN'.out, h])
      have q1 : ((n : Int) != (n' : Int)) = true := by simp; omega
      clear hnn
      go_enter Tryd.func17, Tryd.ntmps17
      go_wp2_with fail
      go_ret
      exact ⟨rfl, HB.out⟩
  · obtain rfl : b = false := by
      rw [← Bool.not_eq_true, HBB.out]
      rintro ⟨h, _⟩
      exact hTT ((sameT_iff T T').2 h)
    rw [show decide (¬ sameT T T') = true by simp [hTT]] at hT
    clear hTT
    go_enter Tryd.func17, Tryd.ntmps17
    go_wp2_with fail
    go_ret
    exact ⟨rfl, HB.out⟩
end Go.Proofs.YthjpacdhaeoecaaDoor
