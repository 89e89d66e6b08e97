/-
  The document's times and Check, by contract.
-/
import Derived.Test.YtkagkfgnnhdofaaDoorCfCheck
namespace Go.Proofs.YtkagkfgnnhdofaaDoor
open Go.RowKit

/-- Ten times in a row. -/
abbrev ta (T : Nat → Int) : Array Value := #[.int .i64 (T 0), .int .i64 (T 1), .int .i64 (T 2), .int .i64 (T 3), .int .i64 (T 4), .int .i64 (T 5), .int .i64 (T 6), .int .i64 (T 7), .int .i64 (T 8), .int .i64 (T 9)]
theorem ta_at (T : Nat → Int) (i : Nat) (h : i < 10) : (ta T)[i]? = some (.int .i64 (T i)) := by
  match i, h with
  | 0, _ => rfl
  | 1, _ => rfl
  | 2, _ => rfl
  | 3, _ => rfl
  | 4, _ => rfl
  | 5, _ => rfl
  | 6, _ => rfl
  | 7, _ => rfl
  | 8, _ => rfl
  | 9, _ => rfl
  | n + 10, h => omega
set_option maxHeartbeats 2000000 in
theorem rtimes_any (T : Nat → Int) (w : World) : Calls Tryd.prog 36 #[.agg (ta T)] w fun e w' => e = .returned (.agg (ta T)) ∧ Below w.heap.size w w' := by
  go_enter Tryd.func36, Tryd.ntmps36
  go_wp2_with fail
  refine bodyPost_ret (v := .agg (ta T)) ?_ rfl ⟨rfl, ?_⟩
  · rw [results_cell1 rfl]
    go_simp
  · exact below_alloc (below_alloc (Below.refl _ w) _) _

set_option maxHeartbeats 4000000 in
set_option maxRecDepth 10000 in
theorem rcheck_any (v : Value) (T : Nat → Int) (ls : List Ln) (code : Int) (hcode : code = if OkC T ls then 0 else 6) (w : World) (hv : Els RLn 5 w v ls) (hl : ls.length ≤ 1000) :
    Calls Tryd.prog 29 #[.agg (cfc v T)] w fun e w' => e = .returned (.int .i64 code) ∧ Below w.heap.size w w' := by
  have HCODE := Lib.hid hcode
  have HV := Lib.hid hv
  obtain ⟨av, cv, ev⟩ := hv.len
  obtain ⟨n, hn⟩ : ∃ n, n = ls.length := ⟨_, rfl⟩
  have HN := Lib.hid hn
  have hn1 : n ≤ 1000 := by omega
  rw [← hn] at ev
  subst ev
  clear hcode hv hn hl
  have HB := Lib.hid (below_alloc (Below.refl _ w) (.cells (cfc (.slice av n cv) T) 39))
  have HX := Lib.hid (blk_new w (cfc (.slice av n cv) T) 39)
  have HT := Lib.hid (rtimes_any T)
  unfold cfc at HB HX ⊢
  unfold ta at HT
  go_enter Tryd.func29, Tryd.ntmps29
  go_wp2_with fail
  (with_reducible refine (HT.out _).mono ?_)
  rintro e w1 ⟨rfl, hb⟩
  have HB1 := Lib.hid (below_call HB.out hb)
  have HX1 := Lib.hid (HX.out.below hb)
  have HQ := Lib.hid (below_alloc (Below.refl _ w1) (.cells (ta T) 70))
  have HA := Lib.hid (blk_new w1 (ta T) 70)
  have HB2 := Lib.hid (below_call HB1.out HQ.out)
  have HX2 := Lib.hid (HX1.out.below HQ.out)
  clear hb HB HX HB1 HX1 HQ HT
  go_wp2_with fail
  go_loopw [4] (fun i wr => ∃ j : Nat, j ≤ 10 ∧ i = .int .i64 (j : Int) ∧ Hid (∀ m, m < j → OkT (T m)) ∧ Hid (Below w.heap.size w wr) ∧ Hid (Blk wr w.heap.size (cfc (.slice av n cv) T) 39) ∧ Hid (Blk wr w1.heap.size (ta T) 70)) (fun i _ => 10 - (intOf i).toNat)
  case atStart => exact ⟨0, by omega, rfl, Lib.hid (fun m hm => by omega), HB2, HX2, HA⟩
  case round =>
    obtain ⟨j, hj, rfl, HS, HBr, HXr, HAr⟩ := hrel
    clear HB2 HX2 HA
    by_cases hlt : j < 10
    · obtain ⟨s, hs⟩ : ∃ s, s = T j := ⟨_, rfl⟩
      have hcell := HAr.out.cell j (ta_at T j hlt)
      rw [← hs] at hcell
      have HSJ := Lib.hid hs
      clear hs
      by_cases h1 : s < 1
      · have q1 : decide (s < 1) = true := decide_eq_true h1
        have HK := Lib.hid h1
        clear h1
        go_wp2_with fail
        go_ret
        refine ⟨?_, HBr.out⟩
        rw [HCODE.out, okC_not_t hlt (by have := HK.out; rw [← HSJ.out]; omega)]
        rfl
      · have q1 : decide (s < 1) = false := decide_eq_false h1
        by_cases h2 : 6000 < s
        · have q2 : decide (6000 < s) = true := decide_eq_true h2
          have HK := Lib.hid h2
          clear h1 h2
          go_wp2_with fail
          go_ret
          refine ⟨?_, HBr.out⟩
          rw [HCODE.out, okC_not_t hlt (by have := HK.out; rw [← HSJ.out]; omega)]
          rfl
        · have q2 : decide (6000 < s) = false := decide_eq_false h2
          have HK := Lib.hid (show OkT s by omega)
          clear h1 h2
          go_wp2_with fail
          go_roundw
          case rel =>
            refine ⟨j + 1, by omega, by go_num, Lib.hid (fun m hm => ?_), HBr, HXr, HAr⟩
            by_cases hmj : m < j
            · exact HS.out m hmj
            · obtain rfl : m = j := by omega
              rw [← HSJ.out]; exact HK.out
          case measure => simp [intOf]; omega
    · have HJ := Lib.hid (show j = 10 by omega)
      go_wp2_with fail
      go_loopw [5] (fun i wr => ∃ j : Nat, j ≤ n ∧ i = .int .i64 (j : Int) ∧ Hid (∀ m l, m < j → ls[m]? = some l → OkL l) ∧ Hid (Below w.heap.size w wr) ∧ Hid (Blk wr w.heap.size (cfc (.slice av n cv) T) 39)) (fun i _ => n - (intOf i).toNat)
      case atStart => exact ⟨0, by omega, rfl, Lib.hid (fun m l hm => by omega), HBr, HXr⟩
      case round =>
        obtain ⟨i, hi, rfl, HSL, HBs, HXs⟩ := hrel
        have hc0 := HXs.out.cell 0 (u := .slice av n cv) rfl
        by_cases hlti : i < n
        · obtain ⟨l, hl⟩ : ∃ l, ls[i]? = some l := ⟨_, List.getElem?_eq_getElem (by rw [← HN.out]; exact hlti)⟩
          have HL := Lib.hid hl
          obtain ⟨g, o, ea, hr⟩ := HV.out.at_ hl
          obtain ⟨e0, e1, e2, e3, e4⟩ := hr.below HBs.out
          subst ea
          clear hl hr
          have hltI : (i : Int) < (n : Int) := by omega
          obtain ⟨lk, lg, la, lb, lc⟩ := l
          dsimp only at e0 e1 e2 e3 e4
          have HB3 := Lib.hid (below_alloc HBs.out (.cells #[.int .i64 lk, .int .i64 lg, .int .i64 la, .int .i64 lb, .int .i64 lc] 34))
          have HX3 := Lib.hid (HXs.out.below (below_alloc (Below.refl _ wr) (.cells #[.int .i64 lk, .int .i64 lg, .int .i64 la, .int .i64 lb, .int .i64 lc] 34)))
          have HL3 := Lib.hid (blk_new wr #[.int .i64 lk, .int .i64 lg, .int .i64 la, .int .i64 lb, .int .i64 lc] 34)
          have bad : ∀ w', Hid (¬ OkL ⟨lk, lg, la, lb, lc⟩) → Below w.heap.size w w' → (Ending.returned (.int .i64 6) = Ending.returned (.int .i64 code) ∧ Below w.heap.size w w') := by
            intro w' h hb
            exact ⟨by rw [HCODE.out, okC_not_l HL.out h.out], hb⟩
          have BAD := Lib.hid bad
          clear bad HBs HXs
          by_cases h1 : lg < 1
          · have q1 : decide (lg < 1) = true := decide_eq_true h1
            have HK := Lib.hid (show ¬ OkL ⟨lk, lg, la, lb, lc⟩ from fun h => by have := h.1; dsimp only at this; omega)
            clear h1
            go_wp2_with fail
            go_ret
            exact BAD.out _ HK HB3.out
          · have q1 : decide (lg < 1) = false := decide_eq_false h1
            by_cases h2 : lk ≤ lg
            · have q2 : decide (lk ≤ lg) = true := decide_eq_true h2
              have HK := Lib.hid (show ¬ OkL ⟨lk, lg, la, lb, lc⟩ from fun h => by have := h.2.1; dsimp only at this; omega)
              clear h1 h2
              go_wp2_with fail
              go_ret
              exact BAD.out _ HK HB3.out
            · have q2 : decide (lk ≤ lg) = false := decide_eq_false h2
              by_cases h3 : 1000000 < lk
              · have q3 : decide (1000000 < lk) = true := decide_eq_true h3
                have HK := Lib.hid (show ¬ OkL ⟨lk, lg, la, lb, lc⟩ from fun h => by have := h.2.2.1; dsimp only at this; omega)
                clear h1 h2 h3
                go_wp2_with fail
                go_ret
                exact BAD.out _ HK HB3.out
              · have q3 : decide (1000000 < lk) = false := decide_eq_false h3
                have HHD := Lib.hid (show 1 ≤ lg ∧ lg < lk ∧ lk ≤ 1000000 by omega)
                clear h1 h2 h3
                obtain ⟨wo, hwo⟩ : ∃ wo : World, wo = wr := ⟨_, rfl⟩
                subst hwo
                go_wp2_with fail
                go_loopw [7] (fun i wr => ∃ k : Nat, k ≤ 3 ∧ i = .int .i64 (k : Int) ∧ Hid (∀ m, m < k → 1 ≤ spd ⟨lk, lg, la, lb, lc⟩ m ∧ spd ⟨lk, lg, la, lb, lc⟩ m ≤ 5000) ∧ Hid (Below w.heap.size w wr) ∧ Hid (Blk wr w.heap.size (cfc (.slice (some ⟨g, o, none⟩) n cv) T) 39) ∧
                  Hid (Blk wr wo.heap.size #[.int .i64 lk, .int .i64 lg, .int .i64 la, .int .i64 lb, .int .i64 lc] 34)) (fun i _ => 3 - (intOf i).toNat)
                case atStart => exact ⟨0, by omega, rfl, Lib.hid (fun m hm => by omega), HB3, HX3, HL3⟩
                case round =>
                  obtain ⟨k, hk, rfl, HSK, HBt, HXt, HLt⟩ := hrel
                  clear HB3 HX3 HL3
                  by_cases hlt3 : k < 3
                  · obtain ⟨s, hs⟩ : ∃ s, s = spd ⟨lk, lg, la, lb, lc⟩ k := ⟨_, rfl⟩
                    have hcell := HLt.out.cell (2 + k) (spd_at ⟨lk, lg, la, lb, lc⟩ k hlt3)
                    rw [← hs] at hcell
                    have HSP := Lib.hid hs
                    clear hs
                    by_cases h1 : s < 1
                    · have q1 : decide (s < 1) = true := decide_eq_true h1
                      have HK := Lib.hid (show ¬ OkL ⟨lk, lg, la, lb, lc⟩ from fun h => by have := ((okL_iff _).1 h).2 k hlt3; rw [← HSP.out] at this; omega)
                      clear h1
                      go_wp2_with fail
                      go_ret
                      exact BAD.out _ HK HBt.out
                    · have q1 : decide (s < 1) = false := decide_eq_false h1
                      by_cases h2 : 5000 < s
                      · have q2 : decide (5000 < s) = true := decide_eq_true h2
                        have HK := Lib.hid (show ¬ OkL ⟨lk, lg, la, lb, lc⟩ from fun h => by have := ((okL_iff _).1 h).2 k hlt3; rw [← HSP.out] at this; omega)
                        clear h1 h2
                        go_wp2_with fail
                        go_ret
                        exact BAD.out _ HK HBt.out
                      · have q2 : decide (5000 < s) = false := decide_eq_false h2
                        have HK := Lib.hid (show 1 ≤ s ∧ s ≤ 5000 by omega)
                        clear h1 h2
                        go_wp2_with fail
                        go_roundw
                        case rel =>
                          refine ⟨k + 1, by omega, by go_num, Lib.hid (fun m hm => ?_), HBt, HXt, HLt⟩
                          by_cases hmj : m < k
                          · exact HSK.out m hmj
                          · obtain rfl : m = k := by omega
                            rw [← HSP.out]; exact HK.out
                        case measure => simp [intOf]; omega
                  · have HK3 := Lib.hid (show k = 3 by omega)
                    go_wp2_with fail
                    go_roundw
                    case rel =>
                      refine ⟨i + 1, by omega, by go_num, Lib.hid (fun m l' hm hl' => ?_), HBt, HXt⟩
                      by_cases hmj : m < i
                      · exact HSL.out m l' hmj hl'
                      · obtain rfl : m = i := by omega
                        rw [HL.out] at hl'
                        cases hl'
                        refine (okL_iff _).2 ⟨HHD.out, ?_⟩
                        rw [← HK3.out]
                        exact HSK.out
                    case measure => simp [intOf]; omega
        · have HIN := Lib.hid (show i = n by omega)
          have hltI : ¬ (i : Int) < (n : Int) := by omega
          by_cases h1 : (n : Int) < 1
          · have q1 : decide ((n : Int) < 1) = true := decide_eq_true h1
            have HK := Lib.hid (show ¬ OkN ls.length by rw [← HN.out]; omega)
            clear h1
            go_wp2_with fail
            go_ret
            refine ⟨?_, HBs.out⟩
            rw [HCODE.out, okC_not_n HK.out]
            rfl
          · have q1 : decide ((n : Int) < 1) = false := decide_eq_false h1
            by_cases h2 : (8 : Int) < (n : Int)
            · have q2 : decide ((8 : Int) < (n : Int)) = true := decide_eq_true h2
              have HK := Lib.hid (show ¬ OkN ls.length by rw [← HN.out]; omega)
              clear h1 h2
              go_wp2_with fail
              go_ret
              refine ⟨?_, HBs.out⟩
              rw [HCODE.out, okC_not_n HK.out]
              rfl
            · have q2 : decide ((8 : Int) < (n : Int)) = false := decide_eq_false h2
              have HK := Lib.hid (show OkN ls.length by rw [← HN.out]; omega)
              clear h1 h2
              go_wp2_with fail
              go_ret
              refine ⟨?_, HBs.out⟩
              rw [HCODE.out, okC_yes HK.out (fun m hm => HS.out m (by have := HJ.out; omega)) (by rw [← HN.out, ← HIN.out]; exact HSL.out)]
              rfl
end Go.Proofs.YtkagkfgnnhdofaaDoor
