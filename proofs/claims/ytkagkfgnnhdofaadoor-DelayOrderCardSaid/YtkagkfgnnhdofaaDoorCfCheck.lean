/-
  config's Check by contract.
-/
import Derived.Test.YtkagkfgnnhdofaaDoorCfA
import Derived.Test.YtkagkfgnnhdofaaDoorElg
namespace Go.Proofs.YtkagkfgnnhdofaaDoor
open Go.RowKit

theorem okC_not_n {T : Nat → Int} {ls : List Ln} (h : ¬ OkN ls.length) : (if OkC T ls then (0 : Int) else 6) = 6 := if_neg (fun k => h k.1)
theorem okC_not_t {T : Nat → Int} {ls : List Ln} {j : Nat} (hj : j < 10) (h : ¬ OkT (T j)) : (if OkC T ls then (0 : Int) else 6) = 6 := if_neg (fun k => h (k.2.1 j hj))
theorem okC_not_l {T : Nat → Int} {ls : List Ln} {j : Nat} {l : Ln} (hj : ls[j]? = some l) (h : ¬ OkL l) : (if OkC T ls then (0 : Int) else 6) = 6 := if_neg (fun k => h (k.2.2 l (List.mem_of_getElem? hj)))
theorem okC_yes {T : Nat → Int} {ls : List Ln} (h1 : OkN ls.length) (h2 : ∀ m, m < 10 → OkT (T m)) (h3 : ∀ m l, m < ls.length → ls[m]? = some l → OkL l) : (if OkC T ls then (0 : Int) else 6) = 0 := by
  rw [if_pos]
  refine ⟨h1, h2, fun l hl => ?_⟩
  obtain ⟨m, hm⟩ := List.getElem?_of_mem hl
  exact h3 m l (List.getElem?_eq_some_iff.1 hm).1 hm

set_option maxHeartbeats 2000000 in
theorem check_any (v : Value) (T : Nat → Int) (ls : List Ln) (code : Int) (hcode : code = if OkC T ls then 0 else 6) (w : World) (hv : Els RLn 5 w v ls) :
    Calls Tryd.prog 27 #[.agg (cfc v T)] w fun e w' => ∃ r, e = .returned r ∧ ErrV w' r code ∧ Below w.heap.size w w' := by
  have HCODE := Lib.hid hcode
  have HV := Lib.hid hv
  obtain ⟨av, cv, ev⟩ := hv.len
  obtain ⟨n, hn⟩ : ∃ n, n = ls.length := ⟨_, rfl⟩
  have HN := Lib.hid hn
  rw [← hn] at ev
  subst ev
  clear hcode hv hn
  have HB := Lib.hid (below_alloc (Below.refl _ w) (.cells (cfc (.slice av n cv) T) 39))
  have HX := Lib.hid (blk_new w (cfc (.slice av n cv) T) 39)
  unfold cfc at HB HX ⊢
  go_enter Tryd.func27, Tryd.ntmps27
  by_cases hok : ¬ (1 ≤ (n : Int) ∧ (n : Int) ≤ 8)
  · have HK := Lib.hid hok
    clear hok
    go_wp2_with fail
    (with_reducible refine (within_any (n : Int) 8 false (by have := HK.out; simp; omega) _).mono ?_)
    rintro e w1 ⟨rfl, rfl⟩
    go_wp2_with fail
    (with_reducible refine (new_form 6 (by decide) _ _).mono ?_)
    rintro e w1 ⟨x, hx, rfl, hc, hb⟩
    have HX1 := Lib.hid hc
    have HB1 := Lib.hid (below_call HB.out hb)
    clear hx hc hb
    go_wp2_with fail
    go_ret
    refine ⟨_, rfl, ?_, HB1.out⟩
    rw [HCODE.out, okC_not_n (by rw [← HN.out]; have := HK.out; omega)]
    exact .inr ⟨x, by decide, rfl, HX1.out⟩
  have HK := Lib.hid (Decidable.not_not.1 hok)
  clear hok
  go_wp2_with fail
  (with_reducible refine (within_any (n : Int) 8 true (by have := HK.out; simp; omega) _).mono ?_)
  rintro e w1 ⟨rfl, rfl⟩
  go_wp2_with fail
  (with_reducible refine (times_any _ _).mono ?_)
  rintro e w1 ⟨rfl, hb⟩
  have HB1 := Lib.hid (below_call HB.out hb)
  have HX1 := Lib.hid (HX.out.below hb)
  clear hb HB HX
  go_wp2_with fail
  go_loopw [16] (fun i wr => ∃ j : Nat, j ≤ 10 ∧ i = .int .i64 (j : Int) ∧ Hid (∀ m, m < j → OkT (T m)) ∧ wr = w1) (fun i _ => 10 - (intOf i).toNat)
  case atStart => exact ⟨0, by omega, rfl, Lib.hid (fun m hm => by omega), rfl⟩
  case round =>
    obtain ⟨j, hj, rfl, HS, rfl⟩ := hrel
    by_cases hlt : j < 10
    · have hix := ptrs_index w.heap.size j hlt
      obtain ⟨s, hs⟩ : ∃ s, s = T j := ⟨_, rfl⟩
      have hcell := HX1.out.cell (j + 1) (cfc_at (.slice av n cv) T j hlt)
      rw [← hs] at hcell
      have HSJ := Lib.hid hs
      clear hs
      by_cases hok : OkT s
      · have HKT := Lib.hid hok
        clear hok
        go_wp2_with fail
        (with_reducible refine (within_any s 6000 true (by have := HKT.out; simp; omega) _).mono ?_)
        rintro e w1 ⟨rfl, rfl⟩
        go_wp2_with fail
        go_roundw
        case rel =>
          refine ⟨j + 1, by omega, by go_num, Lib.hid (fun m hm => ?_), trivial⟩
          by_cases hmj : m < j
          · exact HS.out m hmj
          · obtain rfl : m = j := by omega
            rw [← HSJ.out]; exact HKT.out
        case measure => simp [intOf]; omega
      · have HKT := Lib.hid hok
        clear hok
        go_wp2_with fail
        (with_reducible refine (within_any s 6000 false (by have := HKT.out; simp; omega) _).mono ?_)
        rintro e w1 ⟨rfl, rfl⟩
        go_wp2_with fail
        (with_reducible refine (new_form 6 (by decide) _ _).mono ?_)
        rintro e w1 ⟨x, hx, rfl, hc, hb⟩
        have HX2 := Lib.hid hc
        have HB2 := Lib.hid (below_call HB1.out hb)
        clear hx hc hb hcell hix
        go_wp2_with fail
        go_ret
        refine ⟨_, rfl, ?_, HB2.out⟩
        rw [HCODE.out, okC_not_t hlt (by rw [← HSJ.out]; exact HKT.out)]
        exact .inr ⟨x, by decide, rfl, HX2.out⟩
    · have HJ := Lib.hid (show j = 10 by omega)
      have hcell := HX1.out.cell 0 rfl
      have hn8 : n ≤ 8 := by have := HK.out; omega
      go_wp2_with fail
      clear hcell
      go_loopw [29] (fun i wr => ∃ j : Nat, j ≤ n ∧ i = .int .i64 (j : Int) ∧ Hid (∀ m l, m < j → ls[m]? = some l → OkL l) ∧ Hid (Below w.heap.size w wr)) (fun i _ => n - (intOf i).toNat)
      case atStart => exact ⟨0, by omega, rfl, Lib.hid (fun m l hm => by omega), HB1⟩
      case round =>
        obtain ⟨i, hi, rfl, HSL, HBr⟩ := hrel
        clear HB1
        by_cases hlt : i < n
        · obtain ⟨l, hl⟩ : ∃ l, ls[i]? = some l := ⟨_, List.getElem?_eq_getElem (by rw [← HN.out]; exact hlt)⟩
          have HL := Lib.hid hl
          obtain ⟨g, o, ea, hr⟩ := HV.out.at_ hl
          obtain ⟨e0, e1, e2, e3, e4⟩ := hr.below HBr.out
          subst ea
          clear hl hr
          have HB2 := Lib.hid (below_alloc HBr.out (.cells #[.int .i64 l.k, .int .i64 l.g, .int .i64 l.a, .int .i64 l.b, .int .i64 l.c] 34))
          by_cases hok : OkL l
          · have HCL := Lib.hid (checkLine_any l)
            have HOKL := Lib.hid hok
            rw [if_pos hok] at HCL
            clear hok
            obtain ⟨lk, lg, la, lb, lc⟩ := l
            dsimp only at e0 e1 e2 e3 e4 HCL HB2
            go_wp2_with fail
            (with_reducible refine (HCL.out _).mono ?_)
            rintro e w2 ⟨r, rfl, he, hb⟩
            obtain rfl := he.nil
            have HB3 := Lib.hid (below_call HB2.out hb)
            clear he hb HB2 HBr e0 e1 e2 e3 e4 HCL
            go_wp2_with fail
            go_roundw
            case rel =>
              refine ⟨i + 1, by omega, by go_num, Lib.hid (fun m l' hm hl' => ?_), HB3⟩
              by_cases hmj : m < i
              · exact HSL.out m l' hmj hl'
              · obtain rfl : m = i := by omega
                rw [HL.out] at hl'
                cases hl'
                exact HOKL.out
            case measure => simp [intOf]; omega
          · have HCL := Lib.hid (checkLine_any l)
            have HOKL := Lib.hid hok
            rw [if_neg hok] at HCL
            clear hok
            obtain ⟨lk, lg, la, lb, lc⟩ := l
            dsimp only at e0 e1 e2 e3 e4 HCL HB2
            go_wp2_with fail
            (with_reducible refine (HCL.out _).mono ?_)
            rintro e w2 ⟨r, rfl, he, hb⟩
            obtain ⟨x, rfl, hx⟩ := he.not (by decide)
            have HB3 := Lib.hid (below_call HB2.out hb)
            have HX3 := Lib.hid hx
            clear he hb hx HB2 HBr e0 e1 e2 e3 e4 HCL
            go_wp2_with fail
            go_ret
            refine ⟨_, rfl, ?_, HB3.out⟩
            rw [HCODE.out, okC_not_l HL.out HOKL.out]
            exact .inr ⟨x, by decide, rfl, HX3.out⟩
        · obtain rfl : i = n := by omega
          go_wp2_with fail
          go_ret
          refine ⟨_, rfl, ?_, HBr.out⟩
          rw [HCODE.out, okC_yes (by rw [← HN.out]; have := HK.out; omega) (fun m hm => HS.out m (by have := HJ.out; omega)) (by rw [← HN.out]; exact HSL.out)]
          exact .inl ⟨rfl, rfl⟩
end Go.Proofs.YtkagkfgnnhdofaaDoor
