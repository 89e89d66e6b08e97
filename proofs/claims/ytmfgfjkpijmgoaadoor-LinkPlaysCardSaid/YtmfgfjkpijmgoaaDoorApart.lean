/-
  The walk of crossbucklaw07.LinkApart: true, whatever it is given.
-/
import Derived.Test.YtmfgfjkpijmgoaaDoorSmall
import Derived.Test.YtmfgfjkpijmgoaaDoorTw
import Derived.Test.YtmfgfjkpijmgoaaDoorArgs
namespace Go.Proofs.YtmfgfjkpijmgoaaDoor
open Go.RowKit

/-- An act's cells, spelled as the walk reckons them. -/
theorem act_cells {w : World} {g o : Nat} {y : Ac} (h : RAct w g o y) : ∃ a c, w.cell? ⟨g, o, none⟩ = some (.bool y.tick) ∧ w.cell? ⟨g, o + 1, none⟩ = some (.int .i64 y.c) ∧ w.cell? ⟨g, o + 1 + 1, none⟩ = some (.int .i64 y.q) ∧ w.cell? ⟨g, o + 1 + 2, none⟩ = some (.slice a y.xs.length c) ∧ Byts w (.slice a y.xs.length c) y.xs := by
  obtain ⟨h0, h1, h2, a, c, h3, h4⟩ := h
  exact ⟨a, c, h0, h1, h2, h3, h4⟩
set_option maxHeartbeats 4000000 in
set_option maxRecDepth 10000 in
theorem apart_out (fresh ch : Int) (v : Value) (ls : List Ac) (w : World) (hv : Els RAct 4 w v ls) (hbad : 200 < ls.length) :
    Calls Tryd.prog 6 #[.int .i64 fresh, v, .int .i64 ch] w fun e w' => e = .returned (.bool true) ∧ Below w.heap.size w w' := by
  obtain ⟨F, hF⟩ := fresh_nat fresh
  have HF := Lib.hid hF
  obtain ⟨a0, c0, rfl⟩ := hv.len
  have q0 : decide ((200 : Int) < (ls.length : Int)) = true := by simp; omega
  clear hF hbad hv
  go_enter Tryd.func6, Tryd.ntmps6
  go_wp2_with fail
  (with_reducible refine (small_true w).mono ?_)
  rintro e w1 ⟨rfl, hb⟩
  have HB := Lib.hid hb
  clear hb
  go_wp2_with fail
  (with_reducible refine (ln_new fresh F HF.out HB.out).mono ?_)
  rintro e w2 ⟨b, rfl, hl⟩
  have HL := Lib.hid hl
  clear hl
  go_wp2_with fail
  (with_reducible refine (tw_new HL.out fresh HF.out).mono ?_)
  rintro e w3 ⟨b', rfl, ht⟩
  have HT := Lib.hid ht
  clear ht
  go_wp2_with fail
  go_ret
  exact ⟨rfl, HT.out.bel⟩
set_option maxHeartbeats 4000000 in
set_option maxRecDepth 10000 in
theorem apart_main (fresh ch : Int) (v : Value) (ls : List Ac) (w : World) (hv : Els RAct 4 w v ls) (hl : ls.length ≤ 200) :
    Calls Tryd.prog 6 #[.int .i64 fresh, v, .int .i64 ch] w fun e w' => e = .returned (.bool true) ∧ Below w.heap.size w w' := by
  obtain ⟨F, hF⟩ := fresh_nat fresh
  have HF := Lib.hid hF
  obtain ⟨L, HL0⟩ : ∃ L, Hid (L = ls.length) := ⟨_, Lib.hid rfl⟩
  obtain ⟨a0, c0, ev⟩ := hv.len
  rw [← HL0.out] at ev hl
  have HV := Lib.hid hv
  have q0 : decide ((200 : Int) < (L : Int)) = false := by simp; omega
  clear hF hv
  subst ev
  go_enter Tryd.func6, Tryd.ntmps6
  go_wp2_with fail
  (with_reducible refine (small_true w).mono ?_)
  rintro e w1 ⟨rfl, hb⟩
  have HB := Lib.hid hb
  clear hb
  go_wp2_with fail
  (with_reducible refine (ln_new fresh F HF.out HB.out).mono ?_)
  rintro e w2 ⟨b, rfl, hl2⟩
  have HL := Lib.hid hl2
  clear hl2
  go_wp2_with fail
  (with_reducible refine (tw_new HL.out fresh HF.out).mono ?_)
  rintro e w3 ⟨b', rfl, ht⟩
  have HT := Lib.hid ht
  clear ht HL HB
  go_wp2_with fail
  go_loopw [10] (fun u10 wr => ∃ (i : Nat) (f f' : Nat → Ch), i ≤ L ∧ u10 = .int .i64 (i : Int) ∧ Hid (Tw true true 55 55 w wr F b f b' f') ∧ Hid (peek f ch = peek f' ch)) (fun u10 _ => L - (intOf u10).toNat)
  case atStart => exact ⟨0, _, _, by omega, rfl, HT, Lib.hid rfl⟩
  case round =>
    obtain ⟨i, f, f', hi, rfl, HTr, HPr⟩ := hrel
    clear HT
    by_cases hlt : i < L
    · have hlz : (i : Int) < (L : Int) := by omega
      have hi0 : (0 : Int) ≤ (i : Int) := by omega
      obtain ⟨y, hy⟩ : ∃ y, ls[i]? = some y := ⟨_, List.getElem?_eq_getElem (by rw [← HL0.out]; exact hlt)⟩
      obtain ⟨g, o, ea, hr⟩ := HV.out.at_ hy
      subst ea
      have HR := Lib.hid hr
      obtain ⟨ya, yc, x0, x1, x2, x3, _⟩ := act_cells (hr.below HTr.out.bel)
      clear hy hr
      obtain ⟨tk, c, q, xs⟩ := y
      simp only at x0 x1 x2 x3
      by_cases hx : xs.length ≤ 100
      · have q3 : decide ((100 : Int) < (xs.length : Int)) = false := by simp; omega
        clear hx
        cases tk with
        | true =>
          go_wp2_with fail
          (with_reducible refine (tw_tick HTr.out).mono ?_)
          rintro e w4 ⟨rfl, ht, _⟩
          have HT4 := Lib.hid ht.swap
          clear ht HTr x0 x1 x2 x3
          go_wp2_with fail
          (with_reducible refine (tw_tick HT4.out).mono ?_)
          rintro e w5 ⟨rfl, ht, _⟩
          have HT5 := Lib.hid ht.swap
          clear ht HT4
          go_wp2_with fail
          go_roundw
          case rel => exact ⟨i + 1, _, _, by omega, by go_num, HT5, Lib.hid (by rw [peek_older, peek_older, HPr.out])⟩
          case measure => simp [intOf]; omega
        | false =>
          go_wp2_with fail
          (with_reducible refine (tw_take HTr.out c q _ xs (by
            obtain ⟨ya2, yc2, _, _, _, z3, z4⟩ := act_cells (HR.out.below HTr.out.bel)
            rw [x3] at z3
            cases z3
            exact z4)).mono ?_)
          rintro e w4 ⟨e4, rfl, he, ht, _⟩
          have HT4 := Lib.hid ht
          have HE4 := Lib.hid he
          clear ht he HTr x0 x1 x2 x3
          obtain ⟨ya4, yc4, x0, x1, x2, x3, hby⟩ := act_cells (HR.out.below HT4.out.bel)
          simp only at x0 x1 x2 x3 hby
          have HBY := Lib.hid hby
          clear hby
          by_cases hc : c = ch
          · have d0 : (c == ch) = true := by simpa using hc
            have HCC := Lib.hid hc
            clear hc
            go_wp2_with fail
            (with_reducible refine (tw_take HT4.out.swap c q _ xs HBY.out).mono ?_)
            rintro e w5 ⟨e5, rfl, he, ht, hk⟩
            have HT5 := Lib.hid ht.swap
            have HE5 := Lib.hid he
            have HE45 := Lib.hid (HT4.out.swap.err HE4.out hk)
            clear ht he hk HT4 HE4 HBY x0 x1 x2 x3
            obtain ⟨t1, t2⟩ := take_same (F := F) (f := f) (f' := f') (c := c) (by rw [HCC.out]; exact HPr.out) q xs
            rw [← t1] at HE5
            have HT2 := Lib.hid t2
            clear t1 t2
            generalize tcode F f c q xs.length = kk at *
            have qk : (kk != kk) = false := by simp
            go_wp2_with fail
            (with_reducible refine (code_err HE5.out).mono ?_)
            rintro e w6 ⟨rfl, hw⟩
            cases hw
            go_wp2_with fail
            (with_reducible refine (code_err HE45.out).mono ?_)
            rintro e w6 ⟨rfl, hw⟩
            cases hw
            go_wp2_with fail
            go_roundw
            case rel => exact ⟨i + 1, _, _, by omega, by go_num, HT5, Lib.hid (by rw [← HCC.out]; exact HT2.out)⟩
            case measure => simp [intOf]; omega
          · have d0 : (c == ch) = false := by simpa using hc
            have HPO := Lib.hid (take_other (F := F) (f := f) hc q xs)
            clear hc
            go_wp2_with fail
            go_roundw
            case rel => exact ⟨i + 1, _, _, by omega, by go_num, HT4, Lib.hid (by rw [HPO.out]; exact HPr.out)⟩
            case measure => simp [intOf]; omega
      · have q3 : decide ((100 : Int) < (xs.length : Int)) = true := by simp; omega
        clear hx
        go_wp2_with fail
        go_ret
        exact ⟨rfl, HTr.out.bel⟩
    · have hge : (L : Int) ≤ (i : Int) := by omega
      go_wp2_with fail
      (with_reducible refine (tw_at HTr.out ch (peek f ch) rfl).mono ?_)
      rintro e w4 ⟨r4, rfl, ho, ht, _⟩
      have HO4 := Lib.hid ho.byts
      have HT4 := Lib.hid ht.swap
      clear ho ht HTr
      go_wp2_with fail
      (with_reducible refine (tw_at HT4.out ch (peek f ch) HPr.out).mono ?_)
      rintro e w5 ⟨r5, rfl, ho, ht, hb⟩
      have HO5 := Lib.hid ho.byts
      have HO45 := Lib.hid (HO4.out.below hb)
      have HT5 := Lib.hid ht.bel
      clear ho ht HT4 HO4 hb
      go_wp2_with fail
      (with_reducible refine (rsame_yes _ _ _ _ _ (peek f ch).xs _ HO45.out HO5.out).mono ?_)
      rintro e w6 ⟨rfl, hb⟩
      have HB6 := Lib.hid (below_call HT5.out hb)
      clear hb
      go_wp2_with fail
      go_ret
      exact ⟨rfl, HB6.out⟩
theorem apart_any (fresh ch : Int) (v : Value) (ls : List Ac) (w : World) (hv : Els RAct 4 w v ls) :
    Calls Tryd.prog 6 #[.int .i64 fresh, v, .int .i64 ch] w fun e w' => e = .returned (.bool true) ∧ Below w.heap.size w w' := by
  by_cases h : 200 < ls.length
  · exact apart_out fresh ch v ls w hv h
  · exact apart_main fresh ch v ls w hv (by omega)
end Go.Proofs.YtmfgfjkpijmgoaaDoor
