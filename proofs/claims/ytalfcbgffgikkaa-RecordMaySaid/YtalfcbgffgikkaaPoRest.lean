/-
  Restart of policy by a contract.
-/
import Derived.Test.YtalfcbgffgikkaaPoHas
import Derived.Test.YtalfcbgffgikkaaPhEnter
import Derived.Test.YtalfcbgffgikkaaPoMade
namespace Go.Proofs.Ytalfcbgffgikkaa
open Go.RowKit

theorem pon_le (n : Int) : pon n ≤ 8 := by unfold pon; omega
theorem poph_true (r : Rc) : poph r true = pobeg r.p := by unfold poph pobeg; simp
theorem poph_false (r : Rc) : poph r false = 3 := by unfold poph; simp
set_option maxHeartbeats 4000000 in
theorem restart_to (r : Rc) (had : Bool) (n : Int) (ph : Int) (hp : poph r had = ph) (w : World) : Calls Try.prog 15 #[.agg #[.int .i64 r.p, .int .i64 r.w, .int .i64 r.j], .bool had, .int .i64 n] w fun e w' => ∃ g, e = .returned (.tuple #[.agg #[.int .i64 ph, .int .i64 1], .slice (some ⟨g, 0, none⟩) (pon n) (pon n)]) ∧ TkB w' g (potks r had n) ∧ w.heap.size ≤ g ∧ Below w.heap.size w w' := by
  have hrange := poph_range r had
  rw [hp] at hrange
  obtain ⟨f, hf⟩ : ∃ f, porow r had = f := ⟨_, rfl⟩
  obtain ⟨K, hK⟩ : ∃ K, pon n = K := ⟨_, rfl⟩
  have HL := Lib.hid (show potks r had n = (List.range K).map f by unfold potks; rw [hf, hK])
  have hK8 : K ≤ 8 := hK ▸ pon_le n
  obtain ⟨a, ha⟩ : ∃ a, max n 0 = a := ⟨_, rfl⟩
  have m1 : ∀ (ts : Array TypeId) (t : TypeId) (w : World), (Builtin.max_ ts t #[.int .i64 n, .int .i64 0]).run Try.prog w = .ok (.int .i64 a) w := fun ts t w => by
    rw [run_max_int2, show (if (0 : Int) > n then (0 : Int) else n) = a by split <;> omega]
  have m2 : ∀ (ts : Array TypeId) (t : TypeId) (w : World), (Builtin.min_ ts t #[.int .i64 a, .int .i64 8]).run Try.prog w = .ok (.int .i64 (K : Int)) w := fun ts t w => by
    rw [run_min_int2, show (if (8 : Int) < a then (8 : Int) else a) = (K : Int) by unfold pon at hK; split <;> omega]
  have m3 := run_make_tracks K (by omega)
  have HE := Lib.hid (show ph = if 0 ≤ ph ∧ ph ≤ 7 then ph else 7 by rw [if_pos ⟨by omega, by omega⟩])
  rw [hK]
  clear hK ha hrange
  obtain ⟨rp, rw, rj⟩ := r
  cases had
  · rw [poph_false] at hp
    have HP := Lib.hid (show pobeg 3 = ph by rw [← hp]; rfl)
    have HFF := Lib.hid (show ∀ k, f k = potk false false from fun k => by rw [← hf]; rfl)
    clear hf hp
    have hb0 := below_alloc (below_alloc (Below.refl _ w) (.cells #[.int .i64 3, .int .i64 0, .int .i64 0] 26)) (.cells #[.int .i64 0, .int .i64 0] 23)
    have hx0 := (blk_new w #[.int .i64 3, .int .i64 0, .int .i64 0] 26).below (below_alloc (Below.refl _ (w.alloc (.cells #[.int .i64 3, .int .i64 0, .int .i64 0] 26))) (.cells #[.int .i64 0, .int .i64 0] 23))
    have hr0 := blk_new (w.alloc (.cells #[.int .i64 3, .int .i64 0, .int .i64 0] 26)) #[.int .i64 0, .int .i64 0] 23
    have HB := Lib.hid (below_alloc hb0 (.cells ((List.replicate K tk0).flatMap tkl).toArray 43))
    have HX := Lib.hid (hx0.below (below_alloc (Below.refl _ _) (.cells ((List.replicate K tk0).flatMap tkl).toArray 43)))
    have hr1 := hr0.below (below_alloc (Below.refl _ _) (.cells ((List.replicate K tk0).flatMap tkl).toArray 43))
    have ht := tkB_new ((w.alloc (.cells #[.int .i64 3, .int .i64 0, .int .i64 0] 26)).alloc (.cells #[.int .i64 0, .int .i64 0] 23)) K
    simp only [World.size_alloc] at ht hr1
    have HR := Lib.hid hr1
    have HT := Lib.hid (show TkB _ (w.heap.size + 1 + 1) (pohalf f K 0) by rw [pohalf_zero]; exact ht)
    clear ht hb0 hx0 hr0 hr1
    go_enter Try.func15, Try.ntmps15
    go_wp2_with fail
    go_loopw [19] (fun x wr => ∃ k : Nat, k ≤ K ∧ x = .int .i64 (k : Int) ∧ Hid (TkB wr (w.heap.size + 1 + 1) (pohalf f K k)) ∧ Hid (Blk wr w.heap.size #[.int .i64 3, .int .i64 0, .int .i64 0] 26) ∧ Hid (Blk wr (w.heap.size + 1) #[.int .i64 0, .int .i64 0] 23) ∧ Hid (Below w.heap.size w wr)) (fun x _ => K - (intOf x).toNat)
    case atStart => exact ⟨0, by omega, rfl, HT, HX, HR, HB⟩
    case round =>
      obtain ⟨k, hk, rfl, HTk, HXk, HRk, HBk⟩ := hrel
      clear HB HX HR HT
      obtain ⟨x0, x1, x2⟩ := HXk.out.three
      by_cases hlt : k < K
      · have hltI : (k : Int) < (K : Int) := by omega
        have hkw : wrap64 ((k : Int) + 1) = (k : Int) + 1 := IntWalk.wrap64_in _ (by omega)
        have hne : w.heap.size ≠ w.heap.size + 1 + 1 := by omega
        have hy := pohalf_at f K k k hlt
        rw [if_neg (by omega)] at hy
        have c3 := HTk.out.cell hy 3 (by decide)
        have c6 := HTk.out.cell hy 6 (by decide)
        have z3 := Blk.frz HTk.out (k * 11 + 3)
        have z6 := Blk.frz HTk.out (k * 11 + 6)
        change _ = some (Value.bool false) at c3
        change _ = some (Value.bool false) at c6
        obtain ⟨q1, hq1⟩ : ∃ q, pobit 0 k = q := ⟨_, rfl⟩
        obtain ⟨q2, hq2⟩ : ∃ q, pobit 0 k = q := ⟨_, rfl⟩
        have HF := Lib.hid (show f k = potk q1 q2 by rw [HFF.out k, ← hq1, ← hq2]; simp [pobit])
        have H1 := Lib.hid (has_to 0 k (by omega) q1 hq1)
        have H2 := Lib.hid (has_to 0 k (by omega) q2 hq2)
        have HY := Lib.hid hy
        clear hq1 hq2 hy
        go_wp2_with fail
        (with_reducible refine (H1.out _).mono ?_)
        rintro e w1 ⟨rfl, rfl⟩
        go_wp2_with fail
        (with_reducible refine (H2.out _).mono ?_)
        rintro e w2 ⟨rfl, rfl⟩
        go_wp2_with fail
        go_roundw
        case rel =>
          have h2 := HTk.out.set_ HY.out 3 (by decide) (.bool q1) ⟨false, 0, 0, q1, 0, 0, false, false, 0, false, false⟩ rfl
          have h3 : ((pohalf f K k).set k ⟨false, 0, 0, q1, 0, 0, false, false, 0, false, false⟩)[k]? = some ⟨false, 0, 0, q1, 0, 0, false, false, 0, false, false⟩ := List.getElem?_set_self (by rw [pohalf_len]; exact hlt)
          have h4 := h2.set_ h3 6 (by decide) (.bool q2) (potk q1 q2) rfl
          rw [← HF.out, pohalf_next f K k hlt] at h4
          refine ⟨k + 1, by omega, by go_num, Lib.hid h4, Lib.hid ?_, Lib.hid ?_, Lib.hid ?_⟩
          · exact (HXk.out.far _ _ _ (by omega)).far _ _ _ (by omega)
          · exact (HRk.out.far _ _ _ (by omega)).far _ _ _ (by omega)
          · exact bel_set (bel_set HBk.out (by omega) _ _) (by omega) _ _
        case measure => simp [intOf]; omega
      · obtain rfl : k = K := by omega
        have hltI : ¬ (k : Int) < (k : Int) := by omega
        go_wp2_with fail
        (with_reducible refine (begin_to 3 ph HP.out _).mono ?_)
        rintro e w1 ⟨rfl, rfl⟩
        go_wp2_with fail
        (with_reducible refine (enter_to ph ph HE.out _).mono ?_)
        rintro e w2 ⟨rfl, hb⟩
        have HB2 := Lib.hid (below_call HBk.out hb)
        have HR2 := Lib.hid (HRk.out.below hb)
        have HT2 := Lib.hid (HTk.out.below hb)
        clear hb
        obtain ⟨y0, y1⟩ := box2 HR2.out
        have f0 := HR2.out.frz 0
        have f1 := HR2.out.frz 1
        go_wp2_with fail
        (try simp only [Exit.inBlock, Exit.then])
        refine bodyPost_ret (v := .tuple #[.agg #[.int .i64 ph, .int .i64 1], .slice (some ⟨w.heap.size + 1 + 1, 0, none⟩) k k]) ?_ rfl ⟨w.heap.size + 1 + 1, rfl, ?_, by omega, bel_set2 HB2.out (by omega) _ _⟩
        · rw [results_cell_tmp rfl]
          go_simp
        · have h := HT2.out
          rw [pohalf_full f] at h
          rw [HL.out]
          exact (h.far _ _ _ (by omega)).far _ _ _ (by omega)
  · rw [poph_true] at hp
    have HP := Lib.hid hp
    have HFF := Lib.hid (show ∀ k, f k = potk (pobit rw k) (pobit rj k) from fun k => by rw [← hf]; rfl)
    clear hf hp
    have hb0 := below_alloc (below_alloc (Below.refl _ w) (.cells #[.int .i64 rp, .int .i64 rw, .int .i64 rj] 26)) (.cells #[.int .i64 0, .int .i64 0] 23)
    have hx0 := (blk_new w #[.int .i64 rp, .int .i64 rw, .int .i64 rj] 26).below (below_alloc (Below.refl _ (w.alloc (.cells #[.int .i64 rp, .int .i64 rw, .int .i64 rj] 26))) (.cells #[.int .i64 0, .int .i64 0] 23))
    have hr0 := blk_new (w.alloc (.cells #[.int .i64 rp, .int .i64 rw, .int .i64 rj] 26)) #[.int .i64 0, .int .i64 0] 23
    have HB := Lib.hid (below_alloc hb0 (.cells ((List.replicate K tk0).flatMap tkl).toArray 43))
    have HX := Lib.hid (hx0.below (below_alloc (Below.refl _ _) (.cells ((List.replicate K tk0).flatMap tkl).toArray 43)))
    have hr1 := hr0.below (below_alloc (Below.refl _ _) (.cells ((List.replicate K tk0).flatMap tkl).toArray 43))
    have ht := tkB_new ((w.alloc (.cells #[.int .i64 rp, .int .i64 rw, .int .i64 rj] 26)).alloc (.cells #[.int .i64 0, .int .i64 0] 23)) K
    simp only [World.size_alloc] at ht hr1
    have HR := Lib.hid hr1
    have HT := Lib.hid (show TkB _ (w.heap.size + 1 + 1) (pohalf f K 0) by rw [pohalf_zero]; exact ht)
    clear ht hb0 hx0 hr0 hr1
    go_enter Try.func15, Try.ntmps15
    go_wp2_with fail
    go_loopw [19] (fun x wr => ∃ k : Nat, k ≤ K ∧ x = .int .i64 (k : Int) ∧ Hid (TkB wr (w.heap.size + 1 + 1) (pohalf f K k)) ∧ Hid (Blk wr w.heap.size #[.int .i64 rp, .int .i64 rw, .int .i64 rj] 26) ∧ Hid (Blk wr (w.heap.size + 1) #[.int .i64 0, .int .i64 0] 23) ∧ Hid (Below w.heap.size w wr)) (fun x _ => K - (intOf x).toNat)
    case atStart => exact ⟨0, by omega, rfl, HT, HX, HR, HB⟩
    case round =>
      obtain ⟨k, hk, rfl, HTk, HXk, HRk, HBk⟩ := hrel
      clear HB HX HR HT
      obtain ⟨x0, x1, x2⟩ := HXk.out.three
      by_cases hlt : k < K
      · have hltI : (k : Int) < (K : Int) := by omega
        have hkw : wrap64 ((k : Int) + 1) = (k : Int) + 1 := IntWalk.wrap64_in _ (by omega)
        have hne : w.heap.size ≠ w.heap.size + 1 + 1 := by omega
        have hy := pohalf_at f K k k hlt
        rw [if_neg (by omega)] at hy
        have c3 := HTk.out.cell hy 3 (by decide)
        have c6 := HTk.out.cell hy 6 (by decide)
        have z3 := Blk.frz HTk.out (k * 11 + 3)
        have z6 := Blk.frz HTk.out (k * 11 + 6)
        change _ = some (Value.bool false) at c3
        change _ = some (Value.bool false) at c6
        obtain ⟨q1, hq1⟩ : ∃ q, pobit rw k = q := ⟨_, rfl⟩
        obtain ⟨q2, hq2⟩ : ∃ q, pobit rj k = q := ⟨_, rfl⟩
        have HF := Lib.hid (show f k = potk q1 q2 by rw [HFF.out k, hq1, hq2])
        have H1 := Lib.hid (has_to rw k (by omega) q1 hq1)
        have H2 := Lib.hid (has_to rj k (by omega) q2 hq2)
        have HY := Lib.hid hy
        clear hq1 hq2 hy
        go_wp2_with fail
        (with_reducible refine (H1.out _).mono ?_)
        rintro e w1 ⟨rfl, rfl⟩
        go_wp2_with fail
        (with_reducible refine (H2.out _).mono ?_)
        rintro e w2 ⟨rfl, rfl⟩
        go_wp2_with fail
        go_roundw
        case rel =>
          have h2 := HTk.out.set_ HY.out 3 (by decide) (.bool q1) ⟨false, 0, 0, q1, 0, 0, false, false, 0, false, false⟩ rfl
          have h3 : ((pohalf f K k).set k ⟨false, 0, 0, q1, 0, 0, false, false, 0, false, false⟩)[k]? = some ⟨false, 0, 0, q1, 0, 0, false, false, 0, false, false⟩ := List.getElem?_set_self (by rw [pohalf_len]; exact hlt)
          have h4 := h2.set_ h3 6 (by decide) (.bool q2) (potk q1 q2) rfl
          rw [← HF.out, pohalf_next f K k hlt] at h4
          refine ⟨k + 1, by omega, by go_num, Lib.hid h4, Lib.hid ?_, Lib.hid ?_, Lib.hid ?_⟩
          · exact (HXk.out.far _ _ _ (by omega)).far _ _ _ (by omega)
          · exact (HRk.out.far _ _ _ (by omega)).far _ _ _ (by omega)
          · exact bel_set (bel_set HBk.out (by omega) _ _) (by omega) _ _
        case measure => simp [intOf]; omega
      · obtain rfl : k = K := by omega
        have hltI : ¬ (k : Int) < (k : Int) := by omega
        go_wp2_with fail
        (with_reducible refine (begin_to rp ph HP.out _).mono ?_)
        rintro e w1 ⟨rfl, rfl⟩
        go_wp2_with fail
        (with_reducible refine (enter_to ph ph HE.out _).mono ?_)
        rintro e w2 ⟨rfl, hb⟩
        have HB2 := Lib.hid (below_call HBk.out hb)
        have HR2 := Lib.hid (HRk.out.below hb)
        have HT2 := Lib.hid (HTk.out.below hb)
        clear hb
        obtain ⟨y0, y1⟩ := box2 HR2.out
        have f0 := HR2.out.frz 0
        have f1 := HR2.out.frz 1
        go_wp2_with fail
        (try simp only [Exit.inBlock, Exit.then])
        refine bodyPost_ret (v := .tuple #[.agg #[.int .i64 ph, .int .i64 1], .slice (some ⟨w.heap.size + 1 + 1, 0, none⟩) k k]) ?_ rfl ⟨w.heap.size + 1 + 1, rfl, ?_, by omega, bel_set2 HB2.out (by omega) _ _⟩
        · rw [results_cell_tmp rfl]
          go_simp
        · have h := HT2.out
          rw [pohalf_full f] at h
          rw [HL.out]
          exact (h.far _ _ _ (by omega)).far _ _ _ (by omega)
end Go.Proofs.Ytalfcbgffgikkaa
