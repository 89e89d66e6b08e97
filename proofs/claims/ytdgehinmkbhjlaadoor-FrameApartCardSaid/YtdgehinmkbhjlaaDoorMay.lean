/-
  The walk of crossbucklaw06.FrameMay: true, whatever it is given.
-/
import Derived.Test.YtdgehinmkbhjlaaDoorSmall
namespace Go.Proofs.YtdgehinmkbhjlaaDoor
open Go.RowKit

theorem nofit {c q : Int} {n : Nat} (h : ¬ Fit c q n) : decide (0 ≤ c) = false ∨ (decide (0 ≤ c) = true ∧ decide (c ≤ 15) = false) ∨ (decide (0 ≤ c) = true ∧ decide (c ≤ 15) = true ∧ decide (0 ≤ q) = false) ∨
    (decide (0 ≤ c) = true ∧ decide (c ≤ 15) = true ∧ decide (0 ≤ q) = true ∧ decide (q ≤ 255) = false) ∨ (decide (0 ≤ c) = true ∧ decide (c ≤ 15) = true ∧ decide (0 ≤ q) = true ∧ decide (q ≤ 255) = true ∧ decide ((n : Int) ≤ 16) = false) := by
  simp only [decide_eq_true_eq, decide_eq_false_iff_not]
  unfold Fit at h
  omega
theorem length_sealed (x y : BitVec 8) (xs : List (BitVec 8)) : (sealed (frm x y xs)).length = xs.length + 5 := by simp [sealed, frm]
theorem frm_inj {x y x' y' : BitVec 8} {xs ys : List (BitVec 8)} (h : frm x y xs = frm x' y' ys) : x = x' ∧ y = y' ∧ xs = ys := by
  unfold frm at h
  simp only [List.cons.injEq] at h
  exact ⟨h.1, h.2.1, h.2.2.2⟩
theorem sealed_inj {xs ys : List (BitVec 8)} (h : sealed xs = sealed ys) : xs = ys := by
  have := congrArg front h
  rwa [front_sealed, front_sealed] at this

set_option maxHeartbeats 4000000 in
set_option maxRecDepth 10000 in
theorem may_long (c q : Int) (u : Value) (xs : List (BitVec 8)) (w : World) (hu : Byts w u xs) (hl : 300 < xs.length) :
    Calls Tryd.prog 7 #[.agg #[.int .i64 c, .int .i64 q, u]] w fun e w' => e = .returned (.bool true) ∧ Below w.heap.size w w' := by
  have q0 : decide ((300 : Int) < (xs.length : Int)) = true := decide_eq_true (by omega)
  obtain ⟨au, cu, rfl⟩ := hu.len
  clear hu hl
  have HB := Lib.hid (below_alloc (Below.refl _ w) (.cells #[.int .i64 c, .int .i64 q, .slice au xs.length cu] 24))
  have HX := Lib.hid (box_new w c q (.slice au xs.length cu))
  go_enter Tryd.func7, Tryd.ntmps7
  go_wp2_with fail
  (with_reducible refine (small_true _).mono ?_)
  rintro e w1 ⟨rfl, hb⟩
  obtain ⟨e0, e1, e2⟩ := (HX.out.below hb).cells
  have HB1 := Lib.hid (below_call HB.out hb)
  clear hb HX HB
  go_wp2_with fail
  go_ret
  exact ⟨rfl, HB1.out⟩

set_option maxHeartbeats 4000000 in
set_option maxRecDepth 10000 in
theorem may_fit (x y : BitVec 8) (u : Value) (xs : List (BitVec 8)) (w : World) (hu : Byts w u xs) (hx : x.toNat ≤ 15) (hl : xs.length ≤ 16) :
    Calls Tryd.prog 7 #[.agg #[.int .i64 (x.toNat : Int), .int .i64 (y.toNat : Int), u]] w fun e w' => e = .returned (.bool true) ∧ Below w.heap.size w w' := by
  have q0 : decide ((300 : Int) < (xs.length : Int)) = false := decide_eq_false (by omega)
  have hy := y.isLt
  have q1 : decide (0 ≤ (x.toNat : Int)) = true := decide_eq_true (by omega)
  have q2 : decide ((x.toNat : Int) ≤ 15) = true := decide_eq_true (by omega)
  have q3 : decide (0 ≤ (y.toNat : Int)) = true := decide_eq_true (by omega)
  have q4 : decide ((y.toNat : Int) ≤ 255) = true := decide_eq_true (by omega)
  have q5 : decide ((xs.length : Int) ≤ 16) = true := decide_eq_true (by omega)
  obtain ⟨n, hn⟩ : ∃ n, n = xs.length + 5 := ⟨_, rfl⟩
  have q6 : ((n : Int) == 5 + (xs.length : Int)) = true := by simp; omega
  have q7 : ((n : Int) == 0) = false := by simp; omega
  have HN := Lib.hid ((length_sealed x y xs).trans hn.symm)
  have h16 : (xs.length : Int) ≤ 16 := by omega
  have HU := Lib.hid hu
  have HXX := Lib.hid hx
  have HL := Lib.hid hl
  obtain ⟨au, cu, rfl⟩ := hu.len
  clear hu hl hx hn hy
  have HB := Lib.hid (below_alloc (Below.refl _ w) (.cells #[.int .i64 (x.toNat : Int), .int .i64 (y.toNat : Int), .slice au xs.length cu] 24))
  have HX := Lib.hid (box_new w (x.toNat : Int) (y.toNat : Int) (.slice au xs.length cu))
  go_enter Tryd.func7, Tryd.ntmps7
  go_wp2_with fail
  (with_reducible refine (small_true _).mono ?_)
  rintro e w1 ⟨rfl, hb⟩
  have HX1 := Lib.hid (HX.out.below hb)
  obtain ⟨e0, e1, e2⟩ := HX1.out.cells
  have HB1 := Lib.hid (below_call HB.out hb)
  have HU1 := Lib.hid (HU.out.below HB1.out)
  clear hb HX HB
  go_wp2_with fail
  (with_reducible refine (enc_yes _ _ _ _ _ HU1.out HXX.out HL.out).mono ?_)
  rintro e w2 ⟨r, rfl, hown, hb⟩
  obtain ⟨ar, cr, rfl⟩ := hown.byts.len
  rw [HN.out] at hown ⊢
  clear e0 e1 e2
  obtain ⟨e0, e1, e2⟩ := (HX1.out.below hb).cells
  have HB2 := Lib.hid (below_call HB1.out hb)
  clear hb hown HX1 HB1 HU1
  go_wp2_with fail
  go_ret
  exact ⟨by simp, HB2.out⟩

set_option maxHeartbeats 4000000 in
set_option maxRecDepth 10000 in
theorem may_not (c q : Int) (u : Value) (xs : List (BitVec 8)) (w : World) (hu : Byts w u xs) (h3 : xs.length ≤ 300) (h : ¬ Fit c q xs.length) :
    Calls Tryd.prog 7 #[.agg #[.int .i64 c, .int .i64 q, u]] w fun e w' => e = .returned (.bool true) ∧ Below w.heap.size w w' := by
  have q0 : decide ((300 : Int) < (xs.length : Int)) = false := decide_eq_false (by omega)
  have HU := Lib.hid hu
  have HF := Lib.hid h
  obtain ⟨au, cu, rfl⟩ := hu.len
  clear hu h h3
  have HB := Lib.hid (below_alloc (Below.refl _ w) (.cells #[.int .i64 c, .int .i64 q, .slice au xs.length cu] 24))
  have HX := Lib.hid (box_new w c q (.slice au xs.length cu))
  go_enter Tryd.func7, Tryd.ntmps7
  go_wp2_with fail
  (with_reducible refine (small_true _).mono ?_)
  rintro e w1 ⟨rfl, hb⟩
  have HX1 := Lib.hid (HX.out.below hb)
  obtain ⟨e0, e1, e2⟩ := HX1.out.cells
  have HB1 := Lib.hid (below_call HB.out hb)
  have HU1 := Lib.hid (HU.out.below HB1.out)
  clear hb HX HB
  go_wp2_with fail
  (with_reducible refine (enc_no _ _ _ _ _ HU1.out HF.out).mono ?_)
  rintro e w2 ⟨g, hg, rfl, hc, hb⟩
  clear e0 e1 e2
  obtain ⟨e0, e1, e2⟩ := (HX1.out.below hb).cells
  have HB2 := Lib.hid (below_call HB1.out hb)
  clear hb hg hc HX1 HB1 HU1
  rcases nofit HF.out with q1 | ⟨q1, q2⟩ | ⟨q1, q2, q3⟩ | ⟨q1, q2, q3, q4⟩ | ⟨q1, q2, q3, q4, q5⟩
  · go_wp2_with fail
    go_ret
    exact ⟨by simp, HB2.out⟩
  · go_wp2_with fail
    go_ret
    exact ⟨by simp, HB2.out⟩
  · go_wp2_with fail
    go_ret
    exact ⟨by simp, HB2.out⟩
  · go_wp2_with fail
    go_ret
    exact ⟨by simp, HB2.out⟩
  · go_wp2_with fail
    go_ret
    exact ⟨by simp, HB2.out⟩
theorem may_any (c q : Int) (u : Value) (xs : List (BitVec 8)) (w : World) (hu : Byts w u xs) :
    Calls Tryd.prog 7 #[.agg #[.int .i64 c, .int .i64 q, u]] w fun e w' => e = .returned (.bool true) ∧ Below w.heap.size w w' := by
  by_cases h3 : xs.length ≤ 300
  · by_cases h : Fit c q xs.length
    · obtain ⟨x, y, rfl, rfl, hx⟩ := fit_bytes h
      exact may_fit x y u xs w hu hx h.2.2.2.2
    · exact may_not c q u xs w hu h3 h
  · exact may_long c q u xs w hu (by omega)
end Go.Proofs.YtdgehinmkbhjlaaDoor
