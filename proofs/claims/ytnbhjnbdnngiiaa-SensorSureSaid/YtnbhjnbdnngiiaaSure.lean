/-
  The walk of crossbucklaw13.SensorSure: true.
-/
import Derived.Test.YtnbhjnbdnngiiaaSmall
namespace Go.Proofs.Ytnbhjnbdnngiiaa
open Go.RowKit

theorem cnt_zero {ok : Bool} {xs : List (BitVec 8)} {a b c d : Int} (h : cntOf ok xs = ⟨false, a, b, c, d⟩) : a = 0 ∧ b = 0 ∧ c = 0 ∧ d = 0 := by
  unfold cntOf at h
  split at h
  · split at h
    · simp at h
    · simp at h; omega
  · simp at h; omega
theorem cnt_range {ok : Bool} {xs : List (BitVec 8)} {f : Bool} {a b c d : Int} (h : cntOf ok xs = ⟨f, a, b, c, d⟩) : 0 ≤ c ∧ c ≤ 2 ∧ 0 ≤ d ∧ d ≤ 3 := by
  unfold cntOf at h
  split at h
  · split at h
    · simp at h; omega
    · simp at h; omega
  · simp at h; omega
theorem bar_range {k : Int} {a b c d : Bool} (h : barIs k a b c d) : (a = true ∧ b = false ∨ a = false) ∧ (c = true ∧ d = false ∨ c = false) := by
  obtain ⟨h1, h2, h3, h4⟩ := h
  generalize bt (onl k 16) 1 = p at *
  generalize bt (onl k 16) 2 = q at *
  generalize bt (onl k 16) 4 = r at *
  generalize bt (onl k 16) 8 = s at *
  subst h1 h2 h3 h4
  cases p <;> cases q <;> cases r <;> cases s <;> decide
set_option maxHeartbeats 8000000 in
set_option maxRecDepth 10000 in
theorem sure_any (v : Value) (xs : List (BitVec 8)) (ok : Bool) (t : Int) (w : World) (h : Byts w v xs) : Calls Try.prog 6 #[v, .bool ok, .int .i64 t] w fun e w' => e = .returned (.bool true) ∧ Below w.heap.size w w' := by
  obtain ⟨av, cv, ev⟩ := h.len
  have HV := Lib.hid h
  clear h
  subst ev
  obtain ⟨n, hn⟩ : ∃ n, n = xs.length := ⟨_, rfl⟩
  rw [← hn] at HV ⊢
  by_cases hl : 300 < n
  · clear hn
    have hl2 : (300 : Int) < (n : Int) := by omega
    go_enter Try.func6, Try.ntmps6
    go_wp2_with fail
    (with_reducible refine (small_true _).mono ?_)
    rintro e w1 ⟨rfl, hb⟩
    have HB := Lib.hid hb
    clear hb
    go_wp2_with fail
    go_ret
    exact ⟨rfl, HB.out⟩
  have hl2 : ¬ (300 : Int) < (n : Int) := by omega
  clear hn hl
  obtain ⟨k, hk⟩ : ∃ k, sone ok xs = k := ⟨_, rfl⟩
  obtain ⟨p0, hp0⟩ : ∃ p0, bt (onl k 4) 1 = p0 := ⟨_, rfl⟩
  obtain ⟨p1, hp1⟩ : ∃ p1, bt (onl k 4) 2 = p1 := ⟨_, rfl⟩
  obtain ⟨e0, e1, e2, e3, hi⟩ : ∃ e0 e1 e2 e3, barIs k e0 e1 e2 e3 := ⟨_, _, _, _, rfl, rfl, rfl, rfl⟩
  obtain ⟨lm, hlm⟩ : ∃ lm, decide (k = 1) = lm := ⟨_, rfl⟩
  obtain ⟨ob, hob⟩ : ∃ ob, decide (k ≠ 0) = ob := ⟨_, rfl⟩
  obtain ⟨md, hmd⟩ : ∃ md, (if 0 ≤ k ∧ k < 3 then k else 1) = md := ⟨_, rfl⟩
  obtain ⟨lt, hlt⟩ : ∃ lt, rlim t = lt := ⟨_, rfl⟩
  obtain ⟨rt, hrt⟩ : ∃ rt, onl k lt = rt := ⟨_, rfl⟩
  obtain ⟨⟨fr, ci, co, cs, li⟩, hc⟩ : ∃ y, cntOf ok xs = y := ⟨_, rfl⟩
  clear hp0 hp1 p0 p1 hlm lm hob ob
  have hbr := bar_range hi
  have hcr := cnt_range hc
  have hcz : fr = false → ci = 0 ∧ co = 0 ∧ cs = 0 ∧ li = 0 := fun e => cnt_zero (by rw [← e]; exact hc)
  have hkr := sone_range ok xs
  rw [hk] at hkr
  have g0 : 0 ≤ rt ∧ rt < 256 := by
    rw [← hrt]
    unfold onl
    split <;> omega
  have g1 : 0 ≤ md ∧ md ≤ 2 := by
    rw [← hmd]
    split <;> omega
  have gt : 1 ≤ t → t ≤ 8 → rt < 2 ^ t.toNat := by
    intro a b
    have : lt = 2 ^ t.toNat := by
      rw [← hlt]
      unfold rlim
      rw [if_neg (by omega)]
      split
      · rw [show t = 8 by omega]; rfl
      · rfl
    rw [← hrt, ← this]
    unfold onl
    split
    · omega
    · rw [this]
      exact Int.pow_pos (by decide)
  have Hk := Lib.hid hk
  clear hk
  have Hi := Lib.hid hi
  clear hi
  have Hmd := Lib.hid hmd
  clear hmd
  have Hlt := Lib.hid hlt
  clear hlt
  have Hrt := Lib.hid hrt
  clear hrt
  have Hc := Lib.hid hc
  clear hc
  obtain ⟨g2, g3⟩ := g0
  obtain ⟨g4, g5⟩ := g1
  obtain ⟨g6, g7, g8, g9⟩ := hcr
  obtain ⟨hb1, hb2⟩ := hbr
  clear hkr
  rcases (show t < 1 ∨ 8 < t ∨ (1 ≤ t ∧ t ≤ 8) by omega) with ht | ht | ⟨ht, ht'⟩
  · clear gt
    cases fr
    · obtain ⟨rfl, rfl, rfl, rfl⟩ := hcz rfl
      have eC := eql_cnt false 0 0 0 0 false 0 0 0 0 true (by simp)
      clear hcz
      rcases hb1 with ⟨rfl, rfl⟩ | rfl <;> rcases hb2 with ⟨rfl, rfl⟩ | rfl
      · as_aux_lemma =>
          go_enter Try.func6, Try.ntmps6
          dsimp only [List.append]
          go_wp2_with fail
          (with_reducible refine (small_true _).mono ?_)
          rintro e w1 ⟨rfl, hb⟩
          have HB := Lib.hid hb
          clear hb
          go_wp2_with fail
          (with_reducible refine (barrier_to ok xs _ k Hk.out true false true false Hi.out _ (HV.out.below HB.out)).mono ?_)
          rintro e wx ⟨rfl, hb⟩
          replace HB := Lib.hid (below_call HB.out hb)
          clear hb
          replace HB := Lib.hid (below_alloc HB.out (.cells #[.bool true, .bool false, .bool true, .bool false] 27))
          have HX := Lib.hid (blk_new wx #[.bool true, .bool false, .bool true, .bool false] 27)
          go_wp2_with fail
          (with_reducible refine (routes_to ok xs _ k Hk.out _ t lt rt Hlt.out Hrt.out (HV.out.below HB.out)).mono ?_)
          rintro e w2 ⟨rfl, rfl⟩
          go_wp2_with fail
          (with_reducible refine (mode_to ok xs _ k Hk.out _ md Hmd.out (HV.out.below HB.out)).mono ?_)
          rintro e w2 ⟨rfl, rfl⟩
          go_wp2_with fail
          (with_reducible refine (counts_to ok xs _ ⟨false, 0, 0, 0, 0⟩ Hc.out _ (HV.out.below HB.out)).mono ?_)
          rintro e wc ⟨rfl, hb⟩
          replace HB := Lib.hid (below_call HB.out hb)
          replace HX := Lib.hid (HX.out.below hb)
          clear hb
          replace HX := Lib.hid (HX.out.below (below_alloc (Below.refl _ wc) (.cells #[.bool false, .int .i64 0, .int .i64 0, .int .i64 0, .int .i64 0] 33)))
          replace HB := Lib.hid (below_alloc HB.out (.cells #[.bool false, .int .i64 0, .int .i64 0, .int .i64 0, .int .i64 0] 33))
          obtain ⟨x0, x1, x2, x3⟩ := HX.out.four
          go_wp2_with fail
          go_ret
          exact ⟨rfl, HB.out⟩
      · as_aux_lemma =>
          go_enter Try.func6, Try.ntmps6
          dsimp only [List.append]
          go_wp2_with fail
          (with_reducible refine (small_true _).mono ?_)
          rintro e w1 ⟨rfl, hb⟩
          have HB := Lib.hid hb
          clear hb
          go_wp2_with fail
          (with_reducible refine (barrier_to ok xs _ k Hk.out true false false e3 Hi.out _ (HV.out.below HB.out)).mono ?_)
          rintro e wx ⟨rfl, hb⟩
          replace HB := Lib.hid (below_call HB.out hb)
          clear hb
          replace HB := Lib.hid (below_alloc HB.out (.cells #[.bool true, .bool false, .bool false, .bool e3] 27))
          have HX := Lib.hid (blk_new wx #[.bool true, .bool false, .bool false, .bool e3] 27)
          go_wp2_with fail
          (with_reducible refine (routes_to ok xs _ k Hk.out _ t lt rt Hlt.out Hrt.out (HV.out.below HB.out)).mono ?_)
          rintro e w2 ⟨rfl, rfl⟩
          go_wp2_with fail
          (with_reducible refine (mode_to ok xs _ k Hk.out _ md Hmd.out (HV.out.below HB.out)).mono ?_)
          rintro e w2 ⟨rfl, rfl⟩
          go_wp2_with fail
          (with_reducible refine (counts_to ok xs _ ⟨false, 0, 0, 0, 0⟩ Hc.out _ (HV.out.below HB.out)).mono ?_)
          rintro e wc ⟨rfl, hb⟩
          replace HB := Lib.hid (below_call HB.out hb)
          replace HX := Lib.hid (HX.out.below hb)
          clear hb
          replace HX := Lib.hid (HX.out.below (below_alloc (Below.refl _ wc) (.cells #[.bool false, .int .i64 0, .int .i64 0, .int .i64 0, .int .i64 0] 33)))
          replace HB := Lib.hid (below_alloc HB.out (.cells #[.bool false, .int .i64 0, .int .i64 0, .int .i64 0, .int .i64 0] 33))
          obtain ⟨x0, x1, x2, x3⟩ := HX.out.four
          go_wp2_with fail
          go_ret
          exact ⟨rfl, HB.out⟩
      · as_aux_lemma =>
          go_enter Try.func6, Try.ntmps6
          dsimp only [List.append]
          go_wp2_with fail
          (with_reducible refine (small_true _).mono ?_)
          rintro e w1 ⟨rfl, hb⟩
          have HB := Lib.hid hb
          clear hb
          go_wp2_with fail
          (with_reducible refine (barrier_to ok xs _ k Hk.out false e1 true false Hi.out _ (HV.out.below HB.out)).mono ?_)
          rintro e wx ⟨rfl, hb⟩
          replace HB := Lib.hid (below_call HB.out hb)
          clear hb
          replace HB := Lib.hid (below_alloc HB.out (.cells #[.bool false, .bool e1, .bool true, .bool false] 27))
          have HX := Lib.hid (blk_new wx #[.bool false, .bool e1, .bool true, .bool false] 27)
          go_wp2_with fail
          (with_reducible refine (routes_to ok xs _ k Hk.out _ t lt rt Hlt.out Hrt.out (HV.out.below HB.out)).mono ?_)
          rintro e w2 ⟨rfl, rfl⟩
          go_wp2_with fail
          (with_reducible refine (mode_to ok xs _ k Hk.out _ md Hmd.out (HV.out.below HB.out)).mono ?_)
          rintro e w2 ⟨rfl, rfl⟩
          go_wp2_with fail
          (with_reducible refine (counts_to ok xs _ ⟨false, 0, 0, 0, 0⟩ Hc.out _ (HV.out.below HB.out)).mono ?_)
          rintro e wc ⟨rfl, hb⟩
          replace HB := Lib.hid (below_call HB.out hb)
          replace HX := Lib.hid (HX.out.below hb)
          clear hb
          replace HX := Lib.hid (HX.out.below (below_alloc (Below.refl _ wc) (.cells #[.bool false, .int .i64 0, .int .i64 0, .int .i64 0, .int .i64 0] 33)))
          replace HB := Lib.hid (below_alloc HB.out (.cells #[.bool false, .int .i64 0, .int .i64 0, .int .i64 0, .int .i64 0] 33))
          obtain ⟨x0, x1, x2, x3⟩ := HX.out.four
          go_wp2_with fail
          go_ret
          exact ⟨rfl, HB.out⟩
      · as_aux_lemma =>
          go_enter Try.func6, Try.ntmps6
          dsimp only [List.append]
          go_wp2_with fail
          (with_reducible refine (small_true _).mono ?_)
          rintro e w1 ⟨rfl, hb⟩
          have HB := Lib.hid hb
          clear hb
          go_wp2_with fail
          (with_reducible refine (barrier_to ok xs _ k Hk.out false e1 false e3 Hi.out _ (HV.out.below HB.out)).mono ?_)
          rintro e wx ⟨rfl, hb⟩
          replace HB := Lib.hid (below_call HB.out hb)
          clear hb
          replace HB := Lib.hid (below_alloc HB.out (.cells #[.bool false, .bool e1, .bool false, .bool e3] 27))
          have HX := Lib.hid (blk_new wx #[.bool false, .bool e1, .bool false, .bool e3] 27)
          go_wp2_with fail
          (with_reducible refine (routes_to ok xs _ k Hk.out _ t lt rt Hlt.out Hrt.out (HV.out.below HB.out)).mono ?_)
          rintro e w2 ⟨rfl, rfl⟩
          go_wp2_with fail
          (with_reducible refine (mode_to ok xs _ k Hk.out _ md Hmd.out (HV.out.below HB.out)).mono ?_)
          rintro e w2 ⟨rfl, rfl⟩
          go_wp2_with fail
          (with_reducible refine (counts_to ok xs _ ⟨false, 0, 0, 0, 0⟩ Hc.out _ (HV.out.below HB.out)).mono ?_)
          rintro e wc ⟨rfl, hb⟩
          replace HB := Lib.hid (below_call HB.out hb)
          replace HX := Lib.hid (HX.out.below hb)
          clear hb
          replace HX := Lib.hid (HX.out.below (below_alloc (Below.refl _ wc) (.cells #[.bool false, .int .i64 0, .int .i64 0, .int .i64 0, .int .i64 0] 33)))
          replace HB := Lib.hid (below_alloc HB.out (.cells #[.bool false, .int .i64 0, .int .i64 0, .int .i64 0, .int .i64 0] 33))
          obtain ⟨x0, x1, x2, x3⟩ := HX.out.four
          go_wp2_with fail
          go_ret
          exact ⟨rfl, HB.out⟩
    · clear hcz
      rcases hb1 with ⟨rfl, rfl⟩ | rfl <;> rcases hb2 with ⟨rfl, rfl⟩ | rfl
      · as_aux_lemma =>
          go_enter Try.func6, Try.ntmps6
          dsimp only [List.append]
          go_wp2_with fail
          (with_reducible refine (small_true _).mono ?_)
          rintro e w1 ⟨rfl, hb⟩
          have HB := Lib.hid hb
          clear hb
          go_wp2_with fail
          (with_reducible refine (barrier_to ok xs _ k Hk.out true false true false Hi.out _ (HV.out.below HB.out)).mono ?_)
          rintro e wx ⟨rfl, hb⟩
          replace HB := Lib.hid (below_call HB.out hb)
          clear hb
          replace HB := Lib.hid (below_alloc HB.out (.cells #[.bool true, .bool false, .bool true, .bool false] 27))
          have HX := Lib.hid (blk_new wx #[.bool true, .bool false, .bool true, .bool false] 27)
          go_wp2_with fail
          (with_reducible refine (routes_to ok xs _ k Hk.out _ t lt rt Hlt.out Hrt.out (HV.out.below HB.out)).mono ?_)
          rintro e w2 ⟨rfl, rfl⟩
          go_wp2_with fail
          (with_reducible refine (mode_to ok xs _ k Hk.out _ md Hmd.out (HV.out.below HB.out)).mono ?_)
          rintro e w2 ⟨rfl, rfl⟩
          go_wp2_with fail
          (with_reducible refine (counts_to ok xs _ ⟨true, ci, co, cs, li⟩ Hc.out _ (HV.out.below HB.out)).mono ?_)
          rintro e wc ⟨rfl, hb⟩
          replace HB := Lib.hid (below_call HB.out hb)
          replace HX := Lib.hid (HX.out.below hb)
          clear hb
          replace HX := Lib.hid (HX.out.below (below_alloc (Below.refl _ wc) (.cells #[.bool true, .int .i64 ci, .int .i64 co, .int .i64 cs, .int .i64 li] 33)))
          replace HB := Lib.hid (below_alloc HB.out (.cells #[.bool true, .int .i64 ci, .int .i64 co, .int .i64 cs, .int .i64 li] 33))
          obtain ⟨x0, x1, x2, x3⟩ := HX.out.four
          go_wp2_with fail
          go_ret
          exact ⟨rfl, HB.out⟩
      · as_aux_lemma =>
          go_enter Try.func6, Try.ntmps6
          dsimp only [List.append]
          go_wp2_with fail
          (with_reducible refine (small_true _).mono ?_)
          rintro e w1 ⟨rfl, hb⟩
          have HB := Lib.hid hb
          clear hb
          go_wp2_with fail
          (with_reducible refine (barrier_to ok xs _ k Hk.out true false false e3 Hi.out _ (HV.out.below HB.out)).mono ?_)
          rintro e wx ⟨rfl, hb⟩
          replace HB := Lib.hid (below_call HB.out hb)
          clear hb
          replace HB := Lib.hid (below_alloc HB.out (.cells #[.bool true, .bool false, .bool false, .bool e3] 27))
          have HX := Lib.hid (blk_new wx #[.bool true, .bool false, .bool false, .bool e3] 27)
          go_wp2_with fail
          (with_reducible refine (routes_to ok xs _ k Hk.out _ t lt rt Hlt.out Hrt.out (HV.out.below HB.out)).mono ?_)
          rintro e w2 ⟨rfl, rfl⟩
          go_wp2_with fail
          (with_reducible refine (mode_to ok xs _ k Hk.out _ md Hmd.out (HV.out.below HB.out)).mono ?_)
          rintro e w2 ⟨rfl, rfl⟩
          go_wp2_with fail
          (with_reducible refine (counts_to ok xs _ ⟨true, ci, co, cs, li⟩ Hc.out _ (HV.out.below HB.out)).mono ?_)
          rintro e wc ⟨rfl, hb⟩
          replace HB := Lib.hid (below_call HB.out hb)
          replace HX := Lib.hid (HX.out.below hb)
          clear hb
          replace HX := Lib.hid (HX.out.below (below_alloc (Below.refl _ wc) (.cells #[.bool true, .int .i64 ci, .int .i64 co, .int .i64 cs, .int .i64 li] 33)))
          replace HB := Lib.hid (below_alloc HB.out (.cells #[.bool true, .int .i64 ci, .int .i64 co, .int .i64 cs, .int .i64 li] 33))
          obtain ⟨x0, x1, x2, x3⟩ := HX.out.four
          go_wp2_with fail
          go_ret
          exact ⟨rfl, HB.out⟩
      · as_aux_lemma =>
          go_enter Try.func6, Try.ntmps6
          dsimp only [List.append]
          go_wp2_with fail
          (with_reducible refine (small_true _).mono ?_)
          rintro e w1 ⟨rfl, hb⟩
          have HB := Lib.hid hb
          clear hb
          go_wp2_with fail
          (with_reducible refine (barrier_to ok xs _ k Hk.out false e1 true false Hi.out _ (HV.out.below HB.out)).mono ?_)
          rintro e wx ⟨rfl, hb⟩
          replace HB := Lib.hid (below_call HB.out hb)
          clear hb
          replace HB := Lib.hid (below_alloc HB.out (.cells #[.bool false, .bool e1, .bool true, .bool false] 27))
          have HX := Lib.hid (blk_new wx #[.bool false, .bool e1, .bool true, .bool false] 27)
          go_wp2_with fail
          (with_reducible refine (routes_to ok xs _ k Hk.out _ t lt rt Hlt.out Hrt.out (HV.out.below HB.out)).mono ?_)
          rintro e w2 ⟨rfl, rfl⟩
          go_wp2_with fail
          (with_reducible refine (mode_to ok xs _ k Hk.out _ md Hmd.out (HV.out.below HB.out)).mono ?_)
          rintro e w2 ⟨rfl, rfl⟩
          go_wp2_with fail
          (with_reducible refine (counts_to ok xs _ ⟨true, ci, co, cs, li⟩ Hc.out _ (HV.out.below HB.out)).mono ?_)
          rintro e wc ⟨rfl, hb⟩
          replace HB := Lib.hid (below_call HB.out hb)
          replace HX := Lib.hid (HX.out.below hb)
          clear hb
          replace HX := Lib.hid (HX.out.below (below_alloc (Below.refl _ wc) (.cells #[.bool true, .int .i64 ci, .int .i64 co, .int .i64 cs, .int .i64 li] 33)))
          replace HB := Lib.hid (below_alloc HB.out (.cells #[.bool true, .int .i64 ci, .int .i64 co, .int .i64 cs, .int .i64 li] 33))
          obtain ⟨x0, x1, x2, x3⟩ := HX.out.four
          go_wp2_with fail
          go_ret
          exact ⟨rfl, HB.out⟩
      · as_aux_lemma =>
          go_enter Try.func6, Try.ntmps6
          dsimp only [List.append]
          go_wp2_with fail
          (with_reducible refine (small_true _).mono ?_)
          rintro e w1 ⟨rfl, hb⟩
          have HB := Lib.hid hb
          clear hb
          go_wp2_with fail
          (with_reducible refine (barrier_to ok xs _ k Hk.out false e1 false e3 Hi.out _ (HV.out.below HB.out)).mono ?_)
          rintro e wx ⟨rfl, hb⟩
          replace HB := Lib.hid (below_call HB.out hb)
          clear hb
          replace HB := Lib.hid (below_alloc HB.out (.cells #[.bool false, .bool e1, .bool false, .bool e3] 27))
          have HX := Lib.hid (blk_new wx #[.bool false, .bool e1, .bool false, .bool e3] 27)
          go_wp2_with fail
          (with_reducible refine (routes_to ok xs _ k Hk.out _ t lt rt Hlt.out Hrt.out (HV.out.below HB.out)).mono ?_)
          rintro e w2 ⟨rfl, rfl⟩
          go_wp2_with fail
          (with_reducible refine (mode_to ok xs _ k Hk.out _ md Hmd.out (HV.out.below HB.out)).mono ?_)
          rintro e w2 ⟨rfl, rfl⟩
          go_wp2_with fail
          (with_reducible refine (counts_to ok xs _ ⟨true, ci, co, cs, li⟩ Hc.out _ (HV.out.below HB.out)).mono ?_)
          rintro e wc ⟨rfl, hb⟩
          replace HB := Lib.hid (below_call HB.out hb)
          replace HX := Lib.hid (HX.out.below hb)
          clear hb
          replace HX := Lib.hid (HX.out.below (below_alloc (Below.refl _ wc) (.cells #[.bool true, .int .i64 ci, .int .i64 co, .int .i64 cs, .int .i64 li] 33)))
          replace HB := Lib.hid (below_alloc HB.out (.cells #[.bool true, .int .i64 ci, .int .i64 co, .int .i64 cs, .int .i64 li] 33))
          obtain ⟨x0, x1, x2, x3⟩ := HX.out.four
          go_wp2_with fail
          go_ret
          exact ⟨rfl, HB.out⟩
  · clear gt
    have hw3 : ¬ t < 1 := by omega
    cases fr
    · obtain ⟨rfl, rfl, rfl, rfl⟩ := hcz rfl
      have eC := eql_cnt false 0 0 0 0 false 0 0 0 0 true (by simp)
      clear hcz
      rcases hb1 with ⟨rfl, rfl⟩ | rfl <;> rcases hb2 with ⟨rfl, rfl⟩ | rfl
      · as_aux_lemma =>
          go_enter Try.func6, Try.ntmps6
          dsimp only [List.append]
          go_wp2_with fail
          (with_reducible refine (small_true _).mono ?_)
          rintro e w1 ⟨rfl, hb⟩
          have HB := Lib.hid hb
          clear hb
          go_wp2_with fail
          (with_reducible refine (barrier_to ok xs _ k Hk.out true false true false Hi.out _ (HV.out.below HB.out)).mono ?_)
          rintro e wx ⟨rfl, hb⟩
          replace HB := Lib.hid (below_call HB.out hb)
          clear hb
          replace HB := Lib.hid (below_alloc HB.out (.cells #[.bool true, .bool false, .bool true, .bool false] 27))
          have HX := Lib.hid (blk_new wx #[.bool true, .bool false, .bool true, .bool false] 27)
          go_wp2_with fail
          (with_reducible refine (routes_to ok xs _ k Hk.out _ t lt rt Hlt.out Hrt.out (HV.out.below HB.out)).mono ?_)
          rintro e w2 ⟨rfl, rfl⟩
          go_wp2_with fail
          (with_reducible refine (mode_to ok xs _ k Hk.out _ md Hmd.out (HV.out.below HB.out)).mono ?_)
          rintro e w2 ⟨rfl, rfl⟩
          go_wp2_with fail
          (with_reducible refine (counts_to ok xs _ ⟨false, 0, 0, 0, 0⟩ Hc.out _ (HV.out.below HB.out)).mono ?_)
          rintro e wc ⟨rfl, hb⟩
          replace HB := Lib.hid (below_call HB.out hb)
          replace HX := Lib.hid (HX.out.below hb)
          clear hb
          replace HX := Lib.hid (HX.out.below (below_alloc (Below.refl _ wc) (.cells #[.bool false, .int .i64 0, .int .i64 0, .int .i64 0, .int .i64 0] 33)))
          replace HB := Lib.hid (below_alloc HB.out (.cells #[.bool false, .int .i64 0, .int .i64 0, .int .i64 0, .int .i64 0] 33))
          obtain ⟨x0, x1, x2, x3⟩ := HX.out.four
          go_wp2_with fail
          go_ret
          exact ⟨rfl, HB.out⟩
      · as_aux_lemma =>
          go_enter Try.func6, Try.ntmps6
          dsimp only [List.append]
          go_wp2_with fail
          (with_reducible refine (small_true _).mono ?_)
          rintro e w1 ⟨rfl, hb⟩
          have HB := Lib.hid hb
          clear hb
          go_wp2_with fail
          (with_reducible refine (barrier_to ok xs _ k Hk.out true false false e3 Hi.out _ (HV.out.below HB.out)).mono ?_)
          rintro e wx ⟨rfl, hb⟩
          replace HB := Lib.hid (below_call HB.out hb)
          clear hb
          replace HB := Lib.hid (below_alloc HB.out (.cells #[.bool true, .bool false, .bool false, .bool e3] 27))
          have HX := Lib.hid (blk_new wx #[.bool true, .bool false, .bool false, .bool e3] 27)
          go_wp2_with fail
          (with_reducible refine (routes_to ok xs _ k Hk.out _ t lt rt Hlt.out Hrt.out (HV.out.below HB.out)).mono ?_)
          rintro e w2 ⟨rfl, rfl⟩
          go_wp2_with fail
          (with_reducible refine (mode_to ok xs _ k Hk.out _ md Hmd.out (HV.out.below HB.out)).mono ?_)
          rintro e w2 ⟨rfl, rfl⟩
          go_wp2_with fail
          (with_reducible refine (counts_to ok xs _ ⟨false, 0, 0, 0, 0⟩ Hc.out _ (HV.out.below HB.out)).mono ?_)
          rintro e wc ⟨rfl, hb⟩
          replace HB := Lib.hid (below_call HB.out hb)
          replace HX := Lib.hid (HX.out.below hb)
          clear hb
          replace HX := Lib.hid (HX.out.below (below_alloc (Below.refl _ wc) (.cells #[.bool false, .int .i64 0, .int .i64 0, .int .i64 0, .int .i64 0] 33)))
          replace HB := Lib.hid (below_alloc HB.out (.cells #[.bool false, .int .i64 0, .int .i64 0, .int .i64 0, .int .i64 0] 33))
          obtain ⟨x0, x1, x2, x3⟩ := HX.out.four
          go_wp2_with fail
          go_ret
          exact ⟨rfl, HB.out⟩
      · as_aux_lemma =>
          go_enter Try.func6, Try.ntmps6
          dsimp only [List.append]
          go_wp2_with fail
          (with_reducible refine (small_true _).mono ?_)
          rintro e w1 ⟨rfl, hb⟩
          have HB := Lib.hid hb
          clear hb
          go_wp2_with fail
          (with_reducible refine (barrier_to ok xs _ k Hk.out false e1 true false Hi.out _ (HV.out.below HB.out)).mono ?_)
          rintro e wx ⟨rfl, hb⟩
          replace HB := Lib.hid (below_call HB.out hb)
          clear hb
          replace HB := Lib.hid (below_alloc HB.out (.cells #[.bool false, .bool e1, .bool true, .bool false] 27))
          have HX := Lib.hid (blk_new wx #[.bool false, .bool e1, .bool true, .bool false] 27)
          go_wp2_with fail
          (with_reducible refine (routes_to ok xs _ k Hk.out _ t lt rt Hlt.out Hrt.out (HV.out.below HB.out)).mono ?_)
          rintro e w2 ⟨rfl, rfl⟩
          go_wp2_with fail
          (with_reducible refine (mode_to ok xs _ k Hk.out _ md Hmd.out (HV.out.below HB.out)).mono ?_)
          rintro e w2 ⟨rfl, rfl⟩
          go_wp2_with fail
          (with_reducible refine (counts_to ok xs _ ⟨false, 0, 0, 0, 0⟩ Hc.out _ (HV.out.below HB.out)).mono ?_)
          rintro e wc ⟨rfl, hb⟩
          replace HB := Lib.hid (below_call HB.out hb)
          replace HX := Lib.hid (HX.out.below hb)
          clear hb
          replace HX := Lib.hid (HX.out.below (below_alloc (Below.refl _ wc) (.cells #[.bool false, .int .i64 0, .int .i64 0, .int .i64 0, .int .i64 0] 33)))
          replace HB := Lib.hid (below_alloc HB.out (.cells #[.bool false, .int .i64 0, .int .i64 0, .int .i64 0, .int .i64 0] 33))
          obtain ⟨x0, x1, x2, x3⟩ := HX.out.four
          go_wp2_with fail
          go_ret
          exact ⟨rfl, HB.out⟩
      · as_aux_lemma =>
          go_enter Try.func6, Try.ntmps6
          dsimp only [List.append]
          go_wp2_with fail
          (with_reducible refine (small_true _).mono ?_)
          rintro e w1 ⟨rfl, hb⟩
          have HB := Lib.hid hb
          clear hb
          go_wp2_with fail
          (with_reducible refine (barrier_to ok xs _ k Hk.out false e1 false e3 Hi.out _ (HV.out.below HB.out)).mono ?_)
          rintro e wx ⟨rfl, hb⟩
          replace HB := Lib.hid (below_call HB.out hb)
          clear hb
          replace HB := Lib.hid (below_alloc HB.out (.cells #[.bool false, .bool e1, .bool false, .bool e3] 27))
          have HX := Lib.hid (blk_new wx #[.bool false, .bool e1, .bool false, .bool e3] 27)
          go_wp2_with fail
          (with_reducible refine (routes_to ok xs _ k Hk.out _ t lt rt Hlt.out Hrt.out (HV.out.below HB.out)).mono ?_)
          rintro e w2 ⟨rfl, rfl⟩
          go_wp2_with fail
          (with_reducible refine (mode_to ok xs _ k Hk.out _ md Hmd.out (HV.out.below HB.out)).mono ?_)
          rintro e w2 ⟨rfl, rfl⟩
          go_wp2_with fail
          (with_reducible refine (counts_to ok xs _ ⟨false, 0, 0, 0, 0⟩ Hc.out _ (HV.out.below HB.out)).mono ?_)
          rintro e wc ⟨rfl, hb⟩
          replace HB := Lib.hid (below_call HB.out hb)
          replace HX := Lib.hid (HX.out.below hb)
          clear hb
          replace HX := Lib.hid (HX.out.below (below_alloc (Below.refl _ wc) (.cells #[.bool false, .int .i64 0, .int .i64 0, .int .i64 0, .int .i64 0] 33)))
          replace HB := Lib.hid (below_alloc HB.out (.cells #[.bool false, .int .i64 0, .int .i64 0, .int .i64 0, .int .i64 0] 33))
          obtain ⟨x0, x1, x2, x3⟩ := HX.out.four
          go_wp2_with fail
          go_ret
          exact ⟨rfl, HB.out⟩
    · clear hcz
      rcases hb1 with ⟨rfl, rfl⟩ | rfl <;> rcases hb2 with ⟨rfl, rfl⟩ | rfl
      · as_aux_lemma =>
          go_enter Try.func6, Try.ntmps6
          dsimp only [List.append]
          go_wp2_with fail
          (with_reducible refine (small_true _).mono ?_)
          rintro e w1 ⟨rfl, hb⟩
          have HB := Lib.hid hb
          clear hb
          go_wp2_with fail
          (with_reducible refine (barrier_to ok xs _ k Hk.out true false true false Hi.out _ (HV.out.below HB.out)).mono ?_)
          rintro e wx ⟨rfl, hb⟩
          replace HB := Lib.hid (below_call HB.out hb)
          clear hb
          replace HB := Lib.hid (below_alloc HB.out (.cells #[.bool true, .bool false, .bool true, .bool false] 27))
          have HX := Lib.hid (blk_new wx #[.bool true, .bool false, .bool true, .bool false] 27)
          go_wp2_with fail
          (with_reducible refine (routes_to ok xs _ k Hk.out _ t lt rt Hlt.out Hrt.out (HV.out.below HB.out)).mono ?_)
          rintro e w2 ⟨rfl, rfl⟩
          go_wp2_with fail
          (with_reducible refine (mode_to ok xs _ k Hk.out _ md Hmd.out (HV.out.below HB.out)).mono ?_)
          rintro e w2 ⟨rfl, rfl⟩
          go_wp2_with fail
          (with_reducible refine (counts_to ok xs _ ⟨true, ci, co, cs, li⟩ Hc.out _ (HV.out.below HB.out)).mono ?_)
          rintro e wc ⟨rfl, hb⟩
          replace HB := Lib.hid (below_call HB.out hb)
          replace HX := Lib.hid (HX.out.below hb)
          clear hb
          replace HX := Lib.hid (HX.out.below (below_alloc (Below.refl _ wc) (.cells #[.bool true, .int .i64 ci, .int .i64 co, .int .i64 cs, .int .i64 li] 33)))
          replace HB := Lib.hid (below_alloc HB.out (.cells #[.bool true, .int .i64 ci, .int .i64 co, .int .i64 cs, .int .i64 li] 33))
          obtain ⟨x0, x1, x2, x3⟩ := HX.out.four
          go_wp2_with fail
          go_ret
          exact ⟨rfl, HB.out⟩
      · as_aux_lemma =>
          go_enter Try.func6, Try.ntmps6
          dsimp only [List.append]
          go_wp2_with fail
          (with_reducible refine (small_true _).mono ?_)
          rintro e w1 ⟨rfl, hb⟩
          have HB := Lib.hid hb
          clear hb
          go_wp2_with fail
          (with_reducible refine (barrier_to ok xs _ k Hk.out true false false e3 Hi.out _ (HV.out.below HB.out)).mono ?_)
          rintro e wx ⟨rfl, hb⟩
          replace HB := Lib.hid (below_call HB.out hb)
          clear hb
          replace HB := Lib.hid (below_alloc HB.out (.cells #[.bool true, .bool false, .bool false, .bool e3] 27))
          have HX := Lib.hid (blk_new wx #[.bool true, .bool false, .bool false, .bool e3] 27)
          go_wp2_with fail
          (with_reducible refine (routes_to ok xs _ k Hk.out _ t lt rt Hlt.out Hrt.out (HV.out.below HB.out)).mono ?_)
          rintro e w2 ⟨rfl, rfl⟩
          go_wp2_with fail
          (with_reducible refine (mode_to ok xs _ k Hk.out _ md Hmd.out (HV.out.below HB.out)).mono ?_)
          rintro e w2 ⟨rfl, rfl⟩
          go_wp2_with fail
          (with_reducible refine (counts_to ok xs _ ⟨true, ci, co, cs, li⟩ Hc.out _ (HV.out.below HB.out)).mono ?_)
          rintro e wc ⟨rfl, hb⟩
          replace HB := Lib.hid (below_call HB.out hb)
          replace HX := Lib.hid (HX.out.below hb)
          clear hb
          replace HX := Lib.hid (HX.out.below (below_alloc (Below.refl _ wc) (.cells #[.bool true, .int .i64 ci, .int .i64 co, .int .i64 cs, .int .i64 li] 33)))
          replace HB := Lib.hid (below_alloc HB.out (.cells #[.bool true, .int .i64 ci, .int .i64 co, .int .i64 cs, .int .i64 li] 33))
          obtain ⟨x0, x1, x2, x3⟩ := HX.out.four
          go_wp2_with fail
          go_ret
          exact ⟨rfl, HB.out⟩
      · as_aux_lemma =>
          go_enter Try.func6, Try.ntmps6
          dsimp only [List.append]
          go_wp2_with fail
          (with_reducible refine (small_true _).mono ?_)
          rintro e w1 ⟨rfl, hb⟩
          have HB := Lib.hid hb
          clear hb
          go_wp2_with fail
          (with_reducible refine (barrier_to ok xs _ k Hk.out false e1 true false Hi.out _ (HV.out.below HB.out)).mono ?_)
          rintro e wx ⟨rfl, hb⟩
          replace HB := Lib.hid (below_call HB.out hb)
          clear hb
          replace HB := Lib.hid (below_alloc HB.out (.cells #[.bool false, .bool e1, .bool true, .bool false] 27))
          have HX := Lib.hid (blk_new wx #[.bool false, .bool e1, .bool true, .bool false] 27)
          go_wp2_with fail
          (with_reducible refine (routes_to ok xs _ k Hk.out _ t lt rt Hlt.out Hrt.out (HV.out.below HB.out)).mono ?_)
          rintro e w2 ⟨rfl, rfl⟩
          go_wp2_with fail
          (with_reducible refine (mode_to ok xs _ k Hk.out _ md Hmd.out (HV.out.below HB.out)).mono ?_)
          rintro e w2 ⟨rfl, rfl⟩
          go_wp2_with fail
          (with_reducible refine (counts_to ok xs _ ⟨true, ci, co, cs, li⟩ Hc.out _ (HV.out.below HB.out)).mono ?_)
          rintro e wc ⟨rfl, hb⟩
          replace HB := Lib.hid (below_call HB.out hb)
          replace HX := Lib.hid (HX.out.below hb)
          clear hb
          replace HX := Lib.hid (HX.out.below (below_alloc (Below.refl _ wc) (.cells #[.bool true, .int .i64 ci, .int .i64 co, .int .i64 cs, .int .i64 li] 33)))
          replace HB := Lib.hid (below_alloc HB.out (.cells #[.bool true, .int .i64 ci, .int .i64 co, .int .i64 cs, .int .i64 li] 33))
          obtain ⟨x0, x1, x2, x3⟩ := HX.out.four
          go_wp2_with fail
          go_ret
          exact ⟨rfl, HB.out⟩
      · as_aux_lemma =>
          go_enter Try.func6, Try.ntmps6
          dsimp only [List.append]
          go_wp2_with fail
          (with_reducible refine (small_true _).mono ?_)
          rintro e w1 ⟨rfl, hb⟩
          have HB := Lib.hid hb
          clear hb
          go_wp2_with fail
          (with_reducible refine (barrier_to ok xs _ k Hk.out false e1 false e3 Hi.out _ (HV.out.below HB.out)).mono ?_)
          rintro e wx ⟨rfl, hb⟩
          replace HB := Lib.hid (below_call HB.out hb)
          clear hb
          replace HB := Lib.hid (below_alloc HB.out (.cells #[.bool false, .bool e1, .bool false, .bool e3] 27))
          have HX := Lib.hid (blk_new wx #[.bool false, .bool e1, .bool false, .bool e3] 27)
          go_wp2_with fail
          (with_reducible refine (routes_to ok xs _ k Hk.out _ t lt rt Hlt.out Hrt.out (HV.out.below HB.out)).mono ?_)
          rintro e w2 ⟨rfl, rfl⟩
          go_wp2_with fail
          (with_reducible refine (mode_to ok xs _ k Hk.out _ md Hmd.out (HV.out.below HB.out)).mono ?_)
          rintro e w2 ⟨rfl, rfl⟩
          go_wp2_with fail
          (with_reducible refine (counts_to ok xs _ ⟨true, ci, co, cs, li⟩ Hc.out _ (HV.out.below HB.out)).mono ?_)
          rintro e wc ⟨rfl, hb⟩
          replace HB := Lib.hid (below_call HB.out hb)
          replace HX := Lib.hid (HX.out.below hb)
          clear hb
          replace HX := Lib.hid (HX.out.below (below_alloc (Below.refl _ wc) (.cells #[.bool true, .int .i64 ci, .int .i64 co, .int .i64 cs, .int .i64 li] 33)))
          replace HB := Lib.hid (below_alloc HB.out (.cells #[.bool true, .int .i64 ci, .int .i64 co, .int .i64 cs, .int .i64 li] 33))
          obtain ⟨x0, x1, x2, x3⟩ := HX.out.four
          go_wp2_with fail
          go_ret
          exact ⟨rfl, HB.out⟩
  · have hs : (rt / 2 ^ t.toNat == 0) = true := by
      have := gt ht ht'
      rw [Int.ediv_eq_zero_of_lt g2 this]
      rfl
    have hw : 0 ≤ t := by omega
    have hw2 : t < 64 := by omega
    have hw3 : ¬ t < 1 := by omega
    have hw4 : ¬ 8 < t := by omega
    clear gt
    cases fr
    · obtain ⟨rfl, rfl, rfl, rfl⟩ := hcz rfl
      have eC := eql_cnt false 0 0 0 0 false 0 0 0 0 true (by simp)
      clear hcz
      rcases hb1 with ⟨rfl, rfl⟩ | rfl <;> rcases hb2 with ⟨rfl, rfl⟩ | rfl
      · as_aux_lemma =>
          go_enter Try.func6, Try.ntmps6
          dsimp only [List.append]
          go_wp2_with fail
          (with_reducible refine (small_true _).mono ?_)
          rintro e w1 ⟨rfl, hb⟩
          have HB := Lib.hid hb
          clear hb
          go_wp2_with fail
          (with_reducible refine (barrier_to ok xs _ k Hk.out true false true false Hi.out _ (HV.out.below HB.out)).mono ?_)
          rintro e wx ⟨rfl, hb⟩
          replace HB := Lib.hid (below_call HB.out hb)
          clear hb
          replace HB := Lib.hid (below_alloc HB.out (.cells #[.bool true, .bool false, .bool true, .bool false] 27))
          have HX := Lib.hid (blk_new wx #[.bool true, .bool false, .bool true, .bool false] 27)
          go_wp2_with fail
          (with_reducible refine (routes_to ok xs _ k Hk.out _ t lt rt Hlt.out Hrt.out (HV.out.below HB.out)).mono ?_)
          rintro e w2 ⟨rfl, rfl⟩
          go_wp2_with fail
          (with_reducible refine (mode_to ok xs _ k Hk.out _ md Hmd.out (HV.out.below HB.out)).mono ?_)
          rintro e w2 ⟨rfl, rfl⟩
          go_wp2_with fail
          (with_reducible refine (counts_to ok xs _ ⟨false, 0, 0, 0, 0⟩ Hc.out _ (HV.out.below HB.out)).mono ?_)
          rintro e wc ⟨rfl, hb⟩
          replace HB := Lib.hid (below_call HB.out hb)
          replace HX := Lib.hid (HX.out.below hb)
          clear hb
          replace HX := Lib.hid (HX.out.below (below_alloc (Below.refl _ wc) (.cells #[.bool false, .int .i64 0, .int .i64 0, .int .i64 0, .int .i64 0] 33)))
          replace HB := Lib.hid (below_alloc HB.out (.cells #[.bool false, .int .i64 0, .int .i64 0, .int .i64 0, .int .i64 0] 33))
          obtain ⟨x0, x1, x2, x3⟩ := HX.out.four
          go_wp2_with fail
          go_ret
          exact ⟨rfl, HB.out⟩
      · as_aux_lemma =>
          go_enter Try.func6, Try.ntmps6
          dsimp only [List.append]
          go_wp2_with fail
          (with_reducible refine (small_true _).mono ?_)
          rintro e w1 ⟨rfl, hb⟩
          have HB := Lib.hid hb
          clear hb
          go_wp2_with fail
          (with_reducible refine (barrier_to ok xs _ k Hk.out true false false e3 Hi.out _ (HV.out.below HB.out)).mono ?_)
          rintro e wx ⟨rfl, hb⟩
          replace HB := Lib.hid (below_call HB.out hb)
          clear hb
          replace HB := Lib.hid (below_alloc HB.out (.cells #[.bool true, .bool false, .bool false, .bool e3] 27))
          have HX := Lib.hid (blk_new wx #[.bool true, .bool false, .bool false, .bool e3] 27)
          go_wp2_with fail
          (with_reducible refine (routes_to ok xs _ k Hk.out _ t lt rt Hlt.out Hrt.out (HV.out.below HB.out)).mono ?_)
          rintro e w2 ⟨rfl, rfl⟩
          go_wp2_with fail
          (with_reducible refine (mode_to ok xs _ k Hk.out _ md Hmd.out (HV.out.below HB.out)).mono ?_)
          rintro e w2 ⟨rfl, rfl⟩
          go_wp2_with fail
          (with_reducible refine (counts_to ok xs _ ⟨false, 0, 0, 0, 0⟩ Hc.out _ (HV.out.below HB.out)).mono ?_)
          rintro e wc ⟨rfl, hb⟩
          replace HB := Lib.hid (below_call HB.out hb)
          replace HX := Lib.hid (HX.out.below hb)
          clear hb
          replace HX := Lib.hid (HX.out.below (below_alloc (Below.refl _ wc) (.cells #[.bool false, .int .i64 0, .int .i64 0, .int .i64 0, .int .i64 0] 33)))
          replace HB := Lib.hid (below_alloc HB.out (.cells #[.bool false, .int .i64 0, .int .i64 0, .int .i64 0, .int .i64 0] 33))
          obtain ⟨x0, x1, x2, x3⟩ := HX.out.four
          go_wp2_with fail
          go_ret
          exact ⟨rfl, HB.out⟩
      · as_aux_lemma =>
          go_enter Try.func6, Try.ntmps6
          dsimp only [List.append]
          go_wp2_with fail
          (with_reducible refine (small_true _).mono ?_)
          rintro e w1 ⟨rfl, hb⟩
          have HB := Lib.hid hb
          clear hb
          go_wp2_with fail
          (with_reducible refine (barrier_to ok xs _ k Hk.out false e1 true false Hi.out _ (HV.out.below HB.out)).mono ?_)
          rintro e wx ⟨rfl, hb⟩
          replace HB := Lib.hid (below_call HB.out hb)
          clear hb
          replace HB := Lib.hid (below_alloc HB.out (.cells #[.bool false, .bool e1, .bool true, .bool false] 27))
          have HX := Lib.hid (blk_new wx #[.bool false, .bool e1, .bool true, .bool false] 27)
          go_wp2_with fail
          (with_reducible refine (routes_to ok xs _ k Hk.out _ t lt rt Hlt.out Hrt.out (HV.out.below HB.out)).mono ?_)
          rintro e w2 ⟨rfl, rfl⟩
          go_wp2_with fail
          (with_reducible refine (mode_to ok xs _ k Hk.out _ md Hmd.out (HV.out.below HB.out)).mono ?_)
          rintro e w2 ⟨rfl, rfl⟩
          go_wp2_with fail
          (with_reducible refine (counts_to ok xs _ ⟨false, 0, 0, 0, 0⟩ Hc.out _ (HV.out.below HB.out)).mono ?_)
          rintro e wc ⟨rfl, hb⟩
          replace HB := Lib.hid (below_call HB.out hb)
          replace HX := Lib.hid (HX.out.below hb)
          clear hb
          replace HX := Lib.hid (HX.out.below (below_alloc (Below.refl _ wc) (.cells #[.bool false, .int .i64 0, .int .i64 0, .int .i64 0, .int .i64 0] 33)))
          replace HB := Lib.hid (below_alloc HB.out (.cells #[.bool false, .int .i64 0, .int .i64 0, .int .i64 0, .int .i64 0] 33))
          obtain ⟨x0, x1, x2, x3⟩ := HX.out.four
          go_wp2_with fail
          go_ret
          exact ⟨rfl, HB.out⟩
      · as_aux_lemma =>
          go_enter Try.func6, Try.ntmps6
          dsimp only [List.append]
          go_wp2_with fail
          (with_reducible refine (small_true _).mono ?_)
          rintro e w1 ⟨rfl, hb⟩
          have HB := Lib.hid hb
          clear hb
          go_wp2_with fail
          (with_reducible refine (barrier_to ok xs _ k Hk.out false e1 false e3 Hi.out _ (HV.out.below HB.out)).mono ?_)
          rintro e wx ⟨rfl, hb⟩
          replace HB := Lib.hid (below_call HB.out hb)
          clear hb
          replace HB := Lib.hid (below_alloc HB.out (.cells #[.bool false, .bool e1, .bool false, .bool e3] 27))
          have HX := Lib.hid (blk_new wx #[.bool false, .bool e1, .bool false, .bool e3] 27)
          go_wp2_with fail
          (with_reducible refine (routes_to ok xs _ k Hk.out _ t lt rt Hlt.out Hrt.out (HV.out.below HB.out)).mono ?_)
          rintro e w2 ⟨rfl, rfl⟩
          go_wp2_with fail
          (with_reducible refine (mode_to ok xs _ k Hk.out _ md Hmd.out (HV.out.below HB.out)).mono ?_)
          rintro e w2 ⟨rfl, rfl⟩
          go_wp2_with fail
          (with_reducible refine (counts_to ok xs _ ⟨false, 0, 0, 0, 0⟩ Hc.out _ (HV.out.below HB.out)).mono ?_)
          rintro e wc ⟨rfl, hb⟩
          replace HB := Lib.hid (below_call HB.out hb)
          replace HX := Lib.hid (HX.out.below hb)
          clear hb
          replace HX := Lib.hid (HX.out.below (below_alloc (Below.refl _ wc) (.cells #[.bool false, .int .i64 0, .int .i64 0, .int .i64 0, .int .i64 0] 33)))
          replace HB := Lib.hid (below_alloc HB.out (.cells #[.bool false, .int .i64 0, .int .i64 0, .int .i64 0, .int .i64 0] 33))
          obtain ⟨x0, x1, x2, x3⟩ := HX.out.four
          go_wp2_with fail
          go_ret
          exact ⟨rfl, HB.out⟩
    · clear hcz
      rcases hb1 with ⟨rfl, rfl⟩ | rfl <;> rcases hb2 with ⟨rfl, rfl⟩ | rfl
      · as_aux_lemma =>
          go_enter Try.func6, Try.ntmps6
          dsimp only [List.append]
          go_wp2_with fail
          (with_reducible refine (small_true _).mono ?_)
          rintro e w1 ⟨rfl, hb⟩
          have HB := Lib.hid hb
          clear hb
          go_wp2_with fail
          (with_reducible refine (barrier_to ok xs _ k Hk.out true false true false Hi.out _ (HV.out.below HB.out)).mono ?_)
          rintro e wx ⟨rfl, hb⟩
          replace HB := Lib.hid (below_call HB.out hb)
          clear hb
          replace HB := Lib.hid (below_alloc HB.out (.cells #[.bool true, .bool false, .bool true, .bool false] 27))
          have HX := Lib.hid (blk_new wx #[.bool true, .bool false, .bool true, .bool false] 27)
          go_wp2_with fail
          (with_reducible refine (routes_to ok xs _ k Hk.out _ t lt rt Hlt.out Hrt.out (HV.out.below HB.out)).mono ?_)
          rintro e w2 ⟨rfl, rfl⟩
          go_wp2_with fail
          (with_reducible refine (mode_to ok xs _ k Hk.out _ md Hmd.out (HV.out.below HB.out)).mono ?_)
          rintro e w2 ⟨rfl, rfl⟩
          go_wp2_with fail
          (with_reducible refine (counts_to ok xs _ ⟨true, ci, co, cs, li⟩ Hc.out _ (HV.out.below HB.out)).mono ?_)
          rintro e wc ⟨rfl, hb⟩
          replace HB := Lib.hid (below_call HB.out hb)
          replace HX := Lib.hid (HX.out.below hb)
          clear hb
          replace HX := Lib.hid (HX.out.below (below_alloc (Below.refl _ wc) (.cells #[.bool true, .int .i64 ci, .int .i64 co, .int .i64 cs, .int .i64 li] 33)))
          replace HB := Lib.hid (below_alloc HB.out (.cells #[.bool true, .int .i64 ci, .int .i64 co, .int .i64 cs, .int .i64 li] 33))
          obtain ⟨x0, x1, x2, x3⟩ := HX.out.four
          go_wp2_with fail
          go_ret
          exact ⟨rfl, HB.out⟩
      · as_aux_lemma =>
          go_enter Try.func6, Try.ntmps6
          dsimp only [List.append]
          go_wp2_with fail
          (with_reducible refine (small_true _).mono ?_)
          rintro e w1 ⟨rfl, hb⟩
          have HB := Lib.hid hb
          clear hb
          go_wp2_with fail
          (with_reducible refine (barrier_to ok xs _ k Hk.out true false false e3 Hi.out _ (HV.out.below HB.out)).mono ?_)
          rintro e wx ⟨rfl, hb⟩
          replace HB := Lib.hid (below_call HB.out hb)
          clear hb
          replace HB := Lib.hid (below_alloc HB.out (.cells #[.bool true, .bool false, .bool false, .bool e3] 27))
          have HX := Lib.hid (blk_new wx #[.bool true, .bool false, .bool false, .bool e3] 27)
          go_wp2_with fail
          (with_reducible refine (routes_to ok xs _ k Hk.out _ t lt rt Hlt.out Hrt.out (HV.out.below HB.out)).mono ?_)
          rintro e w2 ⟨rfl, rfl⟩
          go_wp2_with fail
          (with_reducible refine (mode_to ok xs _ k Hk.out _ md Hmd.out (HV.out.below HB.out)).mono ?_)
          rintro e w2 ⟨rfl, rfl⟩
          go_wp2_with fail
          (with_reducible refine (counts_to ok xs _ ⟨true, ci, co, cs, li⟩ Hc.out _ (HV.out.below HB.out)).mono ?_)
          rintro e wc ⟨rfl, hb⟩
          replace HB := Lib.hid (below_call HB.out hb)
          replace HX := Lib.hid (HX.out.below hb)
          clear hb
          replace HX := Lib.hid (HX.out.below (below_alloc (Below.refl _ wc) (.cells #[.bool true, .int .i64 ci, .int .i64 co, .int .i64 cs, .int .i64 li] 33)))
          replace HB := Lib.hid (below_alloc HB.out (.cells #[.bool true, .int .i64 ci, .int .i64 co, .int .i64 cs, .int .i64 li] 33))
          obtain ⟨x0, x1, x2, x3⟩ := HX.out.four
          go_wp2_with fail
          go_ret
          exact ⟨rfl, HB.out⟩
      · as_aux_lemma =>
          go_enter Try.func6, Try.ntmps6
          dsimp only [List.append]
          go_wp2_with fail
          (with_reducible refine (small_true _).mono ?_)
          rintro e w1 ⟨rfl, hb⟩
          have HB := Lib.hid hb
          clear hb
          go_wp2_with fail
          (with_reducible refine (barrier_to ok xs _ k Hk.out false e1 true false Hi.out _ (HV.out.below HB.out)).mono ?_)
          rintro e wx ⟨rfl, hb⟩
          replace HB := Lib.hid (below_call HB.out hb)
          clear hb
          replace HB := Lib.hid (below_alloc HB.out (.cells #[.bool false, .bool e1, .bool true, .bool false] 27))
          have HX := Lib.hid (blk_new wx #[.bool false, .bool e1, .bool true, .bool false] 27)
          go_wp2_with fail
          (with_reducible refine (routes_to ok xs _ k Hk.out _ t lt rt Hlt.out Hrt.out (HV.out.below HB.out)).mono ?_)
          rintro e w2 ⟨rfl, rfl⟩
          go_wp2_with fail
          (with_reducible refine (mode_to ok xs _ k Hk.out _ md Hmd.out (HV.out.below HB.out)).mono ?_)
          rintro e w2 ⟨rfl, rfl⟩
          go_wp2_with fail
          (with_reducible refine (counts_to ok xs _ ⟨true, ci, co, cs, li⟩ Hc.out _ (HV.out.below HB.out)).mono ?_)
          rintro e wc ⟨rfl, hb⟩
          replace HB := Lib.hid (below_call HB.out hb)
          replace HX := Lib.hid (HX.out.below hb)
          clear hb
          replace HX := Lib.hid (HX.out.below (below_alloc (Below.refl _ wc) (.cells #[.bool true, .int .i64 ci, .int .i64 co, .int .i64 cs, .int .i64 li] 33)))
          replace HB := Lib.hid (below_alloc HB.out (.cells #[.bool true, .int .i64 ci, .int .i64 co, .int .i64 cs, .int .i64 li] 33))
          obtain ⟨x0, x1, x2, x3⟩ := HX.out.four
          go_wp2_with fail
          go_ret
          exact ⟨rfl, HB.out⟩
      · as_aux_lemma =>
          go_enter Try.func6, Try.ntmps6
          dsimp only [List.append]
          go_wp2_with fail
          (with_reducible refine (small_true _).mono ?_)
          rintro e w1 ⟨rfl, hb⟩
          have HB := Lib.hid hb
          clear hb
          go_wp2_with fail
          (with_reducible refine (barrier_to ok xs _ k Hk.out false e1 false e3 Hi.out _ (HV.out.below HB.out)).mono ?_)
          rintro e wx ⟨rfl, hb⟩
          replace HB := Lib.hid (below_call HB.out hb)
          clear hb
          replace HB := Lib.hid (below_alloc HB.out (.cells #[.bool false, .bool e1, .bool false, .bool e3] 27))
          have HX := Lib.hid (blk_new wx #[.bool false, .bool e1, .bool false, .bool e3] 27)
          go_wp2_with fail
          (with_reducible refine (routes_to ok xs _ k Hk.out _ t lt rt Hlt.out Hrt.out (HV.out.below HB.out)).mono ?_)
          rintro e w2 ⟨rfl, rfl⟩
          go_wp2_with fail
          (with_reducible refine (mode_to ok xs _ k Hk.out _ md Hmd.out (HV.out.below HB.out)).mono ?_)
          rintro e w2 ⟨rfl, rfl⟩
          go_wp2_with fail
          (with_reducible refine (counts_to ok xs _ ⟨true, ci, co, cs, li⟩ Hc.out _ (HV.out.below HB.out)).mono ?_)
          rintro e wc ⟨rfl, hb⟩
          replace HB := Lib.hid (below_call HB.out hb)
          replace HX := Lib.hid (HX.out.below hb)
          clear hb
          replace HX := Lib.hid (HX.out.below (below_alloc (Below.refl _ wc) (.cells #[.bool true, .int .i64 ci, .int .i64 co, .int .i64 cs, .int .i64 li] 33)))
          replace HB := Lib.hid (below_alloc HB.out (.cells #[.bool true, .int .i64 ci, .int .i64 co, .int .i64 cs, .int .i64 li] 33))
          obtain ⟨x0, x1, x2, x3⟩ := HX.out.four
          go_wp2_with fail
          go_ret
          exact ⟨rfl, HB.out⟩
end Go.Proofs.Ytnbhjnbdnngiiaa
