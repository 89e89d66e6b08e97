/-
  The document's answers of one byte, by contracts.
-/
import Derived.Test.YtolfdfbhignniaaDoorBase

namespace Go.Proofs.YtolfdfbhignniaaDoor
open Go.RowKit

theorem rlim_next (j : Nat) (h : j < 8) : rlim ((j : Int) + 1) = 2 * rlim (j : Int) ∧ 1 ≤ rlim (j : Int) ∧ rlim (j : Int) ≤ 128 := by
  rcases (show j = 0 ∨ j = 1 ∨ j = 2 ∨ j = 3 ∨ j = 4 ∨ j = 5 ∨ j = 6 ∨ j = 7 by omega) with rfl | rfl | rfl | rfl | rfl | rfl | rfl | rfl <;> decide
theorem one_to (ok : Bool) (xs : List (BitVec 8)) (v : Value) (k : Int) (hk : sone ok xs = k) (w : World) (h : Byts w v xs) :
    Calls Tryd.prog 62 #[v, .bool ok] w fun e w' => e = .returned (.int .i64 k) ∧ w' = w := by
  rcases h.ways hk with ⟨rfl, rfl⟩ | ⟨rfl, rfl, a, n, c, rfl, hn⟩ | ⟨rfl, h0, h1, g, o, c, rfl, hc⟩
  · clear hk h
    go_enter Tryd.func62, Tryd.ntmps62
    go_wp2_with fail
    go_ret
    exact ⟨rfl, rfl⟩
  · clear hk h
    go_enter Tryd.func62, Tryd.ntmps62
    go_wp2_with fail
    go_ret
    exact ⟨rfl, rfl⟩
  · have hw : IntKind.i64.wrap k = k := by rw [IntKind.wrap_i64]; omega
    clear hk h h0 h1
    go_enter Tryd.func62, Tryd.ntmps62
    go_wp2_with fail
    go_ret
    exact ⟨rfl, rfl⟩
theorem rlamps_to (ok : Bool) (xs : List (BitVec 8)) (v : Value) (k : Int) (hk : sone ok xs = k) (w : World) (r : Bool) (hr : decide (k = 1) = r) (h : Byts w v xs) :
    Calls Tryd.prog 39 #[v, .bool ok] w fun e w' => e = .returned (.bool r) ∧ w' = w := by
  have HO := Lib.hid (one_to ok xs v k hk w h)
  have HR := Lib.hid (show (k == 1) = r by rw [← hr]; rfl)
  clear hk hr h
  go_enter Tryd.func39, Tryd.ntmps39
  go_wp2_with fail
  (with_reducible refine HO.out.mono ?_)
  rintro e w1 ⟨rfl, rfl⟩
  go_wp2_with fail
  go_ret
  exact ⟨congrArg (fun b => Ending.returned (Value.bool b)) HR.out, rfl⟩
theorem robst_to (ok : Bool) (xs : List (BitVec 8)) (v : Value) (k : Int) (hk : sone ok xs = k) (w : World) (r : Bool) (hr : decide (k ≠ 0) = r) (h : Byts w v xs) :
    Calls Tryd.prog 40 #[v, .bool ok] w fun e w' => e = .returned (.bool r) ∧ w' = w := by
  have HO := Lib.hid (one_to ok xs v k hk w h)
  have HR := Lib.hid (show (k != 0) = r by rw [← hr, Bool.eq_iff_iff]; simp)
  clear hk hr h
  go_enter Tryd.func40, Tryd.ntmps40
  go_wp2_with fail
  (with_reducible refine HO.out.mono ?_)
  rintro e w1 ⟨rfl, rfl⟩
  go_wp2_with fail
  go_ret
  exact ⟨congrArg (fun b => Ending.returned (Value.bool b)) HR.out, rfl⟩
theorem rmode_to (ok : Bool) (xs : List (BitVec 8)) (v : Value) (k : Int) (hk : sone ok xs = k) (w : World) (r : Int) (hr : (if 0 ≤ k ∧ k < 3 then k else 1) = r) (h : Byts w v xs) :
    Calls Tryd.prog 41 #[v, .bool ok] w fun e w' => e = .returned (.int .i64 r) ∧ w' = w := by
  have HO := Lib.hid (one_to ok xs v k hk w h)
  rcases (show k < 0 ∨ 2 < k ∨ (0 ≤ k ∧ k < 3) by omega) with h0 | h0 | h0
  · obtain rfl : r = 1 := by rw [← hr, if_neg (by omega)]
    clear hk hr h
    go_enter Tryd.func41, Tryd.ntmps41
    go_wp2_with fail
    (with_reducible refine HO.out.mono ?_)
    rintro e w1 ⟨rfl, rfl⟩
    go_wp2_with fail
    go_ret
    exact ⟨rfl, rfl⟩
  · obtain rfl : r = 1 := by rw [← hr, if_neg (by omega)]
    have h1 : ¬ k < 0 := by omega
    clear hk hr h
    go_enter Tryd.func41, Tryd.ntmps41
    go_wp2_with fail
    (with_reducible refine HO.out.mono ?_)
    rintro e w1 ⟨rfl, rfl⟩
    go_wp2_with fail
    go_ret
    exact ⟨rfl, rfl⟩
  · obtain rfl : k = r := by rw [← hr, if_pos h0]
    have h1 : ¬ k < 0 := by omega
    have h2 : ¬ 2 < k := by omega
    clear hk hr h h0
    go_enter Tryd.func41, Tryd.ntmps41
    go_wp2_with fail
    (with_reducible refine HO.out.mono ?_)
    rintro e w1 ⟨rfl, rfl⟩
    go_wp2_with fail
    go_ret
    exact ⟨rfl, rfl⟩
theorem rpower_to (ok : Bool) (xs : List (BitVec 8)) (v : Value) (k : Int) (hk : sone ok xs = k) (w : World) (a b : Bool) (ha : bt (onl k 4) 1 = a) (hb : bt (onl k 4) 2 = b) (h : Byts w v xs) :
    Calls Tryd.prog 37 #[v, .bool ok] w fun e w' => e = .returned (.tuple #[.bool a, .bool b]) ∧ w' = w := by
  have HO := Lib.hid (one_to ok xs v k hk w h)
  rcases (show k < 0 ∨ 3 < k ∨ k = 0 ∨ k = 1 ∨ k = 2 ∨ k = 3 by omega) with h0 | h0 | rfl | rfl | rfl | rfl
  · obtain rfl : a = false := by rw [← ha]; unfold onl; rw [if_neg (by omega)]; decide
    obtain rfl : b = false := by rw [← hb]; unfold onl; rw [if_neg (by omega)]; decide
    clear hk h ha hb
    go_enter Tryd.func37, Tryd.ntmps37
    go_wp2_with fail
    (with_reducible refine HO.out.mono ?_)
    rintro e w1 ⟨rfl, rfl⟩
    go_wp2_with fail
    go_ret2
    exact ⟨rfl, rfl⟩
  · obtain rfl : a = false := by rw [← ha]; unfold onl; rw [if_neg (by omega)]; decide
    obtain rfl : b = false := by rw [← hb]; unfold onl; rw [if_neg (by omega)]; decide
    have h1 : ¬ k < 0 := by omega
    clear hk h ha hb
    go_enter Tryd.func37, Tryd.ntmps37
    go_wp2_with fail
    (with_reducible refine HO.out.mono ?_)
    rintro e w1 ⟨rfl, rfl⟩
    go_wp2_with fail
    go_ret2
    exact ⟨rfl, rfl⟩
  · obtain rfl : a = false := by rw [← ha]; decide
    obtain rfl : b = false := by rw [← hb]; decide
    clear hk h ha hb
    go_enter Tryd.func37, Tryd.ntmps37
    go_wp2_with fail
    (with_reducible refine HO.out.mono ?_)
    rintro e w1 ⟨rfl, rfl⟩
    go_wp2_with fail
    go_ret2
    exact ⟨rfl, rfl⟩
  · obtain rfl : a = true := by rw [← ha]; decide
    obtain rfl : b = false := by rw [← hb]; decide
    clear hk h ha hb
    go_enter Tryd.func37, Tryd.ntmps37
    go_wp2_with fail
    (with_reducible refine HO.out.mono ?_)
    rintro e w1 ⟨rfl, rfl⟩
    go_wp2_with fail
    go_ret2
    exact ⟨rfl, rfl⟩
  · obtain rfl : a = false := by rw [← ha]; decide
    obtain rfl : b = true := by rw [← hb]; decide
    clear hk h ha hb
    go_enter Tryd.func37, Tryd.ntmps37
    go_wp2_with fail
    (with_reducible refine HO.out.mono ?_)
    rintro e w1 ⟨rfl, rfl⟩
    go_wp2_with fail
    go_ret2
    exact ⟨rfl, rfl⟩
  · obtain rfl : a = true := by rw [← ha]; decide
    obtain rfl : b = true := by rw [← hb]; decide
    clear hk h ha hb
    go_enter Tryd.func37, Tryd.ntmps37
    go_wp2_with fail
    (with_reducible refine HO.out.mono ?_)
    rintro e w1 ⟨rfl, rfl⟩
    go_wp2_with fail
    go_ret2
    exact ⟨rfl, rfl⟩
theorem rroutes_to (ok : Bool) (xs : List (BitVec 8)) (v : Value) (k : Int) (hk : sone ok xs = k) (w : World) (t l r : Int) (hl : rlim t = l) (hr : onl k l = r) (h : Byts w v xs) :
    Calls Tryd.prog 42 #[v, .bool ok, .int .i64 t] w fun e w' => e = .returned (.int .i64 r) ∧ w' = w := by
  have HO := Lib.hid (one_to ok xs v k hk w h)
  have hk1 := sone_range ok xs
  rw [hk] at hk1
  obtain ⟨n, hn⟩ : ∃ n : Nat, n ≤ 8 ∧ rlim (n : Int) = l ∧ ∀ j : Nat, j < n ↔ ((j : Int) < t ∧ j < 8) := by
    rcases (show t ≤ 0 ∨ 8 ≤ t ∨ (0 < t ∧ t < 8) by omega) with h | h | h
    · exact ⟨0, by omega, by rw [← hl]; show (1 : Int) = rlim t; unfold rlim; rw [if_pos h], fun j => by omega⟩
    · exact ⟨8, by omega, by rw [← hl]; show (256 : Int) = rlim t; unfold rlim; rw [if_neg (by omega), if_pos h], fun j => by omega⟩
    · exact ⟨t.toNat, by omega, by rw [← hl, Int.toNat_of_nonneg (by omega)], fun j => by omega⟩
  obtain ⟨hn8, hln, hnt⟩ := hn
  have HN := Lib.hid hnt
  have HR := Lib.hid hr
  have HL := Lib.hid hln
  clear hk hr h hl hnt hln
  go_enter Tryd.func42, Tryd.ntmps42
  go_wp2_with fail
  (with_reducible refine HO.out.mono ?_)
  rintro e w1 ⟨rfl, rfl⟩
  clear HO
  go_wp2_with fail
  go_loopw [8, 9] (fun m i wr => ∃ j : Nat, j ≤ n ∧ m = .int .i64 (rlim (j : Int)) ∧ i = .int .i64 (j : Int) ∧ wr = w1) (fun _ i _ => (8 - intOf i).toNat)
  case atStart => exact ⟨0, by omega, rfl, rfl, rfl⟩
  case round =>
    obtain ⟨j, hj, rfl, rfl, rfl⟩ := hrel
    by_cases hlt : j < n
    · have HX := Lib.hid (rlim_next j (by omega))
      obtain ⟨h1, h2⟩ := (HN.out j).1 hlt
      obtain ⟨m, hm⟩ : ∃ m, rlim (j : Int) = m := ⟨_, rfl⟩
      have hw : IntKind.i64.wrap (2 * m) = 2 * m := by
        have := HX.out
        rw [hm] at this
        rw [IntKind.wrap_i64]
        omega
      have hw2 : IntKind.i64.wrap ((j : Int) + 1) = (j : Int) + 1 := by rw [IntKind.wrap_i64]; omega
      rw [hm]
      have HM := Lib.hid hm
      clear hm
      go_wp2_with fail
      go_roundw
      case rel =>
        refine ⟨j + 1, by omega, ?_⟩
        have e := HX.out.1
        rw [HM.out] at e
        simp [← e]
      case measure => simp [intOf]; omega
    · obtain rfl : j = n := by omega
      have hx : (¬ t ≤ 8 ∧ ¬ (j : Int) < 8) ∨ (t ≤ 8 ∧ ¬ (j : Int) < t) := by
        have := HN.out j
        omega
      clear hlt hj HN
      rw [HL.out]
      have HRR := HR.out
      clear HL HR
      unfold onl at HRR
      rcases (show k < 0 ∨ (0 ≤ k ∧ k < l) ∨ (0 ≤ k ∧ ¬ k < l) by omega) with g | ⟨g, g1⟩ | ⟨g, g1⟩
      · rw [if_neg (by omega)] at HRR
        subst HRR
        rcases hx with ⟨y1, y2⟩ | ⟨y1, y2⟩
        · go_wp2_with fail
          go_ret
          exact ⟨rfl, rfl⟩
        · go_wp2_with fail
          go_ret
          exact ⟨rfl, rfl⟩
      · rw [if_pos (by omega)] at HRR
        subst HRR
        have g0 : ¬ k < 0 := by omega
        have g2 : ¬ l ≤ k := by omega
        rcases hx with ⟨y1, y2⟩ | ⟨y1, y2⟩
        · go_wp2_with fail
          go_ret
          exact ⟨rfl, rfl⟩
        · go_wp2_with fail
          go_ret
          exact ⟨rfl, rfl⟩
      · rw [if_neg (by omega)] at HRR
        subst HRR
        have g0 : ¬ k < 0 := by omega
        have g2 : l ≤ k := by omega
        rcases hx with ⟨y1, y2⟩ | ⟨y1, y2⟩
        · go_wp2_with fail
          go_ret
          exact ⟨rfl, rfl⟩
        · go_wp2_with fail
          go_ret
          exact ⟨rfl, rfl⟩
set_option maxHeartbeats 4000000 in
theorem rbarrier_to (ok : Bool) (xs : List (BitVec 8)) (v : Value) (k : Int) (hk : sone ok xs = k) (a b c d : Bool) (h : barIs k a b c d) (w : World) (hb : Byts w v xs) :
    Calls Tryd.prog 38 #[v, .bool ok] w fun e w' => e = .returned (.agg #[.bool a, .bool b, .bool c, .bool d]) ∧ Below w.heap.size w w' := by
  have HB := Lib.hid (below_alloc (Below.refl _ w) (.cells #[.bool false, .bool false, .bool false, .bool false] 33))
  have HO := Lib.hid (one_to ok xs v k hk _ (hb.below HB.out))
  clear hk hb
  rcases (show k < 0 ∨ 15 < k ∨ k = 0 ∨ k = 1 ∨ k = 2 ∨ k = 3 ∨ k = 4 ∨ k = 5 ∨ k = 6 ∨ k = 7 ∨ k = 8 ∨ k = 9 ∨ k = 10 ∨ k = 11 ∨ k = 12 ∨ k = 13 ∨ k = 14 ∨ k = 15 by omega) with h0 | h0 | rfl | rfl | rfl | rfl | rfl | rfl | rfl | rfl | rfl | rfl | rfl | rfl | rfl | rfl | rfl | rfl
  · obtain ⟨rfl, rfl, rfl, rfl⟩ : a = false ∧ b = false ∧ c = false ∧ d = false := by unfold barIs onl at h; rw [if_neg (by omega)] at h; obtain ⟨h1, h2, h3, h4⟩ := h; exact ⟨h1.symm.trans (by decide), h2.symm.trans (by decide), h3.symm.trans (by decide), h4.symm.trans (by decide)⟩
    clear h
    go_enter Tryd.func38, Tryd.ntmps38
    go_wp2_with fail
    (with_reducible refine HO.out.mono ?_)
    rintro e w1 ⟨rfl, rfl⟩
    go_wp2_with fail
    (try simp only [Exit.inBlock, Exit.then])
    refine bodyPost_ret ?_ rfl ⟨rfl, below_alloc (Below.refl _ w) _⟩
    rw [results_cell1 rfl]
    go_simp
  · obtain ⟨rfl, rfl, rfl, rfl⟩ : a = false ∧ b = false ∧ c = false ∧ d = false := by unfold barIs onl at h; rw [if_neg (by omega)] at h; obtain ⟨h1, h2, h3, h4⟩ := h; exact ⟨h1.symm.trans (by decide), h2.symm.trans (by decide), h3.symm.trans (by decide), h4.symm.trans (by decide)⟩
    clear h
    have h1 : ¬ k < 0 := by omega
    go_enter Tryd.func38, Tryd.ntmps38
    go_wp2_with fail
    (with_reducible refine HO.out.mono ?_)
    rintro e w1 ⟨rfl, rfl⟩
    go_wp2_with fail
    (try simp only [Exit.inBlock, Exit.then])
    refine bodyPost_ret ?_ rfl ⟨rfl, below_alloc (Below.refl _ w) _⟩
    rw [results_cell1 rfl]
    go_simp
  · obtain ⟨rfl, rfl, rfl, rfl⟩ : a = false ∧ b = false ∧ c = false ∧ d = false := by obtain ⟨h1, h2, h3, h4⟩ := h; exact ⟨h1.symm.trans (by decide), h2.symm.trans (by decide), h3.symm.trans (by decide), h4.symm.trans (by decide)⟩
    clear h
    go_enter Tryd.func38, Tryd.ntmps38
    go_wp2_with fail
    (with_reducible refine HO.out.mono ?_)
    rintro e w1 ⟨rfl, rfl⟩
    go_wp2_with fail
    (try simp only [Exit.inBlock, Exit.then])
    refine bodyPost_ret ?_ rfl ⟨rfl, below_alloc (below_alloc (Below.refl _ w) _) _⟩
    rw [results_cell1 rfl]
    go_simp
  · obtain ⟨rfl, rfl, rfl, rfl⟩ : a = true ∧ b = false ∧ c = false ∧ d = false := by obtain ⟨h1, h2, h3, h4⟩ := h; exact ⟨h1.symm.trans (by decide), h2.symm.trans (by decide), h3.symm.trans (by decide), h4.symm.trans (by decide)⟩
    clear h
    go_enter Tryd.func38, Tryd.ntmps38
    go_wp2_with fail
    (with_reducible refine HO.out.mono ?_)
    rintro e w1 ⟨rfl, rfl⟩
    go_wp2_with fail
    (try simp only [Exit.inBlock, Exit.then])
    refine bodyPost_ret ?_ rfl ⟨rfl, below_alloc (below_alloc (Below.refl _ w) _) _⟩
    rw [results_cell1 rfl]
    go_simp
  · obtain ⟨rfl, rfl, rfl, rfl⟩ : a = false ∧ b = true ∧ c = false ∧ d = false := by obtain ⟨h1, h2, h3, h4⟩ := h; exact ⟨h1.symm.trans (by decide), h2.symm.trans (by decide), h3.symm.trans (by decide), h4.symm.trans (by decide)⟩
    clear h
    go_enter Tryd.func38, Tryd.ntmps38
    go_wp2_with fail
    (with_reducible refine HO.out.mono ?_)
    rintro e w1 ⟨rfl, rfl⟩
    go_wp2_with fail
    (try simp only [Exit.inBlock, Exit.then])
    refine bodyPost_ret ?_ rfl ⟨rfl, below_alloc (below_alloc (Below.refl _ w) _) _⟩
    rw [results_cell1 rfl]
    go_simp
  · obtain ⟨rfl, rfl, rfl, rfl⟩ : a = false ∧ b = false ∧ c = false ∧ d = false := by obtain ⟨h1, h2, h3, h4⟩ := h; exact ⟨h1.symm.trans (by decide), h2.symm.trans (by decide), h3.symm.trans (by decide), h4.symm.trans (by decide)⟩
    clear h
    go_enter Tryd.func38, Tryd.ntmps38
    go_wp2_with fail
    (with_reducible refine HO.out.mono ?_)
    rintro e w1 ⟨rfl, rfl⟩
    go_wp2_with fail
    (try simp only [Exit.inBlock, Exit.then])
    refine bodyPost_ret ?_ rfl ⟨rfl, below_alloc (below_alloc (Below.refl _ w) _) _⟩
    rw [results_cell1 rfl]
    go_simp
  · obtain ⟨rfl, rfl, rfl, rfl⟩ : a = false ∧ b = false ∧ c = true ∧ d = false := by obtain ⟨h1, h2, h3, h4⟩ := h; exact ⟨h1.symm.trans (by decide), h2.symm.trans (by decide), h3.symm.trans (by decide), h4.symm.trans (by decide)⟩
    clear h
    go_enter Tryd.func38, Tryd.ntmps38
    go_wp2_with fail
    (with_reducible refine HO.out.mono ?_)
    rintro e w1 ⟨rfl, rfl⟩
    go_wp2_with fail
    (try simp only [Exit.inBlock, Exit.then])
    refine bodyPost_ret ?_ rfl ⟨rfl, below_alloc (below_alloc (Below.refl _ w) _) _⟩
    rw [results_cell1 rfl]
    go_simp
  · obtain ⟨rfl, rfl, rfl, rfl⟩ : a = true ∧ b = false ∧ c = true ∧ d = false := by obtain ⟨h1, h2, h3, h4⟩ := h; exact ⟨h1.symm.trans (by decide), h2.symm.trans (by decide), h3.symm.trans (by decide), h4.symm.trans (by decide)⟩
    clear h
    go_enter Tryd.func38, Tryd.ntmps38
    go_wp2_with fail
    (with_reducible refine HO.out.mono ?_)
    rintro e w1 ⟨rfl, rfl⟩
    go_wp2_with fail
    (try simp only [Exit.inBlock, Exit.then])
    refine bodyPost_ret ?_ rfl ⟨rfl, below_alloc (below_alloc (Below.refl _ w) _) _⟩
    rw [results_cell1 rfl]
    go_simp
  · obtain ⟨rfl, rfl, rfl, rfl⟩ : a = false ∧ b = true ∧ c = true ∧ d = false := by obtain ⟨h1, h2, h3, h4⟩ := h; exact ⟨h1.symm.trans (by decide), h2.symm.trans (by decide), h3.symm.trans (by decide), h4.symm.trans (by decide)⟩
    clear h
    go_enter Tryd.func38, Tryd.ntmps38
    go_wp2_with fail
    (with_reducible refine HO.out.mono ?_)
    rintro e w1 ⟨rfl, rfl⟩
    go_wp2_with fail
    (try simp only [Exit.inBlock, Exit.then])
    refine bodyPost_ret ?_ rfl ⟨rfl, below_alloc (below_alloc (Below.refl _ w) _) _⟩
    rw [results_cell1 rfl]
    go_simp
  · obtain ⟨rfl, rfl, rfl, rfl⟩ : a = false ∧ b = false ∧ c = true ∧ d = false := by obtain ⟨h1, h2, h3, h4⟩ := h; exact ⟨h1.symm.trans (by decide), h2.symm.trans (by decide), h3.symm.trans (by decide), h4.symm.trans (by decide)⟩
    clear h
    go_enter Tryd.func38, Tryd.ntmps38
    go_wp2_with fail
    (with_reducible refine HO.out.mono ?_)
    rintro e w1 ⟨rfl, rfl⟩
    go_wp2_with fail
    (try simp only [Exit.inBlock, Exit.then])
    refine bodyPost_ret ?_ rfl ⟨rfl, below_alloc (below_alloc (Below.refl _ w) _) _⟩
    rw [results_cell1 rfl]
    go_simp
  · obtain ⟨rfl, rfl, rfl, rfl⟩ : a = false ∧ b = false ∧ c = false ∧ d = true := by obtain ⟨h1, h2, h3, h4⟩ := h; exact ⟨h1.symm.trans (by decide), h2.symm.trans (by decide), h3.symm.trans (by decide), h4.symm.trans (by decide)⟩
    clear h
    go_enter Tryd.func38, Tryd.ntmps38
    go_wp2_with fail
    (with_reducible refine HO.out.mono ?_)
    rintro e w1 ⟨rfl, rfl⟩
    go_wp2_with fail
    (try simp only [Exit.inBlock, Exit.then])
    refine bodyPost_ret ?_ rfl ⟨rfl, below_alloc (below_alloc (Below.refl _ w) _) _⟩
    rw [results_cell1 rfl]
    go_simp
  · obtain ⟨rfl, rfl, rfl, rfl⟩ : a = true ∧ b = false ∧ c = false ∧ d = true := by obtain ⟨h1, h2, h3, h4⟩ := h; exact ⟨h1.symm.trans (by decide), h2.symm.trans (by decide), h3.symm.trans (by decide), h4.symm.trans (by decide)⟩
    clear h
    go_enter Tryd.func38, Tryd.ntmps38
    go_wp2_with fail
    (with_reducible refine HO.out.mono ?_)
    rintro e w1 ⟨rfl, rfl⟩
    go_wp2_with fail
    (try simp only [Exit.inBlock, Exit.then])
    refine bodyPost_ret ?_ rfl ⟨rfl, below_alloc (below_alloc (Below.refl _ w) _) _⟩
    rw [results_cell1 rfl]
    go_simp
  · obtain ⟨rfl, rfl, rfl, rfl⟩ : a = false ∧ b = true ∧ c = false ∧ d = true := by obtain ⟨h1, h2, h3, h4⟩ := h; exact ⟨h1.symm.trans (by decide), h2.symm.trans (by decide), h3.symm.trans (by decide), h4.symm.trans (by decide)⟩
    clear h
    go_enter Tryd.func38, Tryd.ntmps38
    go_wp2_with fail
    (with_reducible refine HO.out.mono ?_)
    rintro e w1 ⟨rfl, rfl⟩
    go_wp2_with fail
    (try simp only [Exit.inBlock, Exit.then])
    refine bodyPost_ret ?_ rfl ⟨rfl, below_alloc (below_alloc (Below.refl _ w) _) _⟩
    rw [results_cell1 rfl]
    go_simp
  · obtain ⟨rfl, rfl, rfl, rfl⟩ : a = false ∧ b = false ∧ c = false ∧ d = true := by obtain ⟨h1, h2, h3, h4⟩ := h; exact ⟨h1.symm.trans (by decide), h2.symm.trans (by decide), h3.symm.trans (by decide), h4.symm.trans (by decide)⟩
    clear h
    go_enter Tryd.func38, Tryd.ntmps38
    go_wp2_with fail
    (with_reducible refine HO.out.mono ?_)
    rintro e w1 ⟨rfl, rfl⟩
    go_wp2_with fail
    (try simp only [Exit.inBlock, Exit.then])
    refine bodyPost_ret ?_ rfl ⟨rfl, below_alloc (below_alloc (Below.refl _ w) _) _⟩
    rw [results_cell1 rfl]
    go_simp
  · obtain ⟨rfl, rfl, rfl, rfl⟩ : a = false ∧ b = false ∧ c = false ∧ d = false := by obtain ⟨h1, h2, h3, h4⟩ := h; exact ⟨h1.symm.trans (by decide), h2.symm.trans (by decide), h3.symm.trans (by decide), h4.symm.trans (by decide)⟩
    clear h
    go_enter Tryd.func38, Tryd.ntmps38
    go_wp2_with fail
    (with_reducible refine HO.out.mono ?_)
    rintro e w1 ⟨rfl, rfl⟩
    go_wp2_with fail
    (try simp only [Exit.inBlock, Exit.then])
    refine bodyPost_ret ?_ rfl ⟨rfl, below_alloc (below_alloc (Below.refl _ w) _) _⟩
    rw [results_cell1 rfl]
    go_simp
  · obtain ⟨rfl, rfl, rfl, rfl⟩ : a = true ∧ b = false ∧ c = false ∧ d = false := by obtain ⟨h1, h2, h3, h4⟩ := h; exact ⟨h1.symm.trans (by decide), h2.symm.trans (by decide), h3.symm.trans (by decide), h4.symm.trans (by decide)⟩
    clear h
    go_enter Tryd.func38, Tryd.ntmps38
    go_wp2_with fail
    (with_reducible refine HO.out.mono ?_)
    rintro e w1 ⟨rfl, rfl⟩
    go_wp2_with fail
    (try simp only [Exit.inBlock, Exit.then])
    refine bodyPost_ret ?_ rfl ⟨rfl, below_alloc (below_alloc (Below.refl _ w) _) _⟩
    rw [results_cell1 rfl]
    go_simp
  · obtain ⟨rfl, rfl, rfl, rfl⟩ : a = false ∧ b = true ∧ c = false ∧ d = false := by obtain ⟨h1, h2, h3, h4⟩ := h; exact ⟨h1.symm.trans (by decide), h2.symm.trans (by decide), h3.symm.trans (by decide), h4.symm.trans (by decide)⟩
    clear h
    go_enter Tryd.func38, Tryd.ntmps38
    go_wp2_with fail
    (with_reducible refine HO.out.mono ?_)
    rintro e w1 ⟨rfl, rfl⟩
    go_wp2_with fail
    (try simp only [Exit.inBlock, Exit.then])
    refine bodyPost_ret ?_ rfl ⟨rfl, below_alloc (below_alloc (Below.refl _ w) _) _⟩
    rw [results_cell1 rfl]
    go_simp
  · obtain ⟨rfl, rfl, rfl, rfl⟩ : a = false ∧ b = false ∧ c = false ∧ d = false := by obtain ⟨h1, h2, h3, h4⟩ := h; exact ⟨h1.symm.trans (by decide), h2.symm.trans (by decide), h3.symm.trans (by decide), h4.symm.trans (by decide)⟩
    clear h
    go_enter Tryd.func38, Tryd.ntmps38
    go_wp2_with fail
    (with_reducible refine HO.out.mono ?_)
    rintro e w1 ⟨rfl, rfl⟩
    go_wp2_with fail
    (try simp only [Exit.inBlock, Exit.then])
    refine bodyPost_ret ?_ rfl ⟨rfl, below_alloc (below_alloc (Below.refl _ w) _) _⟩
    rw [results_cell1 rfl]
    go_simp
end Go.Proofs.YtolfdfbhignniaaDoor
