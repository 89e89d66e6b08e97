/-
  What sensor reads of one byte, by contracts.
-/
import Derived.Test.YtnbhjnbdnngiiaaSnMath
import Derived.Test.YtnbhjnbdnngiiaaBlk
import Derived.BigRegion
namespace Go.Proofs.Ytnbhjnbdnngiiaa
open Go.RowKit

theorem only_to (ok : Bool) (xs : List (BitVec 8)) (v : Value) (k l r : Int) (q : Bool) (hk : sone ok xs = k) (hr : onl k l = r) (hq : decide (0 ≤ k ∧ k < l) = q) (w : World) (h : Byts w v xs) :
    Calls Try.prog 24 #[v, .bool ok, .int .i64 l] w fun e w' => e = .returned (.tuple #[.int .i64 r, .bool q]) ∧ w' = w := by
  unfold onl at hr
  rcases h.ways hk with ⟨rfl, h1⟩ | ⟨rfl, h1, a, n, c, rfl, hn⟩ | ⟨rfl, h0, h1, g, o, c, rfl, hc⟩
  · obtain rfl : q = false := by rw [← hq]; simp; omega
    obtain rfl : r = 0 := by rw [← hr, if_neg (by omega)]
    clear hk hr hq h h1
    go_enter Try.func24, Try.ntmps24
    go_wp2_with fail
    go_ret2
    exact ⟨rfl, rfl⟩
  · obtain rfl : q = false := by rw [← hq]; simp; omega
    obtain rfl : r = 0 := by rw [← hr, if_neg (by omega)]
    clear hk hr hq h h1
    go_enter Try.func24, Try.ntmps24
    go_wp2_with fail
    go_ret2
    exact ⟨rfl, rfl⟩
  · by_cases hl : k < l
    · obtain rfl : q = true := by rw [← hq]; simp; omega
      obtain rfl : k = r := by rw [← hr, if_pos (by omega)]
      clear hk hr hq h
      have hw : IntKind.i64.wrap k = k := by rw [IntKind.wrap_i64]; omega
      go_enter Try.func24, Try.ntmps24
      go_wp2_with fail
      go_ret2
      exact ⟨rfl, rfl⟩
    · obtain rfl : q = false := by rw [← hq]; simp; omega
      obtain rfl : r = 0 := by rw [← hr, if_neg (by omega)]
      clear hk hr hq h
      have hw : IntKind.i64.wrap k = k := by rw [IntKind.wrap_i64]; omega
      go_enter Try.func24, Try.ntmps24
      go_wp2_with fail
      go_ret2
      exact ⟨rfl, rfl⟩
theorem bit_to (k p d : Int) (r : Bool) (hp : (p = 0 ∧ d = 1) ∨ (p = 1 ∧ d = 2) ∨ (p = 2 ∧ d = 4) ∨ (p = 3 ∧ d = 8)) (hr : bt k d = r) (w : World) :
    Calls Try.prog 25 #[.int .i64 k, .int .i64 p] w fun e w' => e = .returned (.bool r) ∧ w' = w := by
  unfold bt at hr
  subst hr
  rcases hp with ⟨rfl, rfl⟩ | ⟨rfl, rfl⟩ | ⟨rfl, rfl⟩ | ⟨rfl, rfl⟩
  · have ha := and_one k
    go_enter Try.func25, Try.ntmps25
    go_wp2_with fail
    go_ret
    exact ⟨by simp, rfl⟩
  · have ha := and_one (k / 2)
    go_enter Try.func25, Try.ntmps25
    go_wp2_with fail
    go_ret
    exact ⟨rfl, rfl⟩
  · have ha := and_one (k / 4)
    go_enter Try.func25, Try.ntmps25
    go_wp2_with fail
    go_ret
    exact ⟨rfl, rfl⟩
  · have ha := and_one (k / 8)
    go_enter Try.func25, Try.ntmps25
    go_wp2_with fail
    go_ret
    exact ⟨rfl, rfl⟩
theorem lamps_to (ok : Bool) (xs : List (BitVec 8)) (v : Value) (k : Int) (hk : sone ok xs = k) (w : World) (r : Bool) (hr : decide (k = 1) = r) (h : Byts w v xs) :
    Calls Try.prog 13 #[v, .bool ok] w fun e w' => e = .returned (.bool r) ∧ w' = w := by
  obtain ⟨n, hn⟩ : ∃ n, onl k 2 = n := ⟨_, rfl⟩
  obtain ⟨q, hq⟩ : ∃ q, decide (0 ≤ k ∧ k < 2) = q := ⟨_, rfl⟩
  have HO := Lib.hid (only_to ok xs v k 2 n q hk hn hq w h)
  have HR := Lib.hid (show (n == 1) = r by rw [← hr, ← hn]; unfold onl; split <;> rw [Bool.eq_iff_iff] <;> simp <;> omega)
  clear hk hr hn hq h
  go_enter Try.func13, Try.ntmps13
  go_wp2_with fail
  (with_reducible refine HO.out.mono ?_)
  rintro e w1 ⟨rfl, rfl⟩
  go_wp2_with fail
  go_ret
  exact ⟨congrArg (fun b => Ending.returned (Value.bool b)) HR.out, rfl⟩
theorem obst_to (ok : Bool) (xs : List (BitVec 8)) (v : Value) (k : Int) (hk : sone ok xs = k) (w : World) (r : Bool) (hr : decide (k ≠ 0) = r) (h : Byts w v xs) :
    Calls Try.prog 15 #[v, .bool ok] w fun e w' => e = .returned (.bool r) ∧ w' = w := by
  obtain ⟨n, hn⟩ : ∃ n, onl k 1 = n := ⟨_, rfl⟩
  obtain ⟨q, hq⟩ : ∃ q, decide (0 ≤ k ∧ k < 1) = q := ⟨_, rfl⟩
  have HO := Lib.hid (only_to ok xs v k 1 n q hk hn hq w h)
  have HR := Lib.hid (show (!q) = r by rw [← hr, ← hq, Bool.eq_iff_iff]; simp; omega)
  clear hk hr hn hq h
  go_enter Try.func15, Try.ntmps15
  go_wp2_with fail
  (with_reducible refine HO.out.mono ?_)
  rintro e w1 ⟨rfl, rfl⟩
  go_wp2_with fail
  go_ret
  exact ⟨congrArg (fun b => Ending.returned (Value.bool b)) HR.out, rfl⟩
theorem mode_to (ok : Bool) (xs : List (BitVec 8)) (v : Value) (k : Int) (hk : sone ok xs = k) (w : World) (r : Int) (hr : (if 0 ≤ k ∧ k < 3 then k else 1) = r) (h : Byts w v xs) :
    Calls Try.prog 17 #[v, .bool ok] w fun e w' => e = .returned (.int .i64 r) ∧ w' = w := by
  obtain ⟨n, hn⟩ : ∃ n, onl k 3 = n := ⟨_, rfl⟩
  obtain ⟨q, hq⟩ : ∃ q, decide (0 ≤ k ∧ k < 3) = q := ⟨_, rfl⟩
  have HO := Lib.hid (only_to ok xs v k 3 n q hk hn hq w h)
  cases q with
  | true =>
    have hq2 := of_decide_eq_true hq
    obtain rfl : n = r := by rw [← hr, ← hn]; unfold onl; rw [if_pos hq2, if_pos hq2]
    clear hk hr hn hq h hq2
    go_enter Try.func17, Try.ntmps17
    go_wp2_with fail
    (with_reducible refine HO.out.mono ?_)
    rintro e w1 ⟨rfl, rfl⟩
    go_wp2_with fail
    go_ret
    exact ⟨rfl, rfl⟩
  | false =>
    have hq2 := of_decide_eq_false hq
    obtain rfl : r = 1 := by rw [← hr, if_neg hq2]
    clear hk hr hn hq h hq2
    go_enter Try.func17, Try.ntmps17
    go_wp2_with fail
    (with_reducible refine HO.out.mono ?_)
    rintro e w1 ⟨rfl, rfl⟩
    go_wp2_with fail
    go_ret
    exact ⟨rfl, rfl⟩
theorem power_to (ok : Bool) (xs : List (BitVec 8)) (v : Value) (k : Int) (hk : sone ok xs = k) (w : World) (a b : Bool) (ha : bt (onl k 4) 1 = a) (hb : bt (onl k 4) 2 = b) (h : Byts w v xs) :
    Calls Try.prog 9 #[v, .bool ok] w fun e w' => e = .returned (.tuple #[.bool a, .bool b]) ∧ w' = w := by
  obtain ⟨n, hn⟩ : ∃ n, onl k 4 = n := ⟨_, rfl⟩
  obtain ⟨q, hq⟩ : ∃ q, decide (0 ≤ k ∧ k < 4) = q := ⟨_, rfl⟩
  have HO := Lib.hid (only_to ok xs v k 4 n q hk hn hq w h)
  rw [hn] at ha hb
  have HA := Lib.hid (bit_to n 0 1 a (by omega) ha w)
  have HB := Lib.hid (bit_to n 1 2 b (by omega) hb w)
  clear hk hn hq h ha hb
  go_enter Try.func9, Try.ntmps9
  go_wp2_with fail
  (with_reducible refine HO.out.mono ?_)
  rintro e w1 ⟨rfl, rfl⟩
  go_wp2_with fail
  (with_reducible refine HA.out.mono ?_)
  rintro e w1 ⟨rfl, rfl⟩
  go_wp2_with fail
  (with_reducible refine HB.out.mono ?_)
  rintro e w1 ⟨rfl, rfl⟩
  go_wp2_with fail
  go_ret2
  exact ⟨rfl, rfl⟩
theorem routes_to (ok : Bool) (xs : List (BitVec 8)) (v : Value) (k : Int) (hk : sone ok xs = k) (w : World) (t l r : Int) (hl : rlim t = l) (hr : onl k l = r) (h : Byts w v xs) :
    Calls Try.prog 19 #[v, .bool ok, .int .i64 t] w fun e w' => e = .returned (.int .i64 r) ∧ w' = w := by
  obtain ⟨q, hq⟩ : ∃ q, decide (0 ≤ k ∧ k < l) = q := ⟨_, rfl⟩
  have HO := Lib.hid (only_to ok xs v k l r q hk hr hq w h)
  clear hk hr hq h
  rcases rlim_ways t with ⟨ht, e⟩ | ⟨rfl, e⟩ | ⟨rfl, e⟩ | ⟨rfl, e⟩ | ⟨rfl, e⟩ | ⟨rfl, e⟩ | ⟨rfl, e⟩ | ⟨rfl, e⟩ | ⟨rfl, e⟩ | ⟨rfl, e⟩ | ⟨ht, e⟩
  · rw [e] at hl
    subst hl
    clear e
    have hw : wrap64 1 = 1 := IntWalk.wrap64_in _ (by decide)
    go_enter Try.func19, Try.ntmps19
    go_wp2_with fail
    (with_reducible refine HO.out.mono ?_)
    rintro e w1 ⟨rfl, rfl⟩
    go_wp2_with fail
    go_ret
    exact ⟨rfl, rfl⟩
  · rw [e] at hl
    subst hl
    clear e
    have hw : wrap64 1 = 1 := IntWalk.wrap64_in _ (by decide)
    go_enter Try.func19, Try.ntmps19
    go_wp2_with fail
    (with_reducible refine HO.out.mono ?_)
    rintro e w1 ⟨rfl, rfl⟩
    go_wp2_with fail
    go_ret
    exact ⟨rfl, rfl⟩
  · rw [e] at hl
    subst hl
    clear e
    have hw : wrap64 2 = 2 := IntWalk.wrap64_in _ (by decide)
    go_enter Try.func19, Try.ntmps19
    go_wp2_with fail
    (with_reducible refine HO.out.mono ?_)
    rintro e w1 ⟨rfl, rfl⟩
    go_wp2_with fail
    go_ret
    exact ⟨rfl, rfl⟩
  · rw [e] at hl
    subst hl
    clear e
    have hw : wrap64 4 = 4 := IntWalk.wrap64_in _ (by decide)
    go_enter Try.func19, Try.ntmps19
    go_wp2_with fail
    (with_reducible refine HO.out.mono ?_)
    rintro e w1 ⟨rfl, rfl⟩
    go_wp2_with fail
    go_ret
    exact ⟨rfl, rfl⟩
  · rw [e] at hl
    subst hl
    clear e
    have hw : wrap64 8 = 8 := IntWalk.wrap64_in _ (by decide)
    go_enter Try.func19, Try.ntmps19
    go_wp2_with fail
    (with_reducible refine HO.out.mono ?_)
    rintro e w1 ⟨rfl, rfl⟩
    go_wp2_with fail
    go_ret
    exact ⟨rfl, rfl⟩
  · rw [e] at hl
    subst hl
    clear e
    have hw : wrap64 16 = 16 := IntWalk.wrap64_in _ (by decide)
    go_enter Try.func19, Try.ntmps19
    go_wp2_with fail
    (with_reducible refine HO.out.mono ?_)
    rintro e w1 ⟨rfl, rfl⟩
    go_wp2_with fail
    go_ret
    exact ⟨rfl, rfl⟩
  · rw [e] at hl
    subst hl
    clear e
    have hw : wrap64 32 = 32 := IntWalk.wrap64_in _ (by decide)
    go_enter Try.func19, Try.ntmps19
    go_wp2_with fail
    (with_reducible refine HO.out.mono ?_)
    rintro e w1 ⟨rfl, rfl⟩
    go_wp2_with fail
    go_ret
    exact ⟨rfl, rfl⟩
  · rw [e] at hl
    subst hl
    clear e
    have hw : wrap64 64 = 64 := IntWalk.wrap64_in _ (by decide)
    go_enter Try.func19, Try.ntmps19
    go_wp2_with fail
    (with_reducible refine HO.out.mono ?_)
    rintro e w1 ⟨rfl, rfl⟩
    go_wp2_with fail
    go_ret
    exact ⟨rfl, rfl⟩
  · rw [e] at hl
    subst hl
    clear e
    have hw : wrap64 128 = 128 := IntWalk.wrap64_in _ (by decide)
    go_enter Try.func19, Try.ntmps19
    go_wp2_with fail
    (with_reducible refine HO.out.mono ?_)
    rintro e w1 ⟨rfl, rfl⟩
    go_wp2_with fail
    go_ret
    exact ⟨rfl, rfl⟩
  · rw [e] at hl
    subst hl
    clear e
    have hw : wrap64 256 = 256 := IntWalk.wrap64_in _ (by decide)
    go_enter Try.func19, Try.ntmps19
    go_wp2_with fail
    (with_reducible refine HO.out.mono ?_)
    rintro e w1 ⟨rfl, rfl⟩
    go_wp2_with fail
    go_ret
    exact ⟨rfl, rfl⟩
  · rw [e] at hl
    subst hl
    clear e
    have h0 : ¬ t < 0 := by omega
    have h1 : ¬ t ≤ 8 := by omega
    have hw : wrap64 256 = 256 := IntWalk.wrap64_in _ (by decide)
    go_enter Try.func19, Try.ntmps19
    go_wp2_with fail
    (with_reducible refine HO.out.mono ?_)
    rintro e w1 ⟨rfl, rfl⟩
    go_wp2_with fail
    go_ret
    exact ⟨rfl, rfl⟩
end Go.Proofs.Ytnbhjnbdnngiiaa
