/-
  SnRead SnCnt SnRcnt: merged.
-/
import Derived.BigRegion
import Derived.StillTailTactics
import Derived.Test.YtolfdfbhignniaaDoorBase
/-
  What sensor reads of one byte, by contracts.
-/
namespace Go.Proofs.YtolfdfbhignniaaDoor
open Go.RowKit

theorem only_to (ok : Bool) (xs : List (BitVec 8)) (v : Value) (k l r : Int) (q : Bool) (hk : sone ok xs = k) (hr : onl k l = r) (hq : decide (0 ≤ k ∧ k < l) = q) (w : World) (h : Byts w v xs) :
    Calls Tryd.prog 59 #[v, .bool ok, .int .i64 l] w fun e w' => e = .returned (.tuple #[.int .i64 r, .bool q]) ∧ w' = w := by
  unfold onl at hr
  rcases h.ways hk with ⟨rfl, h1⟩ | ⟨rfl, h1, a, n, c, rfl, hn⟩ | ⟨rfl, h0, h1, g, o, c, rfl, hc⟩
  · obtain rfl : q = false := by rw [← hq]; simp; omega
    obtain rfl : r = 0 := by rw [← hr, if_neg (by omega)]
    clear hk hr hq h h1
    go_enter Tryd.func59, Tryd.ntmps59
    go_wp2_with fail
    go_ret2
    exact ⟨rfl, rfl⟩
  · obtain rfl : q = false := by rw [← hq]; simp; omega
    obtain rfl : r = 0 := by rw [← hr, if_neg (by omega)]
    clear hk hr hq h h1
    go_enter Tryd.func59, Tryd.ntmps59
    go_wp2_with fail
    go_ret2
    exact ⟨rfl, rfl⟩
  · by_cases hl : k < l
    · obtain rfl : q = true := by rw [← hq]; simp; omega
      obtain rfl : k = r := by rw [← hr, if_pos (by omega)]
      clear hk hr hq h
      have hw : IntKind.i64.wrap k = k := by rw [IntKind.wrap_i64]; omega
      go_enter Tryd.func59, Tryd.ntmps59
      go_wp2_with fail
      go_ret2
      exact ⟨rfl, rfl⟩
    · obtain rfl : q = false := by rw [← hq]; simp; omega
      obtain rfl : r = 0 := by rw [← hr, if_neg (by omega)]
      clear hk hr hq h
      have hw : IntKind.i64.wrap k = k := by rw [IntKind.wrap_i64]; omega
      go_enter Tryd.func59, Tryd.ntmps59
      go_wp2_with fail
      go_ret2
      exact ⟨rfl, rfl⟩
theorem bit_to (k p d : Int) (r : Bool) (hp : (p = 0 ∧ d = 1) ∨ (p = 1 ∧ d = 2) ∨ (p = 2 ∧ d = 4) ∨ (p = 3 ∧ d = 8)) (hr : bt k d = r) (w : World) :
    Calls Tryd.prog 60 #[.int .i64 k, .int .i64 p] w fun e w' => e = .returned (.bool r) ∧ w' = w := by
  unfold bt at hr
  subst hr
  rcases hp with ⟨rfl, rfl⟩ | ⟨rfl, rfl⟩ | ⟨rfl, rfl⟩ | ⟨rfl, rfl⟩
  · have ha := and_one k
    go_enter Tryd.func60, Tryd.ntmps60
    go_wp2_with fail
    go_ret
    exact ⟨by simp, rfl⟩
  · have ha := and_one (k / 2)
    go_enter Tryd.func60, Tryd.ntmps60
    go_wp2_with fail
    go_ret
    exact ⟨rfl, rfl⟩
  · have ha := and_one (k / 4)
    go_enter Tryd.func60, Tryd.ntmps60
    go_wp2_with fail
    go_ret
    exact ⟨rfl, rfl⟩
  · have ha := and_one (k / 8)
    go_enter Tryd.func60, Tryd.ntmps60
    go_wp2_with fail
    go_ret
    exact ⟨rfl, rfl⟩
theorem lamps_to (ok : Bool) (xs : List (BitVec 8)) (v : Value) (k : Int) (hk : sone ok xs = k) (w : World) (r : Bool) (hr : decide (k = 1) = r) (h : Byts w v xs) :
    Calls Tryd.prog 30 #[v, .bool ok] w fun e w' => e = .returned (.bool r) ∧ w' = w := by
  obtain ⟨n, hn⟩ : ∃ n, onl k 2 = n := ⟨_, rfl⟩
  obtain ⟨q, hq⟩ : ∃ q, decide (0 ≤ k ∧ k < 2) = q := ⟨_, rfl⟩
  have HO := Lib.hid (only_to ok xs v k 2 n q hk hn hq w h)
  have HR := Lib.hid (show (n == 1) = r by rw [← hr, ← hn]; unfold onl; split <;> rw [Bool.eq_iff_iff] <;> simp <;> omega)
  clear hk hr hn hq h
  go_enter Tryd.func30, Tryd.ntmps30
  go_wp2_with fail
  (with_reducible refine HO.out.mono ?_)
  rintro e w1 ⟨rfl, rfl⟩
  go_wp2_with fail
  go_ret
  exact ⟨congrArg (fun b => Ending.returned (Value.bool b)) HR.out, rfl⟩
theorem obst_to (ok : Bool) (xs : List (BitVec 8)) (v : Value) (k : Int) (hk : sone ok xs = k) (w : World) (r : Bool) (hr : decide (k ≠ 0) = r) (h : Byts w v xs) :
    Calls Tryd.prog 31 #[v, .bool ok] w fun e w' => e = .returned (.bool r) ∧ w' = w := by
  obtain ⟨n, hn⟩ : ∃ n, onl k 1 = n := ⟨_, rfl⟩
  obtain ⟨q, hq⟩ : ∃ q, decide (0 ≤ k ∧ k < 1) = q := ⟨_, rfl⟩
  have HO := Lib.hid (only_to ok xs v k 1 n q hk hn hq w h)
  have HR := Lib.hid (show (!q) = r by rw [← hr, ← hq, Bool.eq_iff_iff]; simp; omega)
  clear hk hr hn hq h
  go_enter Tryd.func31, Tryd.ntmps31
  go_wp2_with fail
  (with_reducible refine HO.out.mono ?_)
  rintro e w1 ⟨rfl, rfl⟩
  go_wp2_with fail
  go_ret
  exact ⟨congrArg (fun b => Ending.returned (Value.bool b)) HR.out, rfl⟩
theorem mode_to (ok : Bool) (xs : List (BitVec 8)) (v : Value) (k : Int) (hk : sone ok xs = k) (w : World) (r : Int) (hr : (if 0 ≤ k ∧ k < 3 then k else 1) = r) (h : Byts w v xs) :
    Calls Tryd.prog 32 #[v, .bool ok] w fun e w' => e = .returned (.int .i64 r) ∧ w' = w := by
  obtain ⟨n, hn⟩ : ∃ n, onl k 3 = n := ⟨_, rfl⟩
  obtain ⟨q, hq⟩ : ∃ q, decide (0 ≤ k ∧ k < 3) = q := ⟨_, rfl⟩
  have HO := Lib.hid (only_to ok xs v k 3 n q hk hn hq w h)
  cases q with
  | true =>
    have hq2 := of_decide_eq_true hq
    obtain rfl : n = r := by rw [← hr, ← hn]; unfold onl; rw [if_pos hq2, if_pos hq2]
    clear hk hr hn hq h hq2
    go_enter Tryd.func32, Tryd.ntmps32
    go_wp2_with fail
    (with_reducible refine HO.out.mono ?_)
    rintro e w1 ⟨rfl, rfl⟩
    go_wp2_with fail
    go_ret
    exact ⟨rfl, rfl⟩
  | false =>
    have hq2 := of_decide_eq_false hq
    obtain rfl : r = 1 := by rw [← hr, if_neg hq2]
    clear hk hr hn hq h hq2
    go_enter Tryd.func32, Tryd.ntmps32
    go_wp2_with fail
    (with_reducible refine HO.out.mono ?_)
    rintro e w1 ⟨rfl, rfl⟩
    go_wp2_with fail
    go_ret
    exact ⟨rfl, rfl⟩
theorem power_to (ok : Bool) (xs : List (BitVec 8)) (v : Value) (k : Int) (hk : sone ok xs = k) (w : World) (a b : Bool) (ha : bt (onl k 4) 1 = a) (hb : bt (onl k 4) 2 = b) (h : Byts w v xs) :
    Calls Tryd.prog 35 #[v, .bool ok] w fun e w' => e = .returned (.tuple #[.bool a, .bool b]) ∧ w' = w := by
  obtain ⟨n, hn⟩ : ∃ n, onl k 4 = n := ⟨_, rfl⟩
  obtain ⟨q, hq⟩ : ∃ q, decide (0 ≤ k ∧ k < 4) = q := ⟨_, rfl⟩
  have HO := Lib.hid (only_to ok xs v k 4 n q hk hn hq w h)
  rw [hn] at ha hb
  have HA := Lib.hid (bit_to n 0 1 a (by omega) ha w)
  have HB := Lib.hid (bit_to n 1 2 b (by omega) hb w)
  clear hk hn hq h ha hb
  go_enter Tryd.func35, Tryd.ntmps35
  go_wp2_with fail
  (with_reducible refine HO.out.mono ?_)
  rintro e w1 ⟨rfl, rfl⟩
  go_wp2_with fail
  (with_reducible refine HA.out.mono ?_)
  rintro e w1 ⟨rfl, rfl⟩
  go_wp2_with fail
  (with_reducible refine HB.out.mono ?_)
  rintro e w1 ⟨rfl, rfl⟩
  go_wp2_with fail
  go_ret2
  exact ⟨rfl, rfl⟩
theorem routes_to (ok : Bool) (xs : List (BitVec 8)) (v : Value) (k : Int) (hk : sone ok xs = k) (w : World) (t l r : Int) (hl : rlim t = l) (hr : onl k l = r) (h : Byts w v xs) :
    Calls Tryd.prog 54 #[v, .bool ok, .int .i64 t] w fun e w' => e = .returned (.int .i64 r) ∧ w' = w := by
  obtain ⟨q, hq⟩ : ∃ q, decide (0 ≤ k ∧ k < l) = q := ⟨_, rfl⟩
  have HO := Lib.hid (only_to ok xs v k l r q hk hr hq w h)
  clear hk hr hq h
  rcases rlim_ways t with ⟨ht, e⟩ | ⟨rfl, e⟩ | ⟨rfl, e⟩ | ⟨rfl, e⟩ | ⟨rfl, e⟩ | ⟨rfl, e⟩ | ⟨rfl, e⟩ | ⟨rfl, e⟩ | ⟨rfl, e⟩ | ⟨rfl, e⟩ | ⟨ht, e⟩
  · rw [e] at hl
    subst hl
    clear e
    have hw : wrap64 1 = 1 := IntWalk.wrap64_in _ (by decide)
    go_enter Tryd.func54, Tryd.ntmps54
    go_wp2_with fail
    (with_reducible refine HO.out.mono ?_)
    rintro e w1 ⟨rfl, rfl⟩
    go_wp2_with fail
    go_ret
    exact ⟨rfl, rfl⟩
  · rw [e] at hl
    subst hl
    clear e
    have hw : wrap64 1 = 1 := IntWalk.wrap64_in _ (by decide)
    go_enter Tryd.func54, Tryd.ntmps54
    go_wp2_with fail
    (with_reducible refine HO.out.mono ?_)
    rintro e w1 ⟨rfl, rfl⟩
    go_wp2_with fail
    go_ret
    exact ⟨rfl, rfl⟩
  · rw [e] at hl
    subst hl
    clear e
    have hw : wrap64 2 = 2 := IntWalk.wrap64_in _ (by decide)
    go_enter Tryd.func54, Tryd.ntmps54
    go_wp2_with fail
    (with_reducible refine HO.out.mono ?_)
    rintro e w1 ⟨rfl, rfl⟩
    go_wp2_with fail
    go_ret
    exact ⟨rfl, rfl⟩
  · rw [e] at hl
    subst hl
    clear e
    have hw : wrap64 4 = 4 := IntWalk.wrap64_in _ (by decide)
    go_enter Tryd.func54, Tryd.ntmps54
    go_wp2_with fail
    (with_reducible refine HO.out.mono ?_)
    rintro e w1 ⟨rfl, rfl⟩
    go_wp2_with fail
    go_ret
    exact ⟨rfl, rfl⟩
  · rw [e] at hl
    subst hl
    clear e
    have hw : wrap64 8 = 8 := IntWalk.wrap64_in _ (by decide)
    go_enter Tryd.func54, Tryd.ntmps54
    go_wp2_with fail
    (with_reducible refine HO.out.mono ?_)
    rintro e w1 ⟨rfl, rfl⟩
    go_wp2_with fail
    go_ret
    exact ⟨rfl, rfl⟩
  · rw [e] at hl
    subst hl
    clear e
    have hw : wrap64 16 = 16 := IntWalk.wrap64_in _ (by decide)
    go_enter Tryd.func54, Tryd.ntmps54
    go_wp2_with fail
    (with_reducible refine HO.out.mono ?_)
    rintro e w1 ⟨rfl, rfl⟩
    go_wp2_with fail
    go_ret
    exact ⟨rfl, rfl⟩
  · rw [e] at hl
    subst hl
    clear e
    have hw : wrap64 32 = 32 := IntWalk.wrap64_in _ (by decide)
    go_enter Tryd.func54, Tryd.ntmps54
    go_wp2_with fail
    (with_reducible refine HO.out.mono ?_)
    rintro e w1 ⟨rfl, rfl⟩
    go_wp2_with fail
    go_ret
    exact ⟨rfl, rfl⟩
  · rw [e] at hl
    subst hl
    clear e
    have hw : wrap64 64 = 64 := IntWalk.wrap64_in _ (by decide)
    go_enter Tryd.func54, Tryd.ntmps54
    go_wp2_with fail
    (with_reducible refine HO.out.mono ?_)
    rintro e w1 ⟨rfl, rfl⟩
    go_wp2_with fail
    go_ret
    exact ⟨rfl, rfl⟩
  · rw [e] at hl
    subst hl
    clear e
    have hw : wrap64 128 = 128 := IntWalk.wrap64_in _ (by decide)
    go_enter Tryd.func54, Tryd.ntmps54
    go_wp2_with fail
    (with_reducible refine HO.out.mono ?_)
    rintro e w1 ⟨rfl, rfl⟩
    go_wp2_with fail
    go_ret
    exact ⟨rfl, rfl⟩
  · rw [e] at hl
    subst hl
    clear e
    have hw : wrap64 256 = 256 := IntWalk.wrap64_in _ (by decide)
    go_enter Tryd.func54, Tryd.ntmps54
    go_wp2_with fail
    (with_reducible refine HO.out.mono ?_)
    rintro e w1 ⟨rfl, rfl⟩
    go_wp2_with fail
    go_ret
    exact ⟨rfl, rfl⟩
  · rw [e] at hl
    subst hl
    clear e
    have h0 : ¬ t < 0 := by omega
    have h1 : ¬ t ≤ 8 := by omega
    have hw : wrap64 256 = 256 := IntWalk.wrap64_in _ (by decide)
    go_enter Tryd.func54, Tryd.ntmps54
    go_wp2_with fail
    (with_reducible refine HO.out.mono ?_)
    rintro e w1 ⟨rfl, rfl⟩
    go_wp2_with fail
    go_ret
    exact ⟨rfl, rfl⟩
end Go.Proofs.YtolfdfbhignniaaDoor
/-
  sensor's Counts by a contract.
-/
namespace Go.Proofs.YtolfdfbhignniaaDoor
open Go.RowKit

set_option maxHeartbeats 4000000 in
theorem counts_to (ok : Bool) (xs : List (BitVec 8)) (v : Value) (r : Ct) (hr : cntOf ok xs = r) (w : World) (hb : Byts w v xs) :
    Calls Tryd.prog 55 #[v, .bool ok] w fun e w' => e = .returned (.agg #[.bool r.fr, .int .i64 r.i, .int .i64 r.o, .int .i64 r.cs, .int .i64 r.l]) ∧ Below w.heap.size w w' := by
  cases ok with
  | false =>
    rw [cntOf_no] at hr
    subst hr
    clear hb
    go_enter Tryd.func55, Tryd.ntmps55
    go_wp2_with fail
    (try simp only [Exit.inBlock, Exit.then])
    refine bodyPost_ret ?_ rfl ⟨rfl, below_alloc (Below.refl _ w) _⟩
    rw [results_cell1 rfl]
    go_simp
  | true =>
    by_cases hl : xs.length = 4
    · obtain ⟨x, y, z, u, rfl⟩ : ∃ x y z u, xs = [x, y, z, u] := by
        match xs, hl with
        | [x, y, z, u], _ => exact ⟨x, y, z, u, rfl⟩
      obtain ⟨g, o, cap, rfl, c0, c1, c2, c3⟩ := byts_four (hb.below (below_alloc (Below.refl _ w) (.cells #[.bool false, .int .i64 0, .int .i64 0, .int .i64 0, .int .i64 0] 48)))
      clear hb hl
      have hx := x.isLt
      have hy := y.isLt
      have hz := z.isLt
      have hu := u.isLt
      unfold cntOf at hr
      dsimp only at hr
      obtain ⟨a, ha⟩ : ∃ a, (x.toNat : Int) = a := ⟨_, rfl⟩
      obtain ⟨b, hb⟩ : ∃ b, (y.toNat : Int) = b := ⟨_, rfl⟩
      obtain ⟨c, hc⟩ : ∃ c, (z.toNat : Int) = c := ⟨_, rfl⟩
      obtain ⟨d, hd⟩ : ∃ d, (u.toNat : Int) = d := ⟨_, rfl⟩
      rw [ha] at hr c0
      rw [hb] at hr c1
      rw [hc] at hr c2
      rw [hd] at hr c3
      have wa : IntKind.i64.wrap a = a := by rw [IntKind.wrap_i64]; omega
      have wb : IntKind.i64.wrap b = b := by rw [IntKind.wrap_i64]; omega
      have wc : IntKind.i64.wrap c = c := by rw [IntKind.wrap_i64]; omega
      have wd : IntKind.i64.wrap d = d := by rw [IntKind.wrap_i64]; omega
      clear ha hb hc hd hx hy hz hu
      by_cases h3 : c < 3
      · by_cases h4 : d < 4
        · rw [if_pos ⟨h3, h4⟩] at hr
          subst hr
          go_enter Tryd.func55, Tryd.ntmps55
          go_wp2_with fail
          go_region
          go_wp2_with fail
          (try simp only [Exit.inBlock, Exit.then])
          refine bodyPost_ret ?_ rfl ⟨rfl, ?_⟩
          · rw [results_cell1 rfl]
            go_simp
          · exact below_call (below_alloc (Below.refl _ w) _) (bel_drew _)
        · rw [if_neg (by omega)] at hr
          subst hr
          go_enter Tryd.func55, Tryd.ntmps55
          go_wp2_with fail
          (try simp only [Exit.inBlock, Exit.then])
          refine bodyPost_ret ?_ rfl ⟨rfl, below_alloc (Below.refl _ w) _⟩
          rw [results_cell1 rfl]
          go_simp
      · rw [if_neg (by omega)] at hr
        subst hr
        go_enter Tryd.func55, Tryd.ntmps55
        go_wp2_with fail
        (try simp only [Exit.inBlock, Exit.then])
        refine bodyPost_ret ?_ rfl ⟨rfl, below_alloc (Below.refl _ w) _⟩
        rw [results_cell1 rfl]
        go_simp
    · rw [cntOf_many hl] at hr
      subst hr
      obtain ⟨a, c, rfl⟩ := hb.len
      have hn : ((xs.length : Int) != 4) = true := by simp; omega
      clear hb
      go_enter Tryd.func55, Tryd.ntmps55
      go_wp2_with fail
      (try simp only [Exit.inBlock, Exit.then])
      refine bodyPost_ret ?_ rfl ⟨rfl, below_alloc (Below.refl _ w) _⟩
      rw [results_cell1 rfl]
      go_simp
end Go.Proofs.YtolfdfbhignniaaDoor
/-
  The document's Counts by a contract.
-/
namespace Go.Proofs.YtolfdfbhignniaaDoor
open Go.RowKit

set_option maxHeartbeats 4000000 in
theorem rcounts_to (ok : Bool) (xs : List (BitVec 8)) (v : Value) (r : Ct) (hr : cntOf ok xs = r) (w : World) (hb : Byts w v xs) :
    Calls Tryd.prog 44 #[v, .bool ok] w fun e w' => e = .returned (.agg #[.bool r.fr, .int .i64 r.i, .int .i64 r.o, .int .i64 r.cs, .int .i64 r.l]) ∧ Below w.heap.size w w' := by
  cases ok with
  | false =>
    rw [cntOf_no] at hr
    subst hr
    clear hb
    go_enter Tryd.func44, Tryd.ntmps44
    go_wp2_with fail
    (try simp only [Exit.inBlock, Exit.then])
    refine bodyPost_ret ?_ rfl ⟨rfl, below_alloc (Below.refl _ w) _⟩
    rw [results_cell1 rfl]
    go_simp
  | true =>
    by_cases hl : xs.length = 4
    · obtain ⟨x, y, z, u, rfl⟩ : ∃ x y z u, xs = [x, y, z, u] := by
        match xs, hl with
        | [x, y, z, u], _ => exact ⟨x, y, z, u, rfl⟩
      obtain ⟨g, o, cap, rfl, c0, c1, c2, c3⟩ := byts_four (hb.below (below_alloc (Below.refl _ w) (.cells #[.bool false, .int .i64 0, .int .i64 0, .int .i64 0, .int .i64 0] 48)))
      clear hb hl
      have hx := x.isLt
      have hy := y.isLt
      have hz := z.isLt
      have hu := u.isLt
      unfold cntOf at hr
      dsimp only at hr
      obtain ⟨a, ha⟩ : ∃ a, (x.toNat : Int) = a := ⟨_, rfl⟩
      obtain ⟨b, hb⟩ : ∃ b, (y.toNat : Int) = b := ⟨_, rfl⟩
      obtain ⟨c, hc⟩ : ∃ c, (z.toNat : Int) = c := ⟨_, rfl⟩
      obtain ⟨d, hd⟩ : ∃ d, (u.toNat : Int) = d := ⟨_, rfl⟩
      rw [ha] at hr c0
      rw [hb] at hr c1
      rw [hc] at hr c2
      rw [hd] at hr c3
      have wa : IntKind.i64.wrap a = a := by rw [IntKind.wrap_i64]; omega
      have wb : IntKind.i64.wrap b = b := by rw [IntKind.wrap_i64]; omega
      have wc : IntKind.i64.wrap c = c := by rw [IntKind.wrap_i64]; omega
      have wd : IntKind.i64.wrap d = d := by rw [IntKind.wrap_i64]; omega
      clear ha hb hc hd hx hy hz hu
      by_cases h3 : c < 3
      · by_cases h4 : d < 4
        · rw [if_pos ⟨h3, h4⟩] at hr
          subst hr
          have g3 : ¬ 2 < c := by omega
          have g4 : ¬ 3 < d := by omega
          go_enter Tryd.func44, Tryd.ntmps44
          go_wp2_with fail
          go_region
          go_wp2_with fail
          (try simp only [Exit.inBlock, Exit.then])
          refine bodyPost_ret ?_ rfl ⟨rfl, ?_⟩
          · rw [results_cell1 rfl]
            go_simp
          · exact below_call (below_alloc (Below.refl _ w) _) (bel_drew _)
        · rw [if_neg (by omega)] at hr
          subst hr
          have g3 : ¬ 2 < c := by omega
          have g4 : 3 < d := by omega
          go_enter Tryd.func44, Tryd.ntmps44
          go_wp2_with fail
          (try simp only [Exit.inBlock, Exit.then])
          refine bodyPost_ret ?_ rfl ⟨rfl, below_alloc (Below.refl _ w) _⟩
          rw [results_cell1 rfl]
          go_simp
      · rw [if_neg (by omega)] at hr
        subst hr
        have g3 : 2 < c := by omega
        go_enter Tryd.func44, Tryd.ntmps44
        go_wp2_with fail
        (try simp only [Exit.inBlock, Exit.then])
        refine bodyPost_ret ?_ rfl ⟨rfl, below_alloc (Below.refl _ w) _⟩
        rw [results_cell1 rfl]
        go_simp
    · rw [cntOf_many hl] at hr
      subst hr
      obtain ⟨a, c, rfl⟩ := hb.len
      have hn : ((xs.length : Int) != 4) = true := by simp; omega
      clear hb
      go_enter Tryd.func44, Tryd.ntmps44
      go_wp2_with fail
      (try simp only [Exit.inBlock, Exit.then])
      refine bodyPost_ret ?_ rfl ⟨rfl, below_alloc (Below.refl _ w) _⟩
      rw [results_cell1 rfl]
      go_simp
end Go.Proofs.YtolfdfbhignniaaDoor
