/-
  sensor's Counts by a contract.
-/
import Derived.Test.YtnbhjnbdnngiiaaSnRead
import Derived.StillTailTactics
namespace Go.Proofs.Ytnbhjnbdnngiiaa
open Go.RowKit

set_option maxHeartbeats 4000000 in
theorem counts_to (ok : Bool) (xs : List (BitVec 8)) (v : Value) (r : Ct) (hr : cntOf ok xs = r) (w : World) (hb : Byts w v xs) :
    Calls Try.prog 21 #[v, .bool ok] w fun e w' => e = .returned (.agg #[.bool r.fr, .int .i64 r.i, .int .i64 r.o, .int .i64 r.cs, .int .i64 r.l]) ∧ Below w.heap.size w w' := by
  cases ok with
  | false =>
    rw [cntOf_no] at hr
    subst hr
    clear hb
    go_enter Try.func21, Try.ntmps21
    go_wp2_with fail
    (try simp only [Exit.inBlock, Exit.then])
    refine bodyPost_ret ?_ rfl ⟨rfl, below_alloc (Below.refl _ w) _⟩
    rw [results_cell1 rfl]
    go_simp
  | true =>
    by_cases hl : xs.length = 4
    · obtain ⟨x, y, z, u, rfl⟩ : ∃ x y z u, xs = [x, y, z, u] := by
        match xs, hl with
        | [x, y, z, u], _ => exact ⟨x, y, z, u, rfl⟩
      obtain ⟨g, o, cap, rfl, c0, c1, c2, c3⟩ := byts_four (hb.below (below_alloc (Below.refl _ w) (.cells #[.bool false, .int .i64 0, .int .i64 0, .int .i64 0, .int .i64 0] 33)))
      clear hb hl
      have hx := x.isLt
      have hy := y.isLt
      have hz := z.isLt
      have hu := u.isLt
      unfold cntOf at hr
      dsimp only at hr
      obtain ⟨a, ha⟩ : ∃ a, (x.toNat : Int) = a := ⟨_, rfl⟩
      obtain ⟨b, hb⟩ : ∃ b, (y.toNat : Int) = b := ⟨_, rfl⟩
      obtain ⟨c, hc⟩ : ∃ c, (z.toNat : Int) = c := ⟨_, rfl⟩
      obtain ⟨d, hd⟩ : ∃ d, (u.toNat : Int) = d := ⟨_, rfl⟩
      rw [ha] at hr c0
      rw [hb] at hr c1
      rw [hc] at hr c2
      rw [hd] at hr c3
      have wa : IntKind.i64.wrap a = a := by rw [IntKind.wrap_i64]; omega
      have wb : IntKind.i64.wrap b = b := by rw [IntKind.wrap_i64]; omega
      have wc : IntKind.i64.wrap c = c := by rw [IntKind.wrap_i64]; omega
      have wd : IntKind.i64.wrap d = d := by rw [IntKind.wrap_i64]; omega
      clear ha hb hc hd hx hy hz hu
      by_cases h3 : c < 3
      · by_cases h4 : d < 4
        · rw [if_pos ⟨h3, h4⟩] at hr
          subst hr
          go_enter Try.func21, Try.ntmps21
          go_wp2_with fail
          go_region
          go_wp2_with fail
          (try simp only [Exit.inBlock, Exit.then])
          refine bodyPost_ret ?_ rfl ⟨rfl, ?_⟩
          · rw [results_cell1 rfl]
            go_simp
          · exact below_call (below_alloc (Below.refl _ w) _) (bel_drew _)
        · rw [if_neg (by omega)] at hr
          subst hr
          go_enter Try.func21, Try.ntmps21
          go_wp2_with fail
          (try simp only [Exit.inBlock, Exit.then])
          refine bodyPost_ret ?_ rfl ⟨rfl, below_alloc (Below.refl _ w) _⟩
          rw [results_cell1 rfl]
          go_simp
      · rw [if_neg (by omega)] at hr
        subst hr
        go_enter Try.func21, Try.ntmps21
        go_wp2_with fail
        (try simp only [Exit.inBlock, Exit.then])
        refine bodyPost_ret ?_ rfl ⟨rfl, below_alloc (Below.refl _ w) _⟩
        rw [results_cell1 rfl]
        go_simp
    · rw [cntOf_many hl] at hr
      subst hr
      obtain ⟨a, c, rfl⟩ := hb.len
      have hn : ((xs.length : Int) != 4) = true := by simp; omega
      clear hb
      go_enter Try.func21, Try.ntmps21
      go_wp2_with fail
      (try simp only [Exit.inBlock, Exit.then])
      refine bodyPost_ret ?_ rfl ⟨rfl, below_alloc (Below.refl _ w) _⟩
      rw [results_cell1 rfl]
      go_simp
end Go.Proofs.Ytnbhjnbdnngiiaa
