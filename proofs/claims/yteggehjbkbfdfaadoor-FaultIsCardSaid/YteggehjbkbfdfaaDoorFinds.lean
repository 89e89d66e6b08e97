/-
  The walks of crossbucklaw01.FaultFinds and crossbucklaw01.FaultIs: true, whatever they are given.
-/
import Derived.Test.YteggehjbkbfdfaaDoorSmall
namespace Go.Proofs.YteggehjbkbfdfaaDoor
open Go.RowKit Go.Extern.Stop Go.Stop Go.Extern

theorem Strs.lenI {w : World} {v : Value} {xs : List ByteArray} (h : Strs w v xs) : ∃ a c, v = .slice a xs.length c := h.len

/-- The ways on which a law answers what small answers: no place, or too many. -/
theorem lens (k : Nat) : (k = 0 ∨ 50 < k) ∨ (0 < k ∧ k ≤ 50) := by omega

theorem MadeR.num {B : Nat} {w wr : World} {n : Int} {xs : List ByteArray} {ev pv : Value} (h : MadeR B w wr n xs xs.length ev pv) (h0 : 0 < xs.length) :
    ∃ b, ev = .iface 45 (.pointer (some ⟨b, 0, none⟩)) ∧ wr.cell? ⟨b, 1, none⟩ = some (.int .i64 n) := h.place h0 (Nat.le_refl _)

set_option maxHeartbeats 4000000 in
set_option maxRecDepth 100000 in
theorem finds_none (n : Int) (v : Value) (xs : List ByteArray) (w : World) (hv : Strs w v xs) (hg : ErrType w) (hc : (xs.length = 0 ∨ 50 < xs.length) ∨ n = 0) (hm : xs.length ≤ maxLen) :
    Calls Tryd.prog 5 #[.int .i64 n, v] w fun e w' => e = .returned (.bool true) ∧ Below w.heap.size w w' := by
  obtain ⟨a, c, rfl⟩ := hv.len
  have HS := Lib.hid (small_true w hg)
  clear hv hg
  unfold maxLen at hm
  generalize xs.length = k at *
  by_cases h0 : k = 0
  · subst h0
    go_enter Tryd.func5, Tryd.ntmps5
    go_wp2_with fail
    (with_reducible refine HS.out.mono ?_)
    rintro e w1 ⟨rfl, hb⟩
    go_wp2_with fail
    go_ret
    exact ⟨rfl, hb⟩
  · have e0 : ((k : Int) == 0) = false := by simp; omega
    by_cases h5 : 50 < k
    · go_enter Tryd.func5, Tryd.ntmps5
      go_wp2_with fail
      (with_reducible refine HS.out.mono ?_)
      rintro e w1 ⟨rfl, hb⟩
      go_wp2_with fail
      go_ret
      exact ⟨rfl, hb⟩
    · obtain rfl : n = 0 := by omega
      have h5' : k ≤ 50 := by omega
      clear h5
      go_enter Tryd.func5, Tryd.ntmps5
      go_wp2_with fail
      (with_reducible refine HS.out.mono ?_)
      rintro e w1 ⟨rfl, hb⟩
      go_wp2_with fail
      go_ret
      exact ⟨rfl, hb⟩

set_option maxHeartbeats 4000000 in
set_option maxRecDepth 100000 in
theorem finds_some (n : Int) (hn : n ≠ 0) (v : Value) (xs : List ByteArray) (w : World) (hv : Strs w v xs) (hg : ErrType w) (h0 : 0 < xs.length) (h5 : xs.length ≤ 50) :
    Calls Tryd.prog 5 #[.int .i64 n, v] w fun e w' => e = .returned (.bool true) ∧ Below w.heap.size w w' := by
  obtain ⟨a, c, rfl⟩ := hv.len
  have HS := Lib.hid (small_true w hg)
  have HV := Lib.hid hv
  have HG := Lib.hid hg
  clear hv hg
  have e0 : ((xs.length : Int) == 0) = false := beq_eq_false_iff_ne.2 (by omega)
  have e1 : (n == 0) = false := by simp [hn]
  have e2 : (n == n) = true := by simp
  go_enter Tryd.func5, Tryd.ntmps5
  go_wp2_with fail
  (with_reducible refine HS.out.mono ?_)
  rintro e w1 ⟨rfl, hb⟩
  have HB := Lib.hid hb
  clear hb
  go_wp2_with fail
  (with_reducible refine (made_num n hn _ xs _ (HV.out.below HB.out) h0 h5).mono ?_)
  rintro e w2 ⟨ev, pv, rfl, hR⟩
  obtain ⟨b, rfl, hnum⟩ := hR.num h0
  have HC := Lib.hid hR.chain
  have HB2 := Lib.hid (HB.out.trans (hR.below.mono HB.out.size))
  have HG2 := Lib.hid ((HG.out.below HB.out).below hR.below)
  clear hR HB
  have hnum' : ∀ o, (w2.alloc o).cell? ⟨b, 1, none⟩ = some (.int .i64 n) := fun o => keeps_alloc _ _ _ _ hnum
  go_wp2_with fail
  (with_reducible refine (is_place b n _ (hnum' _)).mono ?_)
  rintro e w3 ⟨rfl, rfl⟩
  go_wp2_with fail
  (with_reducible refine (as_found2 n _ (.int .i64 0) _ _ _ _ (HC.out.kept (keeps_alloc _ _)) (HG2.out.alloc _) (by simp) (by simp)).mono ?_)
  rintro e w3 ⟨rfl, hc, hb3, hz⟩
  go_wp2_with fail
  go_ret
  exact ⟨by simp, (HB2.out.alloc HB2.out.size _).trans (hb3.mono HB2.out.size)⟩

theorem finds_any (n : Int) (v : Value) (xs : List ByteArray) (w : World) (hv : Strs w v xs) (hg : ErrType w) (hm : xs.length ≤ maxLen) :
    Calls Tryd.prog 5 #[.int .i64 n, v] w fun e w' => e = .returned (.bool true) ∧ Below w.heap.size w w' := by
  rcases lens xs.length with h | ⟨h0, h5⟩
  · exact finds_none n v xs w hv hg (.inl h) hm
  · by_cases hn : n = 0
    · exact finds_none n v xs w hv hg (.inr hn) hm
    · exact finds_some n hn v xs w hv hg h0 h5
end Go.Proofs.YteggehjbkbfdfaaDoor
