/-
  The walk of crossbucklaw01.FaultDeep: true, whatever it is given.
-/
import Derived.Test.YteggehjbkbfdfaaDoorFinds
namespace Go.Proofs.YteggehjbkbfdfaaDoor
open Go.RowKit Go.Extern.Stop Go.Stop Go.Extern

set_option maxHeartbeats 4000000 in
set_option maxRecDepth 100000 in
theorem deep_none (n : Int) (v : Value) (more : ByteArray) (xs : List ByteArray) (w : World) (hv : Strs w v xs) (hg : ErrType w) (hc : (xs.length = 0 ∨ 50 < xs.length) ∨ n = 0) (hm : xs.length ≤ maxLen) :
    Calls Tryd.prog 7 #[.int .i64 n, v, .string more] w fun e w' => e = .returned (.bool true) ∧ Below w.heap.size w w' := by
  obtain ⟨a, c, rfl⟩ := hv.len
  have HS := Lib.hid (small_true w hg)
  clear hv hg
  unfold maxLen at hm
  generalize xs.length = k at *
  by_cases h0 : k = 0
  · subst h0
    go_enter Tryd.func7, Tryd.ntmps7
    go_wp2_with fail
    (with_reducible refine HS.out.mono ?_)
    rintro e w1 ⟨rfl, hb⟩
    go_wp2_with fail
    go_ret
    exact ⟨rfl, hb⟩
  · have e0 : ((k : Int) == 0) = false := by simp; omega
    by_cases h5 : 50 < k
    · go_enter Tryd.func7, Tryd.ntmps7
      go_wp2_with fail
      (with_reducible refine HS.out.mono ?_)
      rintro e w1 ⟨rfl, hb⟩
      go_wp2_with fail
      go_ret
      exact ⟨rfl, hb⟩
    · obtain rfl : n = 0 := by omega
      have h5' : k ≤ 50 := by omega
      clear h5
      go_enter Tryd.func7, Tryd.ntmps7
      go_wp2_with fail
      (with_reducible refine HS.out.mono ?_)
      rintro e w1 ⟨rfl, hb⟩
      go_wp2_with fail
      go_ret
      exact ⟨rfl, hb⟩

theorem chain_wrap {w : World} {n : Int} {base : Value} {cs : List ByteArray} {b : Nat} (more : ByteArray) (h : Chain w base n cs (.iface 45 (.pointer (some ⟨b, 0, none⟩)))) :
    Chain (w.alloc (.cells #[.string more, .int .i64 n, .iface 45 (.pointer (some ⟨b, 0, none⟩))] 48)) base n (more :: cs) (.iface 45 (.pointer (some ⟨w.heap.size, 0, none⟩))) :=
  ⟨_, .iface 45 (.pointer (some ⟨b, 0, none⟩)), rfl, by simp, by simp, by simp, h.kept (keeps_alloc _ _)⟩

/-- A path of at least two, and all of it but the first place. -/
theorem path_parts {w : World} {B : Nat} {v : Value} {more : ByteArray} {cs : List ByteArray} (h : w.ownsRow B 9 1 v (more :: cs).length ((more :: cs).map Value.string)) :
    ∃ g cap, v = .slice (some ⟨g, 0, none⟩) (cs.length + 1) cap ∧ cs.length + 1 ≤ cap ∧ w.cell? ⟨g, 0, none⟩ = some (.string more) ∧ Strs w (.slice (some ⟨g, 1, none⟩) cs.length (cap - 1)) cs := by
  obtain ⟨g, cap, hv, hcap, hg, _, hc⟩ := own_some h (by simp)
  refine ⟨g, cap, hv, by simpa using hcap, by simpa using hc 0 _ rfl, .inr ⟨g, 1, cap - 1, rfl, ?_, ?_⟩⟩
  · simp at hcap; omega
  · intro j x hj
    have := hc (j + 1) (.string x) (by simp [hj])
    rwa [show 0 + (j + 1) = 1 + j by omega] at this

set_option maxHeartbeats 4000000 in
set_option maxRecDepth 100000 in
theorem deep_some (n : Int) (hn : n ≠ 0) (v : Value) (more : ByteArray) (xs : List ByteArray) (w : World) (hv : Strs w v xs) (hg : ErrType w) (h0 : 0 < xs.length) (h5 : xs.length ≤ 50) :
    Calls Tryd.prog 7 #[.int .i64 n, v, .string more] w fun e w' => e = .returned (.bool true) ∧ Below w.heap.size w w' := by
  obtain ⟨a, c, rfl⟩ := hv.len
  have HS := Lib.hid (small_true w hg)
  have HV := Lib.hid hv
  have HG := Lib.hid hg
  clear hv hg
  have e0 : ((xs.length : Int) == 0) = false := beq_eq_false_iff_ne.2 (by omega)
  have e1 : (n == 0) = false := by simp [hn]
  have e2 : (n == n) = true := by simp
  go_enter Tryd.func7, Tryd.ntmps7
  go_wp2_with fail
  (with_reducible refine HS.out.mono ?_)
  rintro e w1 ⟨rfl, hb⟩
  have HB := Lib.hid hb
  clear hb
  go_wp2_with fail
  (with_reducible refine (made_num n hn _ xs _ (HV.out.below HB.out) h0 h5).mono ?_)
  rintro e w2 ⟨ev, pv, rfl, hR⟩
  obtain ⟨b, rfl, hnum⟩ := hR.num h0
  have hch := hR.chain
  rw [List.take_length] at hch
  have hcl : xs.reverse.length ≤ 50 := by simpa using h5
  have hcp : 0 < xs.reverse.length := by simpa using h0
  generalize hcs : xs.reverse = cs at *
  have HB2 := Lib.hid (HB.out.trans (hR.below.mono HB.out.size))
  have HC := Lib.hid hch
  clear hR HB hch hcs HV HS HG
  go_wp2_with fail
  (with_reducible refine (path_any _ n cs _ _ (isBase_num n) HC.out (by omega)).mono ?_)
  rintro e w3 ⟨sp, rfl, hown, hb3⟩
  have hnum3 := keeps_below hb3 _ _ hnum
  have HC3 := Lib.hid (HC.out.kept (keeps_below hb3))
  have HP := Lib.hid (Strs.of_own hown)
  have HB3 := Lib.hid (HB2.out.trans (hb3.mono HB2.out.size))
  obtain ⟨ap, cp, hsp⟩ := HP.out.len
  subst hsp
  clear hown hb3 HC HB2 hnum
  go_wp2_with fail
  (with_reducible refine (wrap_place b n more _ hnum3).mono ?_)
  rintro e w4 ⟨rfl, hw4⟩
  have hch4 := chain_wrap more HC3.out
  have hb4 : Below w3.heap.size w3 w4 := by rw [hw4]; exact (Below.refl _ _).alloc (Nat.le_refl _) _
  rw [← hw4] at hch4
  have hnum4 := keeps_below hb4 _ _ hnum3
  have HC4 := Lib.hid hch4
  have HP4 := Lib.hid (HP.out.below hb4)
  have HB4 := Lib.hid (HB3.out.trans (hb4.mono HB3.out.size))
  clear hw4 hch4 hb4 hnum3 HC3 HP HB3
  generalize w3.heap.size = b4 at *
  go_wp2_with fail
  (with_reducible refine (path_any _ n (more :: cs) _ _ (isBase_num n) HC4.out (by simp; omega)).mono ?_)
  rintro e w5 ⟨sq, rfl, hown5, hb5⟩
  have hnum5 := keeps_below hb5 _ _ hnum4
  have HP5 := Lib.hid (HP4.out.below hb5)
  have HB5 := Lib.hid (HB4.out.trans (hb5.mono HB4.out.size))
  obtain ⟨g, cap, rfl, hcap, hq0, hq1⟩ := path_parts hown5
  have HQ := Lib.hid hq1
  have hc1 : 1 < cap := by omega
  have hc2 : ¬ cap = 1 := by omega
  clear hown5 hb5 hq1 HC4 HP4 HB4 hnum4
  go_wp2_with fail
  (with_reducible refine (same_true _ _ cs _ HQ.out HP5.out (by omega)).mono ?_)
  rintro e w6 ⟨rfl, hb6⟩
  have hnum6 := keeps_below hb6 _ _ hnum5
  have HB6 := Lib.hid (HB5.out.trans (hb6.mono HB5.out.size))
  clear hb6 hnum5 HB5 HP5 HQ hq0 hc1 hc2 hcap
  go_wp2_with fail
  (with_reducible refine (wrap_place b n more _ hnum6).mono ?_)
  rintro e w7 ⟨rfl, hw7⟩
  have hb7 : Below w6.heap.size w6 w7 := by rw [hw7]; exact (Below.refl _ _).alloc (Nat.le_refl _) _
  have hn7 : w7.cell? ⟨w6.heap.size, 1, none⟩ = some (.int .i64 n) := by rw [hw7]; simp
  have hnum7 := keeps_below hb7 _ _ hnum6
  have HB7 := Lib.hid (HB6.out.trans (hb7.mono HB6.out.size))
  clear hw7 hb7 hnum6 HB6
  go_wp2_with fail
  (with_reducible refine (code_place _ n _ hn7).mono ?_)
  rintro e w7 ⟨rfl, rfl⟩
  go_wp2_with fail
  (with_reducible refine (code_place _ n _ hnum7).mono ?_)
  rintro e w7 ⟨rfl, rfl⟩
  go_wp2_with fail
  go_ret
  exact ⟨by simp, HB7.out⟩

theorem deep_any (n : Int) (v : Value) (more : ByteArray) (xs : List ByteArray) (w : World) (hv : Strs w v xs) (hg : ErrType w) (hm : xs.length ≤ maxLen) :
    Calls Tryd.prog 7 #[.int .i64 n, v, .string more] w fun e w' => e = .returned (.bool true) ∧ Below w.heap.size w w' := by
  rcases lens xs.length with h | ⟨h0, h5⟩
  · exact deep_none n v more xs w hv hg (.inl h) hm
  · by_cases hn : n = 0
    · exact deep_none n v more xs w hv hg (.inr hn) hm
    · exact deep_some n hn v more xs w hv hg h0 h5
end Go.Proofs.YteggehjbkbfdfaaDoor
