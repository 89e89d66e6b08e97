/-
  The walk of crossbucklaw01.FaultPlain: true, whatever it is given.
-/
import Derived.Test.YteggehjbkbfdfaaDoorFinds
namespace Go.Proofs.YteggehjbkbfdfaaDoor
open Go.RowKit Go.Extern.Stop Go.Stop Go.Extern

theorem new_plain (s : ByteArray) (w : World) :
    Calls Tryd.prog 18 #[.string s] w fun e w' => e = .returned (.iface 65 (.pointer (some ⟨w.heap.size, 0, none⟩))) ∧ w' = w.alloc (.cells #[.string s] 67) := by
  go_enter Tryd.func18, Tryd.ntmps18
  go_wp2
  go_ret
  exact ⟨rfl, rfl⟩

theorem ba_ext {a b : ByteArray} (h : a.data.toList = b.data.toList) : a = b := by
  cases a; cases b
  simp only [ByteArray.mk.injEq]
  exact Array.toList_inj.1 h

theorem chainText_one (p s : ByteArray) : chainText [p] s = p ++ (⟨#[58, 32]⟩ : ByteArray) ++ s := by
  apply ba_ext
  simp [chainText, Lib.join, List.intercalate, ByteArray.data_append]

theorem chainText_size_one (p s : ByteArray) (h1 : p.size ≤ 1000) (h2 : s.size ≤ 1000) : (chainText [p] s).size ≤ 140737488355328 := by
  rw [chainText_one]
  simp [ByteArray.size_append]
  have : (⟨#[58, 32]⟩ : ByteArray).size = 2 := rfl
  omega

theorem one_len {w : World} {B : Nat} {v : Value} {p : ByteArray} (h : w.ownsRow B 9 1 v [p].length ([p].map Value.string)) : ∃ g cap, v = .slice (some ⟨g, 0, none⟩) 1 cap := by
  obtain ⟨g, cap, hv, _⟩ := own_some h (by simp)
  exact ⟨g, cap, hv⟩

set_option maxHeartbeats 4000000 in
set_option maxRecDepth 100000 in
theorem plain_long (s what : ByteArray) (n : Int) (w : World) (hg : ErrType w) (hc : 1000 < s.size ∨ 1000 < what.size) (hs : s.size ≤ maxLen) (hw : what.size ≤ maxLen) :
    Calls Tryd.prog 6 #[.string s, .int .i64 n, .string what] w fun e w' => e = .returned (.bool true) ∧ Below w.heap.size w w' := by
  have HS := Lib.hid (small_true w hg)
  have HG := Lib.hid hg
  clear hg
  unfold maxLen at hs hw
  by_cases h1 : 1000 < s.size
  · clear hc
    go_enter Tryd.func6, Tryd.ntmps6
    go_wp2_with fail
    (with_reducible refine HS.out.mono ?_)
    rintro e w1 ⟨rfl, hb⟩
    go_wp2_with fail
    (with_reducible refine (new_plain s _).mono ?_)
    rintro e w2 ⟨rfl, rfl⟩
    go_wp2_with fail
    (with_reducible refine (wrap_plain _ what _ ((HG.out.below hb).alloc _)).mono ?_)
    rintro e w3 ⟨b, rfl, _, _, _, hb3⟩
    go_wp2_with fail
    go_ret
    exact ⟨rfl, (hb.alloc hb.size _).trans (hb3.mono (le_alloc hb.size _))⟩
  · have h1' : s.size ≤ 1000 := by omega
    have h2 : 1000 < what.size := by omega
    clear hc h1
    go_enter Tryd.func6, Tryd.ntmps6
    go_wp2_with fail
    (with_reducible refine HS.out.mono ?_)
    rintro e w1 ⟨rfl, hb⟩
    go_wp2_with fail
    (with_reducible refine (new_plain s _).mono ?_)
    rintro e w2 ⟨rfl, rfl⟩
    go_wp2_with fail
    (with_reducible refine (wrap_plain _ what _ ((HG.out.below hb).alloc _)).mono ?_)
    rintro e w3 ⟨b, rfl, _, _, _, hb3⟩
    go_wp2_with fail
    go_ret
    exact ⟨rfl, (hb.alloc hb.size _).trans (hb3.mono (le_alloc hb.size _))⟩

set_option maxHeartbeats 4000000 in
set_option maxRecDepth 100000 in
theorem plain_short (s what : ByteArray) (n : Int) (w : World) (hg : ErrType w) (hs : s.size ≤ 1000) (hw : what.size ≤ 1000) :
    Calls Tryd.prog 6 #[.string s, .int .i64 n, .string what] w fun e w' => e = .returned (.bool true) ∧ Below w.heap.size w w' := by
  have HS := Lib.hid (small_true w hg)
  have HG := Lib.hid hg
  have mP := methodErrorP
  clear hg
  go_enter Tryd.func6, Tryd.ntmps6
  go_wp2_with fail
  (with_reducible refine HS.out.mono ?_)
  rintro e w1 ⟨rfl, hb⟩
  have HB := Lib.hid hb
  have HG1 := Lib.hid (HG.out.below hb)
  clear hb HG HS
  go_wp2_with fail
  (with_reducible refine (new_plain s _).mono ?_)
  rintro e w2 ⟨rfl, hw2⟩
  have hq2 : w2.cell? ⟨w1.heap.size, 0, none⟩ = some (.string s) := by rw [hw2]; simp
  have HB2 := Lib.hid (show Below w.heap.size w w2 by rw [hw2]; exact HB.out.alloc HB.out.size _)
  have HG2 := Lib.hid (show ErrType w2 by rw [hw2]; exact HG1.out.alloc _)
  clear hw2 HB HG1
  generalize w1.heap.size = q at *
  go_wp2_with fail
  (with_reducible refine (wrap_plain _ what _ HG2.out).mono ?_)
  rintro e w3 ⟨b, rfl, c0, c1, c2, hb3⟩
  have hq3 := keeps_below hb3 _ _ hq2
  have HB3 := Lib.hid (HB2.out.trans (hb3.mono HB2.out.size))
  have HG3 := Lib.hid (HG2.out.below hb3)
  have HC3 : Hid (Chain w3 (.iface 65 (.pointer (some ⟨q, 0, none⟩))) 99 [what] (.iface 45 (.pointer (some ⟨b, 0, none⟩)))) := ⟨b, _, rfl, c0, c1, c2, rfl⟩
  clear c0 c1 c2 hb3 HB2 HG2 hq2
  go_wp2_with fail
  (with_reducible refine (code_plain _ _ HG3.out).mono ?_)
  rintro e w4 ⟨rfl, hb4⟩
  have hq4 := keeps_below hb4 _ _ hq3
  have HB4 := Lib.hid (HB3.out.trans (hb4.mono HB3.out.size))
  have HC4 := Lib.hid (HC3.out.kept (keeps_below hb4))
  clear hb4 HB3 HG3 HC3 hq3
  go_wp2_with fail
  (with_reducible refine (path_base _ _ (isBase_plain _)).mono ?_)
  rintro e w4 ⟨rfl, rfl⟩
  obtain ⟨b', u, e', hc0, hc1, hc2, hu⟩ := HC4.out
  simp only [Value.iface.injEq, Value.pointer.injEq, Option.some.injEq, Addr.mk.injEq] at e'
  obtain ⟨_, rfl, _⟩ := e'
  simp only [Chain] at hu
  subst hu
  go_wp2_with fail
  (with_reducible refine (code_place _ 99 _ hc1).mono ?_)
  rintro e w4 ⟨rfl, rfl⟩
  have hT := place_text _ s what 99 [] b w4 (.inr ⟨⟨q, 0, none⟩, rfl, hq4⟩) HC4.out (by decide) (chainText_size_one what s hw hs)
  rw [chainText_one] at hT
  have HT := Lib.hid hT
  clear hT hc0 hq4
  go_wp2_with fail
  (with_reducible refine HT.out.mono ?_)
  rintro e w5 ⟨rfl, hb5⟩
  have hd1 := keeps_below hb5 _ _ hc1
  have hd2 := keeps_below hb5 _ _ hc2
  have HB5 := Lib.hid (HB4.out.trans (hb5.mono HB4.out.size))
  have HC5 := Lib.hid (HC4.out.kept (keeps_below hb5))
  clear hb5 HB4 HC4 hc1 hc2 HT
  go_wp2_with fail
  (with_reducible refine (is_behind b _ _ hd2).mono ?_)
  rintro e w5 ⟨rfl, rfl⟩
  go_wp2_with fail
  (with_reducible refine (path_any _ 99 [what] _ _ (isBase_plain _) HC5.out (by simp)).mono ?_)
  rintro e w6 ⟨sq, rfl, hown, hb6⟩
  have HB6 := Lib.hid (HB5.out.trans (hb6.mono HB5.out.size))
  obtain ⟨g, cap, rfl⟩ := one_len hown
  clear hown hb6 hd1 hd2 HB5 HC5
  go_wp2_with fail
  (with_reducible refine (path_base _ _ (isBase_num n)).mono ?_)
  rintro e w6 ⟨rfl, rfl⟩
  go_wp2_with fail
  go_ret
  exact ⟨rfl, HB6.out⟩

theorem plain_any (s what : ByteArray) (n : Int) (w : World) (hg : ErrType w) (hs : s.size ≤ maxLen) (hw : what.size ≤ maxLen) :
    Calls Tryd.prog 6 #[.string s, .int .i64 n, .string what] w fun e w' => e = .returned (.bool true) ∧ Below w.heap.size w w' := by
  by_cases h : 1000 < s.size ∨ 1000 < what.size
  · exact plain_long s what n w hg h hs hw
  · exact plain_short s what n w hg (by omega) (by omega)
end Go.Proofs.YteggehjbkbfdfaaDoor
