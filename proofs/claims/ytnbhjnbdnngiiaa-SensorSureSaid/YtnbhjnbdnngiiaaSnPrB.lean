/-
  sensor's Print of a track by contracts.
-/
import Derived.Test.YtnbhjnbdnngiiaaSnPrA
import Derived.Test.YtnbhjnbdnngiiaaSnCnt
import Derived.Test.YtnbhjnbdnngiiaaCtOpen
namespace Go.Proofs.Ytnbhjnbdnngiiaa
open Go.RowKit

theorem four_at (w : World) {n0 n1 n2 n3 : Int} (h0 : 0 ≤ n0 ∧ n0 ≤ 255) (h1 : 0 ≤ n1 ∧ n1 ≤ 255) (h2 : 0 ≤ n2 ∧ n2 ≤ 255) (h3 : 0 ≤ n3 ∧ n3 ≤ 255) (g : Nat) (hg : g = w.heap.size) : Byts (w.alloc (.cells #[.int .u8 n0, .int .u8 n1, .int .u8 n2, .int .u8 n3] 5)) (.slice (some ⟨g, 0, none⟩) 4 4) [byteOf n0, byteOf n1, byteOf n2, byteOf n3] := by
  subst hg
  exact lit_byts w _ 4 (0, 0) _ (by simp [cel, byteOf_nat h0.1 h0.2, byteOf_nat h1.1 h1.2, byteOf_nat h2.1 h2.2, byteOf_nat h3.1 h3.2]) rfl
/-- Print has told four bytes. -/
def Said4 (w : World) (e : Ending) (w' : World) (xs : List (BitVec 8)) : Prop := ∃ g, e = .returned (.slice (some ⟨g, 0, none⟩) 4 4) ∧ Byts w' (.slice (some ⟨g, 0, none⟩) 4 4) xs ∧ w.heap.size ≤ g ∧ Below w.heap.size w w'
/-- The bytes of what is told of a track. -/
def ctBytes (y : Ct) : List (BitVec 8) := [byteOf (y.i % 256), byteOf (y.o % 256), byteOf (y.cs % 256), byteOf (y.l % 256)]
theorem blk_five {w : World} {g : Nat} {c0 c1 c2 c3 c4 : Value} {T : TypeId} (h : Blk w g #[c0, c1, c2, c3, c4] T) : w.cell? ⟨g, 0, none⟩ = some c0 ∧ w.cell? ⟨g, 1, none⟩ = some c1 ∧ w.cell? ⟨g, 2, none⟩ = some c2 ∧ w.cell? ⟨g, 3, none⟩ = some c3 ∧ w.cell? ⟨g, 4, none⟩ = some c4 := ⟨h.cell 0 rfl, h.cell 1 rfl, h.cell 2 rfl, h.cell 3 rfl, h.cell 4 rfl⟩
section
variable (a b c d s l o : Bool) (m : Int) (mn bt : Bool) (r : Int) (tv : Value) (w : World) (ls : List Ct) (ch : Int) (i : Nat) (y : Ct)
set_option maxHeartbeats 8000000 in
theorem print_track_yes (hv : Els RCt 5 w tv ls) (hch : ch = 8 + (i : Int)) (hi : i < 1000) (hy : ls[i]? = some y) (h :  (cntOf true (ctBytes y) = y)) : Calls Try.prog 23 #[.agg #[.bool a, .bool b, .bool c, .bool d, .bool s, .bool l, .bool o, .int .i64 m, .bool mn, .bool bt, .int .i64 r, tv], .int .i64 ch] w fun e w' => Said4 w e w' (ctBytes y) := by
  obtain ⟨fr, ci, co, cs, li⟩ := y
  obtain ⟨n, hn⟩ : ∃ n, n = ls.length := ⟨_, rfl⟩
  have hin : i < n := by rw [hn]; exact (List.getElem?_eq_some_iff.1 hy).1
  obtain ⟨ta, tc, et⟩ := hv.len
  rw [← hn] at et
  subst et
  obtain ⟨g, p, rfl, hR⟩ := hv.at_ hy
  obtain ⟨x0, hx0⟩ : ∃ x0, ci % 256 = x0 := ⟨_, rfl⟩
  obtain ⟨x1, hx1⟩ : ∃ x1, co % 256 = x1 := ⟨_, rfl⟩
  obtain ⟨x2, hx2⟩ : ∃ x2, cs % 256 = x2 := ⟨_, rfl⟩
  obtain ⟨x3, hx3⟩ : ∃ x3, li % 256 = x3 := ⟨_, rfl⟩
  have r0 : 0 ≤ x0 ∧ x0 ≤ 255 := by omega
  have r1 : 0 ≤ x1 ∧ x1 ≤ 255 := by omega
  have r2 : 0 ≤ x2 ∧ x2 ≤ 255 := by omega
  have r3 : 0 ≤ x3 ∧ x3 ≤ 255 := by omega
  have eb : ctBytes ⟨fr, ci, co, cs, li⟩ = [byteOf x0, byteOf x1, byteOf x2, byteOf x3] := by unfold ctBytes; rw [hx0, hx1, hx2, hx3]
  rw [eb] at h ⊢
  obtain ⟨⟨f', i', o', c', l'⟩, hz⟩ : ∃ z, cntOf true [byteOf x0, byteOf x1, byteOf x2, byteOf x3] = z := ⟨_, rfl⟩
  have hq : decide (samC f' i' o' c' l' fr ci co cs li) = true := by
    rw [hz] at h
    cases h
    simp
  obtain ⟨c0, c1, c2, c3, c4⟩ := hR.below (below_alloc (Below.refl _ w) (.cells #[.bool a, .bool b, .bool c, .bool d, .bool s, .bool l, .bool o, .int .i64 m, .bool mn, .bool bt, .int .i64 r, .slice (some ⟨g, p, none⟩) n tc] 38))
  have HY := Lib.hid (four_at ((w.alloc (.cells #[.bool a, .bool b, .bool c, .bool d, .bool s, .bool l, .bool o, .int .i64 m, .bool mn, .bool bt, .int .i64 r, .slice (some ⟨g, p, none⟩) n tc] 38)).alloc (.cells #[.bool fr, .int .i64 ci, .int .i64 co, .int .i64 cs, .int .i64 li] 33)) r0 r1 r2 r3 (w.heap.size + 1 + 1) (by simp))
  have HK := Lib.hid ((blk_new (w.alloc (.cells #[.bool a, .bool b, .bool c, .bool d, .bool s, .bool l, .bool o, .int .i64 m, .bool mn, .bool bt, .int .i64 r, .slice (some ⟨g, p, none⟩) n tc] 38)) #[.bool fr, .int .i64 ci, .int .i64 co, .int .i64 cs, .int .i64 li] 33).below (below_alloc (Below.refl _ ((w.alloc (.cells #[.bool a, .bool b, .bool c, .bool d, .bool s, .bool l, .bool o, .int .i64 m, .bool mn, .bool bt, .int .i64 r, .slice (some ⟨g, p, none⟩) n tc] 38)).alloc (.cells #[.bool fr, .int .i64 ci, .int .i64 co, .int .i64 cs, .int .i64 li] 33))) (.cells #[.int .u8 x0, .int .u8 x1, .int .u8 x2, .int .u8 x3] 5)))
  have HB := Lib.hid (below_alloc (below_alloc (below_alloc (Below.refl _ w) (.cells #[.bool a, .bool b, .bool c, .bool d, .bool s, .bool l, .bool o, .int .i64 m, .bool mn, .bool bt, .int .i64 r, .slice (some ⟨g, p, none⟩) n tc] 38)) (.cells #[.bool fr, .int .i64 ci, .int .i64 co, .int .i64 cs, .int .i64 li] 33)) (.cells #[.int .u8 x0, .int .u8 x1, .int .u8 x2, .int .u8 x3] 5))
  clear h eb r0 r1 r2 r3 hv hR hy hn
  have q0 : (ch == 0) = false := by simp; omega
  have q1 : (ch == 1) = false := by simp; omega
  have q2 : (ch == 2) = false := by simp; omega
  have q3 : (ch == 3) = false := by simp; omega
  have q4 : (ch == 4) = false := by simp; omega
  have q5 : (ch == 5) = false := by simp; omega
  have q6 : ¬ ch < 8 := by omega
  have q7 : IntKind.i64.wrap (ch - 8) = (i : Int) := by rw [IntKind.wrap_i64]; omega
  have q8 : ¬ (n : Int) ≤ (i : Int) := by omega
  clear hch hi
  go_enter Try.func23, Try.ntmps23
  go_wp2_with fail
  clear c0 c1 c2 c3 c4 q0 q1 q2 q3 q4 q5 q6 q7 q8
  obtain ⟨c0, c1, c2, c3, c4⟩ := blk_five HK.out
  rw [show (w.alloc (.cells #[.bool a, .bool b, .bool c, .bool d, .bool s, .bool l, .bool o, .int .i64 m, .bool mn, .bool bt, .int .i64 r, .slice (some ⟨g, p, none⟩) n tc] 38)).heap.size = w.heap.size + 1 by simp] at c0 c1 c2 c3 c4
  generalize ((w.alloc (.cells #[.bool a, .bool b, .bool c, .bool d, .bool s, .bool l, .bool o, .int .i64 m, .bool mn, .bool bt, .int .i64 r, .slice (some ⟨g, p, none⟩) n tc] 38)).alloc (.cells #[.bool fr, .int .i64 ci, .int .i64 co, .int .i64 cs, .int .i64 li] 33)).alloc (.cells #[.int .u8 x0, .int .u8 x1, .int .u8 x2, .int .u8 x3] 5) = w2 at *
  have HM := Lib.hid (fun (W : World) (hW : Below w2.heap.size w2 W) => counts_to true _ _ ⟨f', i', o', c', l'⟩ hz W (HY.out.below hW))
  have HS := Lib.hid (fun (v : Value) (W : World) => (said_to v true W).mono (fun e w' (h : e = .returned (if true then v else .slice none 0 0) ∧ w' = W) => (⟨by first | simpa using h.1 | exact h.1, by rw [h.2]; exact Below.refl _ W⟩ : e = .returned v ∧ Below W.heap.size W w')))
  have hE := eql_cnt f' i' o' c' l' fr ci co cs li true hq.symm
  clear HK hq hz
  dsimp only at HM
  replace c0 := cell_regrown c0
  replace c1 := cell_regrown c1
  replace c2 := cell_regrown c2
  replace c3 := cell_regrown c3
  replace c4 := cell_regrown c4
  refine wp_region_quiet_below (by kernel_rfl) (by kernel_rfl) ?_
  repeat (go_big_quiet_step (first | (with_reducible exact Calls.regrown_of (HM.out _ (below_regrown _ _ _))) | (with_reducible exact Calls.regrown_of (HS.out _ _))))
  refine wpQuiet_nil ?_
  intro _ hw'
  obtain ⟨⟨dq, osq⟩, hw''⟩ := hw'
  subst hw''
  clear c0 c1 c2 c3 c4
  go_wp2_with fail
  go_ret
  exact ⟨_, rfl, HY.out.below (below_regrown _ dq osq), by omega, below_call HB.out (below_regrown _ dq osq)⟩
set_option maxHeartbeats 8000000 in
theorem print_track_no (hv : Els RCt 5 w tv ls) (hch : ch = 8 + (i : Int)) (hi : i < 1000) (hy : ls[i]? = some y) (h : ¬ (cntOf true (ctBytes y) = y)) : Calls Try.prog 23 #[.agg #[.bool a, .bool b, .bool c, .bool d, .bool s, .bool l, .bool o, .int .i64 m, .bool mn, .bool bt, .int .i64 r, tv], .int .i64 ch] w fun e w' => e = .returned (.slice none 0 0) ∧ Below w.heap.size w w' := by
  obtain ⟨fr, ci, co, cs, li⟩ := y
  obtain ⟨n, hn⟩ : ∃ n, n = ls.length := ⟨_, rfl⟩
  have hin : i < n := by rw [hn]; exact (List.getElem?_eq_some_iff.1 hy).1
  obtain ⟨ta, tc, et⟩ := hv.len
  rw [← hn] at et
  subst et
  obtain ⟨g, p, rfl, hR⟩ := hv.at_ hy
  obtain ⟨x0, hx0⟩ : ∃ x0, ci % 256 = x0 := ⟨_, rfl⟩
  obtain ⟨x1, hx1⟩ : ∃ x1, co % 256 = x1 := ⟨_, rfl⟩
  obtain ⟨x2, hx2⟩ : ∃ x2, cs % 256 = x2 := ⟨_, rfl⟩
  obtain ⟨x3, hx3⟩ : ∃ x3, li % 256 = x3 := ⟨_, rfl⟩
  have r0 : 0 ≤ x0 ∧ x0 ≤ 255 := by omega
  have r1 : 0 ≤ x1 ∧ x1 ≤ 255 := by omega
  have r2 : 0 ≤ x2 ∧ x2 ≤ 255 := by omega
  have r3 : 0 ≤ x3 ∧ x3 ≤ 255 := by omega
  have eb : ctBytes ⟨fr, ci, co, cs, li⟩ = [byteOf x0, byteOf x1, byteOf x2, byteOf x3] := by unfold ctBytes; rw [hx0, hx1, hx2, hx3]
  rw [eb] at h
  obtain ⟨⟨f', i', o', c', l'⟩, hz⟩ : ∃ z, cntOf true [byteOf x0, byteOf x1, byteOf x2, byteOf x3] = z := ⟨_, rfl⟩
  have hq : decide (samC f' i' o' c' l' fr ci co cs li) = false := by
    rw [hz] at h
    rw [decide_eq_false_iff_not]
    rintro ⟨rfl, rfl, rfl, rfl, rfl⟩
    exact h rfl
  obtain ⟨c0, c1, c2, c3, c4⟩ := hR.below (below_alloc (Below.refl _ w) (.cells #[.bool a, .bool b, .bool c, .bool d, .bool s, .bool l, .bool o, .int .i64 m, .bool mn, .bool bt, .int .i64 r, .slice (some ⟨g, p, none⟩) n tc] 38))
  have HY := Lib.hid (four_at ((w.alloc (.cells #[.bool a, .bool b, .bool c, .bool d, .bool s, .bool l, .bool o, .int .i64 m, .bool mn, .bool bt, .int .i64 r, .slice (some ⟨g, p, none⟩) n tc] 38)).alloc (.cells #[.bool fr, .int .i64 ci, .int .i64 co, .int .i64 cs, .int .i64 li] 33)) r0 r1 r2 r3 (w.heap.size + 1 + 1) (by simp))
  have HK := Lib.hid ((blk_new (w.alloc (.cells #[.bool a, .bool b, .bool c, .bool d, .bool s, .bool l, .bool o, .int .i64 m, .bool mn, .bool bt, .int .i64 r, .slice (some ⟨g, p, none⟩) n tc] 38)) #[.bool fr, .int .i64 ci, .int .i64 co, .int .i64 cs, .int .i64 li] 33).below (below_alloc (Below.refl _ ((w.alloc (.cells #[.bool a, .bool b, .bool c, .bool d, .bool s, .bool l, .bool o, .int .i64 m, .bool mn, .bool bt, .int .i64 r, .slice (some ⟨g, p, none⟩) n tc] 38)).alloc (.cells #[.bool fr, .int .i64 ci, .int .i64 co, .int .i64 cs, .int .i64 li] 33))) (.cells #[.int .u8 x0, .int .u8 x1, .int .u8 x2, .int .u8 x3] 5)))
  have HB := Lib.hid (below_alloc (below_alloc (below_alloc (Below.refl _ w) (.cells #[.bool a, .bool b, .bool c, .bool d, .bool s, .bool l, .bool o, .int .i64 m, .bool mn, .bool bt, .int .i64 r, .slice (some ⟨g, p, none⟩) n tc] 38)) (.cells #[.bool fr, .int .i64 ci, .int .i64 co, .int .i64 cs, .int .i64 li] 33)) (.cells #[.int .u8 x0, .int .u8 x1, .int .u8 x2, .int .u8 x3] 5))
  clear h eb r0 r1 r2 r3 hv hR hy hn
  have q0 : (ch == 0) = false := by simp; omega
  have q1 : (ch == 1) = false := by simp; omega
  have q2 : (ch == 2) = false := by simp; omega
  have q3 : (ch == 3) = false := by simp; omega
  have q4 : (ch == 4) = false := by simp; omega
  have q5 : (ch == 5) = false := by simp; omega
  have q6 : ¬ ch < 8 := by omega
  have q7 : IntKind.i64.wrap (ch - 8) = (i : Int) := by rw [IntKind.wrap_i64]; omega
  have q8 : ¬ (n : Int) ≤ (i : Int) := by omega
  clear hch hi
  go_enter Try.func23, Try.ntmps23
  go_wp2_with fail
  clear c0 c1 c2 c3 c4 q0 q1 q2 q3 q4 q5 q6 q7 q8
  obtain ⟨c0, c1, c2, c3, c4⟩ := blk_five HK.out
  rw [show (w.alloc (.cells #[.bool a, .bool b, .bool c, .bool d, .bool s, .bool l, .bool o, .int .i64 m, .bool mn, .bool bt, .int .i64 r, .slice (some ⟨g, p, none⟩) n tc] 38)).heap.size = w.heap.size + 1 by simp] at c0 c1 c2 c3 c4
  generalize ((w.alloc (.cells #[.bool a, .bool b, .bool c, .bool d, .bool s, .bool l, .bool o, .int .i64 m, .bool mn, .bool bt, .int .i64 r, .slice (some ⟨g, p, none⟩) n tc] 38)).alloc (.cells #[.bool fr, .int .i64 ci, .int .i64 co, .int .i64 cs, .int .i64 li] 33)).alloc (.cells #[.int .u8 x0, .int .u8 x1, .int .u8 x2, .int .u8 x3] 5) = w2 at *
  have HM := Lib.hid (fun (W : World) (hW : Below w2.heap.size w2 W) => counts_to true _ _ ⟨f', i', o', c', l'⟩ hz W (HY.out.below hW))
  have HS := Lib.hid (fun (v : Value) (W : World) => (said_to v false W).mono (fun e w' (h : e = .returned (if false then v else .slice none 0 0) ∧ w' = W) => (⟨by first | simpa using h.1 | exact h.1, by rw [h.2]; exact Below.refl _ W⟩ : e = .returned (.slice none 0 0) ∧ Below W.heap.size W w')))
  have hE := eql_cnt f' i' o' c' l' fr ci co cs li false hq.symm
  clear HK hq hz
  dsimp only at HM
  replace c0 := cell_regrown c0
  replace c1 := cell_regrown c1
  replace c2 := cell_regrown c2
  replace c3 := cell_regrown c3
  replace c4 := cell_regrown c4
  refine wp_region_quiet_below (by kernel_rfl) (by kernel_rfl) ?_
  repeat (go_big_quiet_step (first | (with_reducible exact Calls.regrown_of (HM.out _ (below_regrown _ _ _))) | (with_reducible exact Calls.regrown_of (HS.out _ _))))
  refine wpQuiet_nil ?_
  intro _ hw'
  obtain ⟨⟨dq, osq⟩, hw''⟩ := hw'
  subst hw''
  clear c0 c1 c2 c3 c4
  go_wp2_with fail
  go_ret
  exact ⟨rfl, below_call HB.out (below_regrown _ dq osq)⟩
end
end Go.Proofs.Ytnbhjnbdnngiiaa
