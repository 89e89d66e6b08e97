/-
  The walk of crossbucklaw19.DemandGood: true, whatever it is given.
-/
import Derived.Test.YtoedecngemkblaaSmall
import Derived.Test.YtoedecngemkblaaTkOwn
import Derived.Test.YtoedecngemkblaaPrMath
namespace Go.Proofs.Ytoedecngemkblaa
open Go.RowKit

/-- A track that is clear, and nothing else. -/
def tclr : Tk := ⟨false, 0, 0, false, 0, 0, false, true, 0, false, false⟩
theorem dany_rep (p : Tk → Bool) (hp : p tclr = false) (n : Nat) : dany p (List.replicate n tclr) = false := by
  unfold dany
  rw [List.any_eq_false]
  intro x hx
  rw [List.eq_of_mem_replicate hx, hp]
  decide
theorem Blk.belowB {w w' : World} {g B : Nat} {C : Array Value} {T : TypeId} (h : Blk w g C T) (hb : Below B w w') (hg : g < B) : Blk w' g C T := (hb.block g hg).trans h
theorem put4_ {w : World} {g : Nat} {T : TypeId} {c0 c1 c2 c3 c4 c5 c6 c7 c8 c9 c10 c11 : Value} (h : Blk w g #[c0, c1, c2, c3, c4, c5, c6, c7, c8, c9, c10, c11] T) (u7 u8 u5 u10 : Value) : Blk ((((w.setCell ⟨g, 7, none⟩ u7).setCell ⟨g, 8, none⟩ u8).setCell ⟨g, 5, none⟩ u5).setCell ⟨g, 10, none⟩ u10) g #[c0, c1, c2, c3, c4, u5, c6, u7, u8, c9, u10, c11] T := (((h.set_ 7 u7).set_ 8 u8).set_ 5 u5).set_ 10 u10
set_option maxHeartbeats 1000000 in
theorem gd_out (a b c d s l o : Bool) (m : Int) (mn ba : Bool) (r : Int) (tv : Value) (n : Int) (op : Bool) (w : World) (h : n < 0 ∨ 50 < n) : Calls Try.prog 7 #[.agg #[.bool a, .bool b, .bool c, .bool d, .bool s, .bool l, .bool o, .int .i64 m, .bool mn, .bool ba, .int .i64 r, tv], .int .i64 n, .bool op] w fun e w' => e = .returned (.bool true) ∧ Below w.heap.size w w' := by
  have HB0 := Lib.hid (below_alloc (Below.refl _ w) (.cells #[.bool a, .bool b, .bool c, .bool d, .bool s, .bool l, .bool o, .int .i64 m, .bool mn, .bool ba, .int .i64 r, tv] 26))
  rcases (show n < 0 ∨ (¬ n < 0 ∧ 50 < n) by omega) with h1 | ⟨h1, h2⟩
  all_goals
    clear h
    go_enter Try.func7, Try.ntmps7
    go_wp2_with fail
    (with_reducible refine (small_true _).mono ?_)
    rintro e w1 ⟨rfl, hb⟩
    have HB1 := Lib.hid (below_call HB0.out hb)
    clear hb
    go_wp2_with fail
    go_ret
    exact ⟨rfl, HB1.out⟩
set_option maxHeartbeats 4000000 in
set_option maxRecDepth 10000 in
theorem gd_main (a b c d s l o : Bool) (m : Int) (mn ba : Bool) (r : Int) (tv : Value) (n : Nat) (op : Bool) (w : World) (hn : n ≤ 50) : Calls Try.prog 7 #[.agg #[.bool a, .bool b, .bool c, .bool d, .bool s, .bool l, .bool o, .int .i64 m, .bool mn, .bool ba, .int .i64 r, tv], .int .i64 (n : Int), .bool op] w fun e w' => e = .returned (.bool true) ∧ Below w.heap.size w w' := by
  obtain ⟨e1, he1⟩ : ∃ e1, e1 = m % 2 := ⟨_, rfl⟩
  obtain ⟨e2, he2⟩ : ∃ e2, e2 = e1 * 2 := ⟨_, rfl⟩
  have p1 := and1 m
  rw [← he1] at p1
  have p2 : wrap64 (e1 * 2) = e2 := by rw [← he2]; exact IntWalk.wrap64_in _ (by omega)
  have hg : e2 ≠ 1 := by omega
  have HG := Lib.hid (show ∀ k, dgood e2 true true (List.replicate k tclr) = true from fun k => by
    unfold dgood
    rw [dany_rep dfault rfl]
    simp [hg])
  have HS := Lib.hid (show ∀ k, dshut false 0 (List.replicate k tclr) false op = false from fun k => by
    unfold dshut
    rw [dany_rep (dask op) (by simp [dask, tclr])]
    rfl)
  have HX0 := Lib.hid (box12 a b c d s l o m mn ba r tv w)
  have HB0 := Lib.hid (below_alloc (Below.refl _ w) (.cells #[.bool a, .bool b, .bool c, .bool d, .bool s, .bool l, .bool o, .int .i64 m, .bool mn, .bool ba, .int .i64 r, tv] 26))
  have q0 : ¬ (n : Int) < 0 := by omega
  have q1 : ¬ 50 < (n : Int) := by omega
  have HN := Lib.hid hn
  have E1 := eql_dms false false
  clear he1 he2 hg hn
  go_enter Try.func7, Try.ntmps7
  go_wp2_with fail
  (with_reducible refine (small_true _).mono ?_)
  rintro e w1 ⟨rfl, hb⟩
  have HX1 := Lib.hid (HX0.out.below hb)
  have HB1 := Lib.hid (below_call HB0.out hb)
  have hlt : w.heap.size < w1.heap.size := HX1.out.lt
  obtain ⟨x0, x1, x2, x3, x4, x5, x6, x7, x8, x9, x10, x11⟩ := cells12 HX1.out
  have f7 := HX1.out.frz 7
  have f8 := HX1.out.frz 8
  have f5 := HX1.out.frz 5
  have f10 := HX1.out.frz 10
  clear hb HX0 HB0
  have HX := Lib.hid (put4_ HX1.out (.int .i64 e2) (.bool true) (.bool true) (.int .i64 0))
  have HB := Lib.hid (bel_set (bel_set (bel_set (bel_set HB1.out (Nat.le_refl _) 7 (.int .i64 e2)) (Nat.le_refl _) 8 (.bool true)) (Nat.le_refl _) 5 (.bool true)) (Nat.le_refl _) 10 (.int .i64 0))
  clear HX1 HB1
  go_wp2_with fail
  clear x0 x1 x2 x3 x4 x5 x6 x7 x8 x9 x10 x11 f7 f8 f5 f10
  generalize ((((w1.setCell ⟨w.heap.size, 7, none⟩ (.int .i64 e2)).setCell ⟨w.heap.size, 8, none⟩ (.bool true)).setCell ⟨w.heap.size, 5, none⟩ (.bool true)).setCell ⟨w.heap.size, 10, none⟩ (.int .i64 0)) = w2 at *
  have hl2 := HX.out.lt
  clear p1 p2
  go_loopw [8, 9] (fun x y wr => ∃ (k : Nat) (av : Option Addr) (cv : Nat), k ≤ n ∧ x = .slice av k cv ∧ y = .int .i64 (k : Int) ∧ Hid (OwnK wr (w.heap.size + 1) (.slice av k cv) (List.replicate k tclr)) ∧ Hid (Below w.heap.size w wr) ∧ Hid (Blk wr w.heap.size #[.bool a, .bool b, .bool c, .bool d, .bool s, .bool true, .bool o, .int .i64 e2, .bool true, .bool ba, .int .i64 0, tv] 26)) (fun _ y _ => n - (intOf y).toNat)
  case atStart => exact ⟨0, none, 0, by omega, rfl, rfl, Lib.hid (ownK_nil _ _), HB, HX⟩
  case round =>
    obtain ⟨k, av, cv, hk, rfl, rfl, HO, HB2, HX2⟩ := hrel
    clear HB HX
    by_cases hlt2 : k < n
    · have hltI : (k : Int) < (n : Int) := by omega
      have hCw := HX2.out.lt
      have HK9 := Lib.hid (below_alloc (Below.refl _ wr) (.cells #[.bool false, .int .i64 0, .int .i64 0, .bool false, .int .i64 0, .int .i64 0, .bool false, .bool true, .int .i64 0, .bool false, .bool false] 39))
      have HU := Lib.hid (show Els RTk 11 (wr.alloc (.cells #[.bool false, .int .i64 0, .int .i64 0, .bool false, .int .i64 0, .int .i64 0, .bool false, .bool true, .int .i64 0, .bool false, .bool false] 39)) (.slice (some ⟨wr.heap.size, 0, none⟩) 1 1) [tclr] from elsK_one tclr _ (blk_new wr _ _))
      have HO10 := Lib.hid (HO.out.below HK9.out)
      have hsz : w.heap.size + 1 ≤ (wr.alloc (.cells #[.bool false, .int .i64 0, .int .i64 0, .bool false, .int .i64 0, .int .i64 0, .bool false, .bool true, .int .i64 0, .bool false, .bool false] 39)).heap.size := by simp; omega
      go_wp2_with (at_builtin; refine wpList_appK rfl _ _ rfl (w.heap.size + 1) (.slice av k cv) k (List.replicate k tclr) rfl (by simp) HO10.out wr.heap.size 0 1 1 [tclr] rfl rfl HU.out (by decide) (by have := HN.out; omega) hsz ?_; intro g5 cap5 w10 hown hb; have HO11 := Lib.hid hown; have HB11 := Lib.hid ((HK9.out.mono (show w.heap.size + 1 ≤ wr.heap.size by omega)).trans hb); clear hown hb HO10 HU HK9 hsz)
      go_roundw
      case rel =>
        refine ⟨k + 1, some ⟨g5, 0, none⟩, cap5, by omega, rfl, by go_num, Lib.hid ?_, Lib.hid ?_, Lib.hid ?_⟩
        · rw [show List.replicate (k + 1) tclr = List.replicate k tclr ++ [tclr] from List.replicate_succ']
          exact HO11.out
        · exact HB2.out.trans (HB11.out.mono (by omega))
        · exact HX2.out.belowB HB11.out (by omega)
      case measure => have := HN.out; simp [intOf]; omega
    · have hltI : ¬ (k : Int) < (n : Int) := by omega
      have H1 := Lib.hid (good_to a b c d s true o e2 true ba 0 tv _ _ wr HO.out.els (by rw [List.length_replicate]; unfold maxLen; have := HN.out; omega) true (HG.out k))
      have H2 := Lib.hid (fun (W : World) (hW : Below wr.heap.size wr W) => of_to a b c d s true o e2 true ba 0 tv _ _ W (HO.out.els.below (fun _ _ _ h => h.below hW)) (by rw [List.length_replicate]; unfold maxLen; have := HN.out; omega) false op false false (by rw [HG.out k]; rfl) (HS.out k))
      obtain ⟨x0, x1, x2, x3, x4, x5, x6, x7, x8, x9, x10, x11⟩ := cells12 HX2.out
      go_wp2_with fail
      (with_reducible refine (H1.out).mono ?_)
      rintro e w4 ⟨rfl, hb⟩
      have HB4 := Lib.hid (below_call HB2.out hb)
      have HX4 := Lib.hid (HX2.out.below hb)
      have H3 := Lib.hid (H2.out w4 hb)
      clear hb H1 H2 x0 x1 x2 x3 x4 x5 x6 x7 x8 x9 x10 x11
      obtain ⟨x0, x1, x2, x3, x4, x5, x6, x7, x8, x9, x10, x11⟩ := cells12 HX4.out
      go_wp2_with fail
      (with_reducible refine (H3.out).mono ?_)
      rintro e w5 ⟨rfl, hb⟩
      have HB5 := Lib.hid (below_call HB4.out hb)
      clear hb H3 x0 x1 x2 x3 x4 x5 x6 x7 x8 x9 x10 x11
      go_wp2_with fail
      go_ret
      exact ⟨rfl, HB5.out⟩
theorem gd_any (a b c d s l o : Bool) (m : Int) (mn ba : Bool) (r : Int) (tv : Value) (n : Int) (op : Bool) (w : World) : Calls Try.prog 7 #[.agg #[.bool a, .bool b, .bool c, .bool d, .bool s, .bool l, .bool o, .int .i64 m, .bool mn, .bool ba, .int .i64 r, tv], .int .i64 n, .bool op] w fun e w' => e = .returned (.bool true) ∧ Below w.heap.size w w' := by
  by_cases h : n < 0 ∨ 50 < n
  · exact gd_out a b c d s l o m mn ba r tv n op w h
  · obtain ⟨k, rfl⟩ : ∃ k : Nat, n = (k : Int) := ⟨n.toNat, by omega⟩
    exact gd_main a b c d s l o m mn ba r tv k op w (by omega)
end Go.Proofs.Ytoedecngemkblaa
