/-
  A log of events: Add, by contract.
-/
import Derived.Test.YtabhfbdfahidoaaEvCalls
import Derived.Deep.RegionLaw
import Derived.Deep.RegionHeld3
namespace Go.Proofs.Ytabhfbdfahidoaa
open Go.RowKit

theorem evset1 (r : Nat) (v u : Value) (k : Nat) : (#[Value.int .i64 (r : Int), v, .int .i64 (k : Int)] : Array Value).setIfInBounds 1 u = #[.int .i64 (r : Int), u, .int .i64 (k : Int)] := rfl
theorem evset2 (r : Nat) (v u : Value) (k : Nat) : (#[Value.int .i64 (r : Int), v, .int .i64 (k : Int)] : Array Value).setIfInBounds 2 u = #[.int .i64 (r : Int), v, u] := rfl
/-- What a call of Add leaves behind: the log with one event more; nothing older has changed but the log's own two blocks. -/
def Added (w w' : World) (B b r : Nat) (v : Value) (xs : List Ev) : Prop :=
  ∃ v', Lg w' B b r v' xs ∧ Keep (fun k => k = b ∨ v.ownBlock = some k) w w' ∧ (v'.ownBlock = v.ownBlock ∨ ∃ g, v'.ownBlock = some g ∧ w.heap.size ≤ g)
theorem evone (w : World) (e : Ev) (T : TypeId) : Els REv 3 (w.alloc (.cells #[.int .u64 e.t, .int .i64 e.c, .int .i64 e.a] T)) (.slice (some ⟨w.heap.size, 0, none⟩) 1 1) [e] := by
  have hb := blk_new w #[.int .u64 e.t, .int .i64 e.c, .int .i64 e.a] T
  refine ⟨_, 1, rfl, fun j y hy => ⟨_, _, rfl, ?_⟩⟩
  rcases j with _ | j
  · cases hy
    exact ⟨hb.cell 0 rfl, hb.cell 1 rfl, hb.cell 2 rfl⟩
  · cases hy
variable {B b r : Nat} {w w' : World} {v : Value} {xs : List Ev}
set_option maxHeartbeats 2000000 in
theorem evadd_to (h : Lg w B b r v xs) (hB : B ≤ w.heap.size) (hm : xs.length ≤ 1000000) (e : Ev) :
    Calls Try.prog 10 #[.pointer (some ⟨b, 0, none⟩), .agg #[.int .u64 e.t, .int .i64 e.c, .int .i64 e.a]] w fun x w' => x = .returned (.tuple #[]) ∧ Added w w' B b r v (xs ++ [e]) := by
  obtain ⟨ev, k, hb, ho, hr, hBb, h1, h2⟩ := h
  have hf := hr.first h1
  obtain ⟨m, hk⟩ : ∃ m, k % r = m := ⟨_, rfl⟩
  obtain ⟨a0, c, rfl, hc⟩ := ho.len
  obtain ⟨n, hn⟩ : ∃ n, ev.length = n := ⟨_, rfl⟩
  obtain ⟨et, ec, ea⟩ := e
  dsimp only
  have hne := ho.ne hb evlog_ne
  have hblt := hb.lt
  rw [hn] at hb hc hf hne ⊢
  have hX := blk_new w #[.int .u64 et, .int .i64 ec, .int .i64 ea] 31
  have HBw := Lib.hid (below_alloc (Below.refl _ w) (.cells #[.int .u64 et, .int .i64 ec, .int .i64 ea] 31))
  by_cases hl : n < r
  · have q0 : decide ((n : Int) < (r : Int)) = true := by simp; exact hl
    have hlz : (n : Int) < (r : Int) := by omega
    have HR := Lib.hid (ring_more hr (by omega) ⟨et, ec, ea⟩)
    have hb1 := hb.below HBw.out
    obtain ⟨c0, c1, c2⟩ := hb1.three
    obtain ⟨x0, x1, x2⟩ := hX.three
    have HO := Lib.hid (ho.below HBw.out)
    have HBK := Lib.hid hb1
    have HXK := Lib.hid hX
    have HN := Lib.hid hn
    have HNE := Lib.hid hne
    have HLT := Lib.hid hblt
    have HHB := Lib.hid (show B ≤ w.heap.size ∧ B ≤ b ∧ 1 ≤ r ∧ r ≤ 1024 ∧ n ≤ 1024 from ⟨hB, hBb, h1, h2, by omega⟩)
    clear hr ho hk hn hne hblt hb hb1 hX hB hBb h1 h2 hf hc hm hl
    go_enter Try.func10, Try.ntmps10
    go_wp2_with fail
    go_quiet (fail)
    go_wp2_with fail
    obtain ⟨W1, hW1⟩ : ∃ W1, W1 = (w.alloc (.cells #[.int .u64 et, .int .i64 ec, .int .i64 ea] 31)).drewN nq := ⟨_, rfl⟩
    have HB1 : Hid (Below w.heap.size w W1) := Lib.hid (by rw [hW1]; exact below_call HBw.out (bel_drewN _ _))
    have HBK1 : Hid (Blk W1 b #[.int .i64 (r : Int), .slice a0 n c, .int .i64 (k : Int)] 39) := Lib.hid (by rw [hW1]; exact HBK.out.below (bel_drewN _ _))
    have HXK1 : Hid (Blk W1 w.heap.size #[.int .u64 et, .int .i64 ec, .int .i64 ea] 31) := Lib.hid (by rw [hW1]; exact HXK.out.below (bel_drewN _ _))
    have HO1 : Hid (OwnEv W1 B (.slice a0 ev.length c) ev) := Lib.hid (by rw [hW1]; exact HO.out.below (bel_drewN _ _))
    rw [← hW1]
    clear hW1 c0 c1 c2 x0 x1 x2
    obtain ⟨c0, c1, c2⟩ := HBK1.out.three
    obtain ⟨x0, x1, x2⟩ := HXK1.out.three
    clear c0 c2
    have HL := Lib.hid (below_alloc (Below.refl _ W1) (.cells #[.int .u64 et, .int .i64 ec, .int .i64 ea] 31))
    obtain ⟨v3, W3, hrun, ho3, hg3, hv3⟩ := run_appEv (w := (W1.alloc (.cells #[.int .u64 et, .int .i64 ec, .int .i64 ea] 31)).drew) 22 ((HO1.out.below HL.out).below (bel_drew _)) ((evone W1 ⟨et, ec, ea⟩ 31).below fun g o y h => h.below (bel_drew _)) (by rw [HN.out]; have := HHB.out; simp; omega) (by have := HHB.out; have := HB1.out.size; have := (below_call HL.out (bel_drew _)).size; omega)
    rw [HN.out] at hrun
    obtain ⟨a3, c3, e3, _⟩ := ho3.len
    obtain ⟨n3, hn3⟩ : ∃ n3, (ev ++ [⟨et, ec, ea⟩] : List Ev).length = n3 := ⟨_, rfl⟩
    rw [hn3] at e3
    subst e3
    have HB3 := Lib.hid (((HBK1.out.below HL.out).below (bel_drew _)).keep (Keep.grown (F := fun k => (Value.slice a0 n c).ownBlock = some k) hg3 (fun g hg => by rw [← HN.out]; exact hg)) HNE.out)
    have f1 := HB3.out.frz 1
    obtain ⟨d0, d1, d2⟩ := HB3.out.three
    clear d0 d2
    have HFIN : Hid (Added w (W3.setCell ⟨b, 1, none⟩ (.slice a3 n3 c3)) B b r (.slice a0 n c) (xs ++ [⟨et, ec, ea⟩])) := by
      have hs := HB3.out.set_ 1 (.slice a3 n3 c3)
      rw [evset1] at hs
      refine Lib.hid ⟨_, ⟨_, k, hs, ho3.keep (Keep.set_ (F := fun x => x = b) W3 b 1 _ rfl) (fun g hg e => ho3.ne HB3.out evlog_ne (by rw [hg, e])), HR.out, HHB.out.2.1, HHB.out.2.2.1, HHB.out.2.2.2.1⟩, ?_, ?_⟩
      · refine Keep.trans (w1 := W3) ?_ (Keep.set_ (F := fun x => x = b) W3 b 1 _ rfl) (fun g h => .inl (.inl h))
        refine Keep.trans (F := fun x => x = b ∨ (Value.slice a0 n c).ownBlock = some x) (Keep.of_below (below_call HB1.out (below_call HL.out (bel_drew _)))) (Keep.grown (F := fun k => (Value.slice a0 n c).ownBlock = some k) hg3 (fun g hg => by rw [← HN.out]; exact hg)) (fun g h => .inl (.inr h))
      · rcases hv3 with h | h
        · exact .inl (by rw [h, HN.out])
        · exact .inr ⟨_, h, (below_call HB1.out (below_call HL.out (bel_drew _))).size⟩
    have y1 := below_cell HL.out c1
    clear ho3 hg3 hv3 hn3
    go_region_law (refine step_runEv rfl _ _ _ rfl rfl rfl hrun ?_)
    all_goals
      go_wp2_with fail
      (try simp only [Exit.inBlock, Exit.then])
      refine bodyPost_ret (results_none rfl _ _ _) rfl ⟨rfl, HFIN.out⟩
  · have q0 : decide ((n : Int) < (r : Int)) = false := by simp; omega
    have hlz : ¬ (n : Int) < (r : Int) := by omega
    have hnr : n = r := by omega
    have hmr : m < n := by rw [← hk, hnr]; exact Nat.mod_lt _ (by omega)
    have HR := Lib.hid (ring_full hr (by omega) (by omega) ⟨et, ec, ea⟩)
    rw [hk] at HR
    have hkb : k ≤ 1000000 := by have := hr.lost; omega
    obtain ⟨g, c', e0, _⟩ := ho.form (by omega)
    simp only [Value.slice.injEq] at e0
    obtain ⟨rfl, hcc⟩ := e0
    simp only [true_and] at hcc
    subst hcc
    have hgb : g ≠ b := fun e => hne (by rw [e]; rfl)
    have hgl := (ho.lt (g := g) rfl).2
    have hb1 := hb.below HBw.out
    obtain ⟨c0, c1, c2⟩ := hb1.three
    obtain ⟨x0, x1, x2⟩ := hX.three
    have HO := Lib.hid (ho.below HBw.out)
    have HBK := Lib.hid hb1
    have HXK := Lib.hid hX
    have HN := Lib.hid hn
    have HGB := Lib.hid hgb
    have HGL := Lib.hid hgl
    have HLT := Lib.hid hblt
    have HMK := Lib.hid hk
    have HMR := Lib.hid hmr
    have HNR := Lib.hid hnr
    have HKB := Lib.hid hkb
    have HHB := Lib.hid (show B ≤ w.heap.size ∧ B ≤ b ∧ 1 ≤ r ∧ r ≤ 1024 ∧ n ≤ 1024 from ⟨hB, hBb, h1, h2, by omega⟩)
    clear hr ho hk hn hne hblt hb hb1 hX hB hBb h1 h2 hf hc hm hl hnr hmr hkb hgb hgl
    go_enter Try.func10, Try.ntmps10
    go_wp2_with fail
    go_quiet (fail)
    go_wp2_with fail
    obtain ⟨W1, hW1⟩ : ∃ W1, W1 = (w.alloc (.cells #[.int .u64 et, .int .i64 ec, .int .i64 ea] 31)).drewN nq := ⟨_, rfl⟩
    have HB1 : Hid (Below w.heap.size w W1) := Lib.hid (by rw [hW1]; exact below_call HBw.out (bel_drewN _ _))
    have HBK1 : Hid (Blk W1 b #[.int .i64 (r : Int), .slice (some ⟨g, 0, none⟩) n c, .int .i64 (k : Int)] 39) := Lib.hid (by rw [hW1]; exact HBK.out.below (bel_drewN _ _))
    have HXK1 : Hid (Blk W1 w.heap.size #[.int .u64 et, .int .i64 ec, .int .i64 ea] 31) := Lib.hid (by rw [hW1]; exact HXK.out.below (bel_drewN _ _))
    have HO1 : Hid (OwnEv W1 B (.slice (some ⟨g, 0, none⟩) ev.length c) ev) := Lib.hid (by rw [hW1]; exact HO.out.below (bel_drewN _ _))
    rw [← hW1]
    clear hW1 c0 c1 c2 x0 x1 x2
    have HC1 := Lib.hid HBK1.out.three
    have HX1 := Lib.hid HXK1.out.three
    have HF := Lib.hid (evfirst_to (w := W1.drew) (HBK1.out.below (bel_drew _)) HHB.out.2.2.1 m HMK.out)
    have hmn : (m : Int) < (n : Int) := by have := HMR.out; omega
    have hm0 : (0 : Int) ≤ (m : Int) := by omega
    go_region_held3 (fun w' => w'.cell? ⟨b, 1, none⟩ = some (.slice (some ⟨g, 0, none⟩) n c) ∧ w'.cell? ⟨w.heap.size, 0, none⟩ = some (.int .u64 et) ∧ w'.cell? ⟨w.heap.size, 1, none⟩ = some (.int .i64 ec) ∧ w'.cell? ⟨w.heap.size, 2, none⟩ = some (.int .i64 ea))
      (first | exact ⟨HC1.out.2.1, HX1.out⟩ | exact HS2.out | exact HS3.out)
      (first
        | (go_at_call 17; (with_reducible refine HF.out.mono ?_); rintro e w3 ⟨rfl, hb⟩
           have HB3 := Lib.hid (below_call (bel_drew W1) hb)
           have HBK3 := Lib.hid (HBK1.out.below HB3.out); have HXK3 := Lib.hid (HXK1.out.below HB3.out); have HO3 := Lib.hid (HO1.out.below HB3.out)
           have HS2 : Hid (w3.cell? ⟨b, 1, none⟩ = some (.slice (some ⟨g, 0, none⟩) n c) ∧ w3.cell? ⟨w.heap.size, 0, none⟩ = some (.int .u64 et) ∧ w3.cell? ⟨w.heap.size, 1, none⟩ = some (.int .i64 ec) ∧ w3.cell? ⟨w.heap.size, 2, none⟩ = some (.int .i64 ea)) := Lib.hid ⟨HBK3.out.three.2.1, HXK3.out.three⟩
           have HS3 : Hid ((((w3.setCell ⟨g, m * 3, none⟩ (.int .u64 et)).setCell ⟨g, m * 3 + 1, none⟩ (.int .i64 ec)).setCell ⟨g, m * 3 + 2, none⟩ (.int .i64 ea)).cell? ⟨b, 1, none⟩ = some (.slice (some ⟨g, 0, none⟩) n c) ∧ (((w3.setCell ⟨g, m * 3, none⟩ (.int .u64 et)).setCell ⟨g, m * 3 + 1, none⟩ (.int .i64 ec)).setCell ⟨g, m * 3 + 2, none⟩ (.int .i64 ea)).cell? ⟨w.heap.size, 0, none⟩ = some (.int .u64 et) ∧ (((w3.setCell ⟨g, m * 3, none⟩ (.int .u64 et)).setCell ⟨g, m * 3 + 1, none⟩ (.int .i64 ec)).setCell ⟨g, m * 3 + 2, none⟩ (.int .i64 ea)).cell? ⟨w.heap.size, 1, none⟩ = some (.int .i64 ec) ∧ (((w3.setCell ⟨g, m * 3, none⟩ (.int .u64 et)).setCell ⟨g, m * 3 + 1, none⟩ (.int .i64 ec)).setCell ⟨g, m * 3 + 2, none⟩ (.int .i64 ea)).cell? ⟨w.heap.size, 2, none⟩ = some (.int .i64 ea)) :=
             Lib.hid ⟨(((HBK3.out.far g (m * 3) _ (Ne.symm HGB.out)).far g (m * 3 + 1) _ (Ne.symm HGB.out)).far g (m * 3 + 2) _ (Ne.symm HGB.out)).three.2.1, (((HXK3.out.far g (m * 3) _ (Nat.ne_of_gt HGL.out)).far g (m * 3 + 1) _ (Nat.ne_of_gt HGL.out)).far g (m * 3 + 2) _ (Nat.ne_of_gt HGL.out)).three⟩
           obtain ⟨y, hy⟩ : ∃ y, ev[m]? = some y := ⟨_, List.getElem?_eq_getElem (by rw [HN.out]; exact HMR.out)⟩
           obtain ⟨y0, y1, y2⟩ := HO3.out.at_ hy
           have z0 := HO3.out.frz (m * 3); have z1 := HO3.out.frz (m * 3 + 1); have z2 := HO3.out.frz (m * 3 + 2)
           have HBK4 := Lib.hid (((HBK3.out.far g (m * 3) (.int .u64 et) (Ne.symm HGB.out)).far g (m * 3 + 1) (.int .i64 ec) (Ne.symm HGB.out)).far g (m * 3 + 2) (.int .i64 ea) (Ne.symm HGB.out))
           clear hb hy))
    have t2 := HBK4.out.cell 2 rfl
    have f2 := HBK4.out.frz 2
    have hkw : wrap64 ((k : Int) + 1) = (k : Int) + 1 := IntWalk.wrap64_in _ (by have := HKB.out; omega)
    have HFIN : Hid (Added w ((((w3.setCell ⟨g, m * 3, none⟩ (.int .u64 et)).setCell ⟨g, m * 3 + 1, none⟩ (.int .i64 ec)).setCell ⟨g, m * 3 + 2, none⟩ (.int .i64 ea)).setCell ⟨b, 2, none⟩ (.int .i64 ((k : Int) + 1))) B b r (.slice (some ⟨g, 0, none⟩) n c) (xs ++ [⟨et, ec, ea⟩])) := by
      have hs := HBK4.out.set_ 2 (.int .i64 ((k + 1 : Nat) : Int))
      rw [evset2] at hs
      have ho4 := HO3.out.set_ rfl (k := m) (by rw [HN.out]; exact HMR.out) ⟨et, ec, ea⟩
      rw [HN.out] at ho4
      refine Lib.hid ⟨_, ⟨_, k + 1, hs, ho4.keep (Keep.set_ (F := fun x => x = b) _ b 2 _ rfl) (fun g' hg' e => by cases hg'; exact HGB.out e), HR.out, HHB.out.2.1, HHB.out.2.2.1, HHB.out.2.2.2.1⟩, ?_, .inl rfl⟩
      refine Keep.store ?_ b 2 _ (.inl rfl)
      refine Keep.store (Keep.store (Keep.store (Keep.of_below (below_call HB1.out HB3.out)) g _ _ (.inr rfl)) g _ _ (.inr rfl)) g _ _ (.inr rfl)
    clear HS2 HS3 y0 y1 y2 z0 z1 z2
    go_wp2_with fail
    go_end0
    exact ⟨rfl, HFIN.out⟩
end Go.Proofs.Ytabhfbdfahidoaa
