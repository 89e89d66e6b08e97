/-
  The document's Now, by a contract. (gen_inrnow.py writes this text.)
-/
import Derived.Deep.RegionHeld3
import Derived.Deep.DeepCutAuto
import Derived.Test.YtolfdfbhignniaaDoorInNow
import Derived.Test.YtolfdfbhignniaaDoorInAll
import Derived.Test.YtolfdfbhignniaaDoorSnRef
import Derived.Test.YtolfdfbhignniaaDoorSnAll

namespace Go.Proofs.YtolfdfbhignniaaDoor
open Go.RowKit

variable {w wr w2 : World} {b x F t : Nat} {I : World → (Nat → Ch) → Prop} {f : Nat → Ch}
theorem made_ct (W : World) (y : Ct) : ∃ wn, wn = W.alloc (.cells #[.bool y.fr, .int .i64 y.i, .int .i64 y.o, .int .i64 y.cs, .int .i64 y.l] 48) ∧ W.heap.size ≤ wn.heap.size ∧ Blk wn W.heap.size #[.bool y.fr, .int .i64 y.i, .int .i64 y.o, .int .i64 y.cs, .int .i64 y.l] 48 := ⟨_, rfl, (below_alloc (Below.refl _ W) _).size, blk_new _ _ _⟩
set_option maxHeartbeats 16000000 in
set_option maxRecDepth 10000 in
theorem rin_now {wa : World} (C : Chs false 100 62 w b x F t I) (h : I wa f) (a b' c d s l o : Bool) (m : Int) (mn bt : Bool) (r : Int) (ts : List Ct) (hD : tells F t f = ⟨a, b', c, d, s, l, o, m, mn, bt, r, ts⟩) :
    Calls Tryd.prog 17 #[.pointer (some ⟨x, 0, none⟩)] wa fun e w' => ∃ v, e = .returned (.agg #[.bool a, .bool b', .bool c, .bool d, .bool s, .bool l, .bool o, .int .i64 m, .bool mn, .bool bt, .int .i64 r, v]) ∧ Cnts w' wa.heap.size v ts ∧ Below wa.heap.size wa w' := by
  have hTS : (tells F t f).ts = ts := by rw [hD]
  unfold tells at hD
  simp only [Dat.mk.injEq] at hD
  obtain ⟨hb0, hb1, hb2, hb3, hsu, hla, hob, hmo, hmn, hbt, hro, _⟩ := hD
  obtain ⟨ok0, hok0⟩ : ∃ ok, isF F (f 0) = ok := ⟨_, rfl⟩
  obtain ⟨ok1, hok1⟩ : ∃ ok, isF F (f 1) = ok := ⟨_, rfl⟩
  obtain ⟨ok2, hok2⟩ : ∃ ok, isF F (f 2) = ok := ⟨_, rfl⟩
  obtain ⟨ok3, hok3⟩ : ∃ ok, isF F (f 3) = ok := ⟨_, rfl⟩
  obtain ⟨ok4, hok4⟩ : ∃ ok, isF F (f 4) = ok := ⟨_, rfl⟩
  obtain ⟨ok5, hok5⟩ : ∃ ok, isF F (f 5) = ok := ⟨_, rfl⟩
  have hk0 : sone ok0 (f 0).xs = sy F f 0 := by rw [← hok0]; rfl
  have hk1 : sone ok1 (f 1).xs = sy F f 1 := by rw [← hok1]; rfl
  have hk2 : sone ok2 (f 2).xs = sy F f 2 := by rw [← hok2]; rfl
  have hk3 : sone ok3 (f 3).xs = sy F f 3 := by rw [← hok3]; rfl
  have hk4 : sone ok4 (f 4).xs = sy F f 4 := by rw [← hok4]; rfl
  have hk5 : sone ok5 (f 5).xs = sy F f 5 := by rw [← hok5]; rfl
  have HTS := Lib.hid hTS
  have HSU := Lib.hid hsu
  have H1 := Lib.hid (fun W (hW : Below wa.heap.size wa W) => C.still h hW)
  have HX := Lib.hid (fun W (hW : Below wa.heap.size wa W) => C.two (H1.out W hW))
  have HF := Lib.hid (fun W (hW : Below wa.heap.size wa W) (ch : Int) (c : Ch) (hc : c = peek f ch) (r2 : Bool) (hr : isF F c = r2) => C.rfar (H1.out W hW) ch c hc r2 hr)
  have HA := Lib.hid (fun W (hW : Below wa.heap.size wa W) => C.rat (H1.out W hW) 0 (f 0) (peek_in f (k := 0) rfl (by omega)).symm)
  have HS0 := Lib.hid (fun v W (hv : Byts W v (f 0).xs) => rbarrier_to ok0 (f 0).xs v _ hk0 a b' c d ⟨hb0, hb1, hb2, hb3⟩ W hv)
  have HS1 := Lib.hid (fun v W (hv : Byts W v (f 1).xs) => rlamps_to ok1 (f 1).xs v _ hk1 W l hla hv)
  have HS2 := Lib.hid (fun v W (hv : Byts W v (f 2).xs) => robst_to ok2 (f 2).xs v _ hk2 W o hob hv)
  have HS3 := Lib.hid (fun v W (hv : Byts W v (f 3).xs) => rmode_to ok3 (f 3).xs v _ hk3 W m hmo hv)
  have HS4 := Lib.hid (fun v W (hv : Byts W v (f 4).xs) => rpower_to ok4 (f 4).xs v _ hk4 W mn bt hmn hbt hv)
  have HS5 := Lib.hid (fun v W (hv : Byts W v (f 5).xs) => rroutes_to ok5 (f 5).xs v _ hk5 W (t : Int) _ r rfl hro hv)
  have ht1 : 1 ≤ t := C.tlim.1
  have ht8 : t ≤ 8 := C.tlim.2
  clear C h hTS hb0 hb1 hb2 hb3 hsu hla hob hmo hmn hbt hro hk0 hk1 hk2 hk3 hk4 hk5
  have HOK0 := Lib.hid hok0
  have HOK1 := Lib.hid hok1
  have HOK2 := Lib.hid hok2
  have HOK3 := Lib.hid hok3
  have HOK4 := Lib.hid hok4
  have HOK5 := Lib.hid hok5
  clear hok0 hok1 hok2 hok3 hok4 hok5
  have HB0 := Lib.hid (below_alloc (below_alloc (below_alloc (Below.refl _ wa) (.cells #[.bool false, .bool false, .bool false, .bool false, .bool false, .bool false, .bool false, .int .i64 0, .bool false, .bool false, .int .i64 0, .slice none 0 0] 36)) (.cells #[.slice none 0 0, .slice none 0 0, .slice none 0 0, .slice none 0 0, .slice none 0 0, .slice none 0 0] 72)) (.cells #[.bool false, .bool false, .bool false, .bool false, .bool false, .bool false] 73))
  have HR0 := Lib.hid (((blk_new wa #[.bool false, .bool false, .bool false, .bool false, .bool false, .bool false, .bool false, .int .i64 0, .bool false, .bool false, .int .i64 0, .slice none 0 0] 36).below (below_alloc (Below.refl _ _) (.cells #[.slice none 0 0, .slice none 0 0, .slice none 0 0, .slice none 0 0, .slice none 0 0, .slice none 0 0] 72))).below (below_alloc (Below.refl _ _) (.cells #[.bool false, .bool false, .bool false, .bool false, .bool false, .bool false] 73)))
  have HSX := Lib.hid (six_new (F := F) (f := f) (B := [.slice none 0 0, .slice none 0 0, .slice none 0 0, .slice none 0 0, .slice none 0 0, .slice none 0 0]) (O := [.bool false, .bool false, .bool false, .bool false, .bool false, .bool false]) rfl rfl
    ((blk_new (wa.alloc (.cells #[.bool false, .bool false, .bool false, .bool false, .bool false, .bool false, .bool false, .int .i64 0, .bool false, .bool false, .int .i64 0, .slice none 0 0] 36)) #[.slice none 0 0, .slice none 0 0, .slice none 0 0, .slice none 0 0, .slice none 0 0, .slice none 0 0] 72).below (below_alloc (Below.refl _ _) (.cells #[.bool false, .bool false, .bool false, .bool false, .bool false, .bool false] 73)))
    (blk_new ((wa.alloc (.cells #[.bool false, .bool false, .bool false, .bool false, .bool false, .bool false, .bool false, .int .i64 0, .bool false, .bool false, .int .i64 0, .slice none 0 0] 36)).alloc (.cells #[.slice none 0 0, .slice none 0 0, .slice none 0 0, .slice none 0 0, .slice none 0 0, .slice none 0 0] 72)) #[.bool false, .bool false, .bool false, .bool false, .bool false, .bool false] 73))
  rw [show (wa.alloc (.cells #[.bool false, .bool false, .bool false, .bool false, .bool false, .bool false, .bool false, .int .i64 0, .bool false, .bool false, .int .i64 0, .slice none 0 0] 36)).heap.size = wa.heap.size + 1 by simp, show ((wa.alloc (.cells #[.bool false, .bool false, .bool false, .bool false, .bool false, .bool false, .bool false, .int .i64 0, .bool false, .bool false, .int .i64 0, .slice none 0 0] 36)).alloc (.cells #[.slice none 0 0, .slice none 0 0, .slice none 0 0, .slice none 0 0, .slice none 0 0, .slice none 0 0] 72)).heap.size = wa.heap.size + 1 + 1 by simp] at HSX
  go_enter Tryd.func17, Tryd.ntmps17
  (try dsimp only [List.append])
  go_wp2_with fail
  obtain ⟨go, HGo⟩ : ∃ go, Hid (go = wa.heap.size + 1 + 1) := ⟨_, Lib.hid rfl⟩
  obtain ⟨gb, HGb⟩ : ∃ gb, Hid (gb = wa.heap.size + 1) := ⟨_, Lib.hid rfl⟩
  obtain ⟨g2, HG2⟩ : ∃ g2, Hid (g2 = wa.heap.size) := ⟨_, Lib.hid rfl⟩
  rw [← HGo.out, ← HGb.out] at HSX
  rw [← HGo.out, ← HGb.out, ← HG2.out]
  rw [← HG2.out] at HR0
  have hgg : g2 < gb ∧ gb < go ∧ wa.heap.size ≤ g2 := by have := HGo.out; have := HGb.out; have := HG2.out; omega
  have HGG := Lib.hid hgg
  clear hgg
  go_loopw [5] (fun u5 wx => ∃ i : Nat, i ≤ 6 ∧ u5 = .int .i64 (i : Int) ∧ Hid (Below wa.heap.size wa wx) ∧ Hid (Blk wx g2 #[.bool false, .bool false, .bool false, .bool false, .bool false, .bool false, .bool false, .int .i64 0, .bool false, .bool false, .int .i64 0, .slice none 0 0] 36) ∧ Hid (Six F f gb go i wx)) (fun u5 _ => 6 - (intOf u5).toNat)
  case atStart => exact ⟨0, by omega, rfl, HB0, HR0, HSX⟩
  case round =>
    obtain ⟨i, hi, rfl, HB, HR, HSr⟩ := hrel
    clear HB0 HR0 HSX
    obtain ⟨x0, x1⟩ := HX.out _ HB.out
    by_cases hlt : i < 6
    · have hlz : (i : Int) < 6 := by omega
      have hi0 : (0 : Int) ≤ (i : Int) := by omega
      obtain ⟨ok, hok⟩ : ∃ ok, isF F (f i) = ok := ⟨_, rfl⟩
      have HFI := Lib.hid (HF.out _ HB.out (i : Int) (f i) (peek_in f (k := i) rfl (by omega)).symm ok hok)
      have HOK := Lib.hid hok
      clear hok
      go_wp2_with fail
      (with_reducible refine HFI.out.mono ?_)
      rintro e w3 ⟨v, rfl, hv, hb⟩
      have HV := Lib.hid (hv.mono (show go + 1 ≤ wr.heap.size by obtain ⟨_, _, _, _, _, h4, _⟩ := HSr.out; exact h4.lt))
      have HB3 := Lib.hid (below_call HB.out hb)
      have HR3 := Lib.hid (HR.out.below hb)
      have HS3 := Lib.hid (HSr.out.below hb)
      obtain ⟨aa, nn, cc, ev⟩ : ∃ aa nn cc, v = .slice aa nn cc := let ⟨aa, cc, ev⟩ := hv.1.len; ⟨aa, _, cc, ev⟩
      subst ev
      clear hv hb HB HR HSr HFI x0 x1
      obtain ⟨⟨u0, y0⟩, z0, ⟨u1, y1⟩, z1⟩ := HS3.out.spot i hlt
      have hne1 : go ≠ gb := by have := HGG.out; omega
      have hne2 : gb ≠ go := by have := HGG.out; omega
      go_wp2_with fail
      go_roundw
      case rel =>
        refine ⟨i + 1, by omega, by go_num, Lib.hid ?_, Lib.hid ?_, Lib.hid ?_⟩
        · exact bel_set (bel_set HB3.out (by have := HGG.out; omega) _ _) (by have := HGG.out; omega) _ _
        · exact (HR3.out.far _ _ _ (by have := HGG.out; omega)).far _ _ _ (by have := HGG.out; omega)
        · exact HS3.out.store hlt HGG.out.2.1 _ ok HV.out HOK.out
      case measure => simp [intOf]; omega
    · have hlz : (6 : Int) ≤ (i : Int) := by omega
      obtain rfl : i = 6 := by omega
      obtain ⟨v0, c0, p0, k0⟩ := HSr.out.get 0 (by omega) ok0 HOK0.out
      obtain ⟨v1, c1, p1, k1⟩ := HSr.out.get 1 (by omega) ok1 HOK1.out
      obtain ⟨v2, c2, p2, k2⟩ := HSr.out.get 2 (by omega) ok2 HOK2.out
      obtain ⟨v3, c3, p3, k3⟩ := HSr.out.get 3 (by omega) ok3 HOK3.out
      obtain ⟨v4, c4, p4, k4⟩ := HSr.out.get 4 (by omega) ok4 HOK4.out
      obtain ⟨v5, c5, p5, k5⟩ := HSr.out.get 5 (by omega) ok5 HOK5.out
      have HP4 := Lib.hid (HS4.out v4 wr k4)
      have K0 := Lib.hid k0
      have K1 := Lib.hid k1
      have K2 := Lib.hid k2
      have K3 := Lib.hid k3
      have K5 := Lib.hid k5
      clear k0 k1 k2 k3 k4 k5 HSr HS4 HOK0 HOK1 HOK2 HOK3 HOK4 HOK5
      have x4 : (decide ((4 : Int) < 6)) = true := by decide
      clear hi hlt hlz x4
      go_wp2_with fail
      (with_reducible refine HP4.out.mono ?_)
      rintro e w3 ⟨rfl, hw3⟩
      cases hw3
      clear HP4 c4 p4
      go_upto_region 8 with fail
      have HSS := Lib.hid (fun W (hW : Below wr.heap.size wr W) => And.intro (HX.out W (below_call HB.out hW)).2 (And.intro (below_cell hW c0) (And.intro (below_cell hW c1) (And.intro (below_cell hW c2) (And.intro (below_cell hW c3) (And.intro (below_cell hW c5) (And.intro (below_cell hW p0) (And.intro (below_cell hW p1) (And.intro (below_cell hW p2) (And.intro (below_cell hW p3) (below_cell hW p5)))))))))))
      clear c0 c1 c2 c3 c5 p0 p1 p2 p3 p5 x0 x1
      go_cut [8] (fun s8 wx => ∃ g : Nat, s8 = .pointer (some ⟨g, 0, none⟩) ∧ Hid (wr.heap.size ≤ g) ∧ Hid (Below wr.heap.size wr wx) ∧ Hid (Blk wx g #[.bool a, .bool b', .bool c, .bool d, .bool false, .bool l, .bool o, .int .i64 m, .bool mn, .bool bt, .int .i64 r, .slice none 0 0] 36))
      case first =>
        refine wp_region_held_drew (S := (fun w' => w'.cell? ⟨x, 1, none⟩ = some (.int .i64 (t : Int)) ∧ w'.cell? ⟨gb, 0, none⟩ = some v0 ∧ w'.cell? ⟨gb, 1, none⟩ = some v1 ∧ w'.cell? ⟨gb, 2, none⟩ = some v2 ∧ w'.cell? ⟨gb, 3, none⟩ = some v3 ∧ w'.cell? ⟨gb, 5, none⟩ = some v5 ∧ w'.cell? ⟨go, 0, none⟩ = some (.bool ok0) ∧ w'.cell? ⟨go, 1, none⟩ = some (.bool ok1) ∧ w'.cell? ⟨go, 2, none⟩ = some (.bool ok2) ∧ w'.cell? ⟨go, 3, none⟩ = some (.bool ok3) ∧ w'.cell? ⟨go, 5, none⟩ = some (.bool ok5))) (by kernel_rfl) (HSS.out _ (bel_drew wr)) (fun hHeld => ?_)
        have HB2 := Lib.hid (bel_drew wr)
        generalize wr.drew = wd at *
        refine wpAnyH_take (i := 0) (oi := ?_) (v := ?_) ?_ (by kernel_rfl) (by kernel_rfl) (by kernel_rfl) ?_ (Or.inl ⟨?_, ?_⟩) hHeld ?_
        rotate_left 2
        · (simp only [List.getElem?_toArray, List.getElem?_cons_zero]; rfl)
        · exact (fun _ _ _ h => h)
        · rfl
        · (intro w hSw; (try dsimp only at hSw); go_simp; try with_reducible rfl)
        (try simp only [Act.put, List.setIfInBounds_toArray, List.set_cons_zero, List.set_cons_succ])
        refine wpAnyH_take (i := 1) (oi := ?_) (v := ?_) ?_ (by kernel_rfl) (by kernel_rfl) (by kernel_rfl) ?_ (Or.inl ⟨?_, ?_⟩) hHeld ?_
        rotate_left 2
        · (simp only [List.getElem?_toArray, List.getElem?_cons_zero, List.getElem?_cons_succ]; rfl)
        · exact (fun _ _ _ h => h)
        · rfl
        · (intro w hSw; (try dsimp only at hSw); obtain ⟨q0, q1, q2, q3, q4, q5, q6, q7, q8, q9, q10⟩ := hSw; go_simp; try with_reducible rfl)
        (try simp only [Act.put, List.setIfInBounds_toArray, List.set_cons_zero, List.set_cons_succ])
        refine wpAnyH_take (i := 2) (oi := ?_) (v := ?_) ?_ (by kernel_rfl) (by kernel_rfl) (by kernel_rfl) ?_ (Or.inl ⟨?_, ?_⟩) hHeld ?_
        rotate_left 2
        · (simp only [List.getElem?_toArray, List.getElem?_cons_zero, List.getElem?_cons_succ]; rfl)
        · exact (fun _ _ _ h => h)
        · rfl
        · (intro w hSw; (try dsimp only at hSw); go_simp; try with_reducible rfl)
        (try simp only [Act.put, List.setIfInBounds_toArray, List.set_cons_zero, List.set_cons_succ])
        refine wpAnyH_take (i := 3) (oi := ?_) (v := ?_) ?_ (by kernel_rfl) (by kernel_rfl) (by kernel_rfl) ?_ (Or.inl ⟨?_, ?_⟩) hHeld ?_
        rotate_left 2
        · (simp only [List.getElem?_toArray, List.getElem?_cons_zero, List.getElem?_cons_succ]; rfl)
        · exact (fun _ _ _ h => h)
        · rfl
        · (intro w hSw; (try dsimp only at hSw); obtain ⟨q0, q1, q2, q3, q4, q5, q6, q7, q8, q9, q10⟩ := hSw; go_simp; try with_reducible rfl)
        (try simp only [Act.put, List.setIfInBounds_toArray, List.set_cons_zero, List.set_cons_succ])
        refine wpAnyH_take (i := 5) (oi := ?_) (v := ?_) ?_ (by kernel_rfl) (by kernel_rfl) (by kernel_rfl) ?_ (Or.inl ⟨?_, ?_⟩) hHeld ?_
        rotate_left 2
        · (simp only [List.getElem?_toArray, List.getElem?_cons_zero, List.getElem?_cons_succ]; rfl)
        · exact (fun _ _ _ h => h)
        · rfl
        · (intro w hSw; (try dsimp only at hSw); go_simp; try with_reducible rfl)
        (try simp only [Act.put, List.setIfInBounds_toArray, List.set_cons_zero, List.set_cons_succ])
        refine wpAnyH_take (i := 6) (oi := ?_) (v := ?_) ?_ (by kernel_rfl) (by kernel_rfl) (by kernel_rfl) ?_ (Or.inl ⟨?_, ?_⟩) hHeld ?_
        rotate_left 2
        · (simp only [List.getElem?_toArray, List.getElem?_cons_zero, List.getElem?_cons_succ]; rfl)
        · exact (fun _ _ _ h => h)
        · rfl
        · (intro w hSw; (try dsimp only at hSw); obtain ⟨q0, q1, q2, q3, q4, q5, q6, q7, q8, q9, q10⟩ := hSw; go_simp; try with_reducible rfl)
        (try simp only [Act.put, List.setIfInBounds_toArray, List.set_cons_zero, List.set_cons_succ])
        refine wpAnyH_take (i := 7) (oi := ?_) (v := ?_) ?_ (by kernel_rfl) (by kernel_rfl) (by kernel_rfl) ?_ (Or.inl ⟨?_, ?_⟩) hHeld ?_
        rotate_left 2
        · (simp only [List.getElem?_toArray, List.getElem?_cons_zero, List.getElem?_cons_succ]; rfl)
        · exact (fun _ _ _ h => h)
        · rfl
        · (intro w hSw; (try dsimp only at hSw); go_simp; try with_reducible rfl)
        (try simp only [Act.put, List.setIfInBounds_toArray, List.set_cons_zero, List.set_cons_succ])
        refine wpAnyH_take (i := 8) (oi := ?_) (v := ?_) ?_ (by kernel_rfl) (by kernel_rfl) (by kernel_rfl) ?_ (Or.inl ⟨?_, ?_⟩) hHeld ?_
        rotate_left 2
        · (simp only [List.getElem?_toArray, List.getElem?_cons_zero, List.getElem?_cons_succ]; rfl)
        · exact (fun _ _ _ h => h)
        · rfl
        · (intro w hSw; (try dsimp only at hSw); obtain ⟨q0, q1, q2, q3, q4, q5, q6, q7, q8, q9, q10⟩ := hSw; go_simp; try with_reducible rfl)
        (try simp only [Act.put, List.setIfInBounds_toArray, List.set_cons_zero, List.set_cons_succ])
        refine wpAnyH_take (i := 10) (oi := ?_) (v := ?_) ?_ (by kernel_rfl) (by kernel_rfl) (by kernel_rfl) ?_ (Or.inl ⟨?_, ?_⟩) hHeld ?_
        rotate_left 2
        · (simp only [List.getElem?_toArray, List.getElem?_cons_zero, List.getElem?_cons_succ]; rfl)
        · exact (fun _ _ _ h => h)
        · rfl
        · (intro w hSw; (try dsimp only at hSw); go_simp; try with_reducible rfl)
        (try simp only [Act.put, List.setIfInBounds_toArray, List.set_cons_zero, List.set_cons_succ])
        refine wpAnyH_take (i := 11) (oi := ?_) (v := ?_) ?_ (by kernel_rfl) (by kernel_rfl) (by kernel_rfl) ?_ (Or.inl ⟨?_, ?_⟩) hHeld ?_
        rotate_left 2
        · (simp only [List.getElem?_toArray, List.getElem?_cons_zero, List.getElem?_cons_succ]; rfl)
        · exact (fun _ _ _ h => h)
        · rfl
        · (intro w hSw; (try dsimp only at hSw); obtain ⟨q0, q1, q2, q3, q4, q5, q6, q7, q8, q9, q10⟩ := hSw; go_simp; try with_reducible rfl)
        (try simp only [Act.put, List.setIfInBounds_toArray, List.set_cons_zero, List.set_cons_succ])
        refine wpAnyH_take (i := 12) (oi := ?_) (v := ?_) ?_ (by kernel_rfl) (by kernel_rfl) (by kernel_rfl) ?_ (Or.inl ⟨?_, ?_⟩) hHeld ?_
        rotate_left 2
        · (simp only [List.getElem?_toArray, List.getElem?_cons_zero, List.getElem?_cons_succ]; rfl)
        · exact (fun _ _ _ h => h)
        · rfl
        · (intro w hSw; (try dsimp only at hSw); go_simp; try with_reducible rfl)
        (try simp only [Act.put, List.setIfInBounds_toArray, List.set_cons_zero, List.set_cons_succ])
        refine wpAnyH_take (i := 13) (oi := ?_) (v := ?_) ?_ (by kernel_rfl) (by kernel_rfl) (by kernel_rfl) ?_ (Or.inl ⟨?_, ?_⟩) hHeld ?_
        rotate_left 2
        · (simp only [List.getElem?_toArray, List.getElem?_cons_zero, List.getElem?_cons_succ]; rfl)
        · exact (fun _ _ _ h => h)
        · rfl
        · (intro w hSw; (try dsimp only at hSw); obtain ⟨q0, q1, q2, q3, q4, q5, q6, q7, q8, q9, q10⟩ := hSw; go_simp; try with_reducible rfl)
        (try simp only [Act.put, List.setIfInBounds_toArray, List.set_cons_zero, List.set_cons_succ])
        refine wpAnyH_take (i := 15) (oi := ?_) (v := ?_) ?_ (by kernel_rfl) (by kernel_rfl) (by kernel_rfl) ?_ (Or.inl ⟨?_, ?_⟩) hHeld ?_
        rotate_left 2
        · (simp only [List.getElem?_toArray, List.getElem?_cons_zero, List.getElem?_cons_succ]; rfl)
        · exact (fun _ _ _ h => h)
        · rfl
        · (intro w hSw; (try dsimp only at hSw); go_simp; try with_reducible rfl)
        (try simp only [Act.put, List.setIfInBounds_toArray, List.set_cons_zero, List.set_cons_succ])
        refine wpAnyH_take (i := 16) (oi := ?_) (v := ?_) ?_ (by kernel_rfl) (by kernel_rfl) (by kernel_rfl) ?_ (Or.inl ⟨?_, ?_⟩) hHeld ?_
        rotate_left 2
        · (simp only [List.getElem?_toArray, List.getElem?_cons_zero, List.getElem?_cons_succ]; rfl)
        · exact (fun _ _ _ h => h)
        · rfl
        · (intro w hSw; (try dsimp only at hSw); obtain ⟨q0, q1, q2, q3, q4, q5, q6, q7, q8, q9, q10⟩ := hSw; go_simp; try with_reducible rfl)
        (try simp only [Act.put, List.setIfInBounds_toArray, List.set_cons_zero, List.set_cons_succ])
        refine wpAnyH_take (i := 17) (oi := ?_) (v := ?_) ?_ (by kernel_rfl) (by kernel_rfl) (by kernel_rfl) ?_ (Or.inl ⟨?_, ?_⟩) hHeld ?_
        rotate_left 2
        · (simp only [List.getElem?_toArray, List.getElem?_cons_zero, List.getElem?_cons_succ]; rfl)
        · exact (fun _ _ _ h => h)
        · rfl
        · (intro w hSw; (try dsimp only at hSw); go_simp; try with_reducible rfl)
        (try simp only [Act.put, List.setIfInBounds_toArray, List.set_cons_zero, List.set_cons_succ])
        refine wpAnyH_take (i := 18) (oi := ?_) (v := ?_) ?_ (by kernel_rfl) (by kernel_rfl) (by kernel_rfl) ?_ (Or.inl ⟨?_, ?_⟩) hHeld ?_
        rotate_left 2
        · (simp only [List.getElem?_toArray, List.getElem?_cons_zero, List.getElem?_cons_succ]; rfl)
        · exact (fun _ _ _ h => h)
        · rfl
        · (intro w hSw; (try dsimp only at hSw); obtain ⟨q0, q1, q2, q3, q4, q5, q6, q7, q8, q9, q10⟩ := hSw; go_simp; try with_reducible rfl)
        (try simp only [Act.put, List.setIfInBounds_toArray, List.set_cons_zero, List.set_cons_succ])
        refine wpAnyH_take (i := 20) (oi := ?_) (v := ?_) ?_ (by kernel_rfl) (by kernel_rfl) (by kernel_rfl) ?_ (Or.inl ⟨?_, ?_⟩) hHeld ?_
        rotate_left 2
        · (simp only [List.getElem?_toArray, List.getElem?_cons_zero, List.getElem?_cons_succ]; rfl)
        · exact (fun _ _ _ h => h)
        · rfl
        · (intro w hSw; (try dsimp only at hSw); go_simp; try with_reducible rfl)
        (try simp only [Act.put, List.setIfInBounds_toArray, List.set_cons_zero, List.set_cons_succ])
        refine wpAnyH_take (i := 21) (oi := ?_) (v := ?_) ?_ (by kernel_rfl) (by kernel_rfl) (by kernel_rfl) ?_ (Or.inl ⟨?_, ?_⟩) hHeld ?_
        rotate_left 2
        · (simp only [List.getElem?_toArray, List.getElem?_cons_zero, List.getElem?_cons_succ]; rfl)
        · exact (fun _ _ _ h => h)
        · rfl
        · (intro w hSw; (try dsimp only at hSw); go_simp; try with_reducible rfl)
        (try simp only [Act.put, List.setIfInBounds_toArray, List.set_cons_zero, List.set_cons_succ])
        refine wpAnyH_take (i := 22) (oi := ?_) (v := ?_) ?_ (by kernel_rfl) (by kernel_rfl) (by kernel_rfl) ?_ (Or.inl ⟨?_, ?_⟩) hHeld ?_
        rotate_left 2
        · (simp only [List.getElem?_toArray, List.getElem?_cons_zero, List.getElem?_cons_succ]; rfl)
        · exact (fun _ _ _ h => h)
        · rfl
        · (intro w hSw; (try dsimp only at hSw); go_simp; try with_reducible rfl)
        (try simp only [Act.put, List.setIfInBounds_toArray, List.set_cons_zero, List.set_cons_succ])
        refine wpAnyH_take (i := 23) (oi := ?_) (v := ?_) ?_ (by kernel_rfl) (by kernel_rfl) (by kernel_rfl) ?_ (Or.inl ⟨?_, ?_⟩) hHeld ?_
        rotate_left 2
        · (simp only [List.getElem?_toArray, List.getElem?_cons_zero, List.getElem?_cons_succ]; rfl)
        · exact (fun _ _ _ h => h)
        · rfl
        · (intro w hSw; (try dsimp only at hSw); obtain ⟨q0, q1, q2, q3, q4, q5, q6, q7, q8, q9, q10⟩ := hSw; go_simp; try with_reducible rfl)
        (try simp only [Act.put, List.setIfInBounds_toArray, List.set_cons_zero, List.set_cons_succ])
        refine wpAnyH_take (i := 24) (oi := ?_) (v := ?_) ?_ (by kernel_rfl) (by kernel_rfl) (by kernel_rfl) ?_ (Or.inl ⟨?_, ?_⟩) hHeld ?_
        rotate_left 2
        · (simp only [List.getElem?_toArray, List.getElem?_cons_zero, List.getElem?_cons_succ]; rfl)
        · exact (fun _ _ _ h => h)
        · rfl
        · (intro w hSw; (try dsimp only at hSw); go_simp; try with_reducible rfl)
        (try simp only [Act.put, List.setIfInBounds_toArray, List.set_cons_zero, List.set_cons_succ])
        refine wpAnyH_take (i := 25) (oi := ?_) (v := ?_) ?_ (by kernel_rfl) (by kernel_rfl) (by kernel_rfl) ?_ (Or.inl ⟨?_, ?_⟩) hHeld ?_
        rotate_left 2
        · (simp only [List.getElem?_toArray, List.getElem?_cons_zero, List.getElem?_cons_succ]; rfl)
        · exact (fun _ _ _ h => h)
        · rfl
        · (intro w hSw; (try dsimp only at hSw); obtain ⟨q0, q1, q2, q3, q4, q5, q6, q7, q8, q9, q10⟩ := hSw; go_simp; try with_reducible rfl)
        (try simp only [Act.put, List.setIfInBounds_toArray, List.set_cons_zero, List.set_cons_succ])
        refine wpAnyH_take (i := 26) (oi := ?_) (v := ?_) ?_ (by kernel_rfl) (by kernel_rfl) (by kernel_rfl) ?_ (Or.inl ⟨?_, ?_⟩) hHeld ?_
        rotate_left 2
        · (simp only [List.getElem?_toArray, List.getElem?_cons_zero, List.getElem?_cons_succ]; rfl)
        · exact (fun _ _ _ h => h)
        · rfl
        · (intro w hSw; (try dsimp only at hSw); go_simp; try with_reducible rfl)
        (try simp only [Act.put, List.setIfInBounds_toArray, List.set_cons_zero, List.set_cons_succ])
        refine wpAnyH_take (i := 27) (oi := ?_) (v := ?_) ?_ (by kernel_rfl) (by kernel_rfl) (by kernel_rfl) ?_ (Or.inl ⟨?_, ?_⟩) hHeld ?_
        rotate_left 2
        · (simp only [List.getElem?_toArray, List.getElem?_cons_zero, List.getElem?_cons_succ]; rfl)
        · exact (fun _ _ _ h => h)
        · rfl
        · (intro w hSw; (try dsimp only at hSw); go_simp; try with_reducible rfl)
        (try simp only [Act.put, List.setIfInBounds_toArray, List.set_cons_zero, List.set_cons_succ])
        refine wpAnyH_take (i := 28) (oi := ?_) (v := ?_) ?_ (by kernel_rfl) (by kernel_rfl) (by kernel_rfl) ?_ (Or.inl ⟨?_, ?_⟩) hHeld ?_
        rotate_left 2
        · (simp only [List.getElem?_toArray, List.getElem?_cons_zero, List.getElem?_cons_succ]; rfl)
        · exact (fun _ _ _ h => h)
        · rfl
        · (intro w hSw; (try dsimp only at hSw); go_simp; try with_reducible rfl)
        (try simp only [Act.put, List.setIfInBounds_toArray, List.set_cons_zero, List.set_cons_succ])
        refine wpAnyH_take (i := 29) (oi := ?_) (v := ?_) ?_ (by kernel_rfl) (by kernel_rfl) (by kernel_rfl) ?_ (Or.inl ⟨?_, ?_⟩) hHeld ?_
        rotate_left 2
        · (simp only [List.getElem?_toArray, List.getElem?_cons_zero, List.getElem?_cons_succ]; rfl)
        · exact (fun _ _ _ h => h)
        · rfl
        · (intro w hSw; (try dsimp only at hSw); obtain ⟨q0, q1, q2, q3, q4, q5, q6, q7, q8, q9, q10⟩ := hSw; go_simp; try with_reducible rfl)
        (try simp only [Act.put, List.setIfInBounds_toArray, List.set_cons_zero, List.set_cons_succ])
        refine wpAnyH_ready (rs := [4, 32]) (by kernel_rfl) (by simp) ?_
        refine AllReadyH.cons (o := ?_) ?_ (fun K hK => ?_) ?_
        rotate_left
        · (simp only [List.getElem?_toArray, List.getElem?_cons_zero, List.getElem?_cons_succ]; rfl)
        rotate_left
        · refine AllReadyH.cons (o := ?_) ?_ (fun K hK => ?_) AllReadyH.nil
          rotate_left
          · (simp only [List.getElem?_toArray, List.getElem?_cons_zero, List.getElem?_cons_succ]; rfl)
          go_simp
          obtain ⟨wn, hwn, hsz, hbel, hblk⟩ := made_in HB2.out
          rw [← hwn]
          have HGL := Lib.hid hsz
          have HG := Lib.hid hblk
          clear HB2
          have HB2 := Lib.hid hbel
          clear hwn hsz hbel hblk
          refine hK.out _ _ (HSS.out _ HB2.out) (fun hHeld => ?_)
          clear hK K
          (try simp only [Act.put, List.setIfInBounds_toArray, List.set_cons_zero, List.set_cons_succ])
          refine wpAnyH_ready (rs := [4]) (by kernel_rfl) (by simp) ?_
          refine AllReadyH.cons (o := ?_) ?_ (fun K hK => ?_) AllReadyH.nil
          rotate_left
          · (simp only [List.getElem?_toArray, List.getElem?_cons_zero, List.getElem?_cons_succ]; rfl)
          go_simp
          (with_reducible refine (HS0.out _ _ (K0.out.below HB2.out)).mono ?_)
          rintro e w3 ⟨rfl, hb⟩
          have HB3 := Lib.hid (below_call HB2.out hb)
          have HG2_ := Lib.hid (HG.out.below hb)
          clear hb HB2 HG
          have HB2 := HB3
          clear HB3
          have HG := HG2_
          clear HG2_
          go_wp2_with fail
          refine hK.out _ _ (HSS.out _ HB2.out) (fun hHeld => ?_)
          clear hK K
          (try simp only [Act.put, List.setIfInBounds_toArray, List.set_cons_zero, List.set_cons_succ])
          refine wpAnyH_ready (rs := [9]) (by kernel_rfl) (by simp) ?_
          refine AllReadyH.cons (o := ?_) ?_ (fun K hK => ?_) AllReadyH.nil
          rotate_left
          · (simp only [List.getElem?_toArray, List.getElem?_cons_zero, List.getElem?_cons_succ]; rfl)
          go_simp
          (with_reducible refine (HS1.out _ _ (K1.out.below HB2.out)).mono ?_)
          rintro e w3 ⟨rfl, hw3⟩
          cases hw3
          go_wp2_with fail
          refine hK.out _ _ (HSS.out _ HB2.out) (fun hHeld => ?_)
          clear hK K
          (try simp only [Act.put, List.setIfInBounds_toArray, List.set_cons_zero, List.set_cons_succ])
          refine wpAnyH_ready (rs := [14]) (by kernel_rfl) (by simp) ?_
          refine AllReadyH.cons (o := ?_) ?_ (fun K hK => ?_) AllReadyH.nil
          rotate_left
          · (simp only [List.getElem?_toArray, List.getElem?_cons_zero, List.getElem?_cons_succ]; rfl)
          go_simp
          (with_reducible refine (HS2.out _ _ (K2.out.below HB2.out)).mono ?_)
          rintro e w3 ⟨rfl, hw3⟩
          cases hw3
          go_wp2_with fail
          refine hK.out _ _ (HSS.out _ HB2.out) (fun hHeld => ?_)
          clear hK K
          (try simp only [Act.put, List.setIfInBounds_toArray, List.set_cons_zero, List.set_cons_succ])
          refine wpAnyH_ready (rs := [19]) (by kernel_rfl) (by simp) ?_
          refine AllReadyH.cons (o := ?_) ?_ (fun K hK => ?_) AllReadyH.nil
          rotate_left
          · (simp only [List.getElem?_toArray, List.getElem?_cons_zero, List.getElem?_cons_succ]; rfl)
          go_simp
          (with_reducible refine (HS3.out _ _ (K3.out.below HB2.out)).mono ?_)
          rintro e w3 ⟨rfl, hw3⟩
          cases hw3
          go_wp2_with fail
          refine hK.out _ _ (HSS.out _ HB2.out) (fun hHeld => ?_)
          clear hK K
          (try simp only [Act.put, List.setIfInBounds_toArray, List.set_cons_zero, List.set_cons_succ])
          refine wpAnyH_ready (rs := [30]) (by kernel_rfl) (by simp) ?_
          refine AllReadyH.cons (o := ?_) ?_ (fun K hK => ?_) AllReadyH.nil
          rotate_left
          · (simp only [List.getElem?_toArray, List.getElem?_cons_zero, List.getElem?_cons_succ]; rfl)
          go_simp
          (with_reducible refine (HS5.out _ _ (K5.out.below HB2.out)).mono ?_)
          rintro e w3 ⟨rfl, hw3⟩
          cases hw3
          go_wp2_with fail
          refine hK.out _ _ (HSS.out _ HB2.out) (fun hHeld => ?_)
          clear hK K
          (try simp only [Act.put, List.setIfInBounds_toArray, List.set_cons_zero, List.set_cons_succ])
          refine wpAnyH_take (i := 31) (oi := ?_) (v := ?_) ?_ (by kernel_rfl) (by kernel_rfl) (by kernel_rfl) ?_ (Or.inl ⟨?_, ?_⟩) hHeld ?_
          rotate_left 2
          · (simp only [List.getElem?_toArray, List.getElem?_cons_zero, List.getElem?_cons_succ]; rfl)
          · exact (fun _ _ _ h => h)
          · rfl
          · (intro w hSw; (try dsimp only at hSw); go_simp; try with_reducible rfl)
          (try simp only [Act.put, List.setIfInBounds_toArray, List.set_cons_zero, List.set_cons_succ])
          refine wpAnyH_ready (rs := [33]) (by kernel_rfl) (by simp) ?_
          refine AllReadyH.cons (o := ?_) ?_ (fun K hK => ?_) AllReadyH.nil
          rotate_left
          · (simp only [List.getElem?_toArray, List.getElem?_cons_zero, List.getElem?_cons_succ]; rfl)
          obtain ⟨d0, d1, d2, d3, d4, d5, d6, d7, d8, d9, d10, d11⟩ := cells12 HG.out
          obtain ⟨f0, f1, f2, f3, f4, f5, f6, f7, f8, f9, f10, f11⟩ := frz12 HG.out
          go_simp
          have HB3 := Lib.hid (bel12 HB2.out HGL.out (.bool a) (.bool b') (.bool c) (.bool d) (.bool false) (.bool l) (.bool o) (.int .i64 m) (.bool mn) (.bool bt) (.int .i64 r) (.slice none 0 0))
          have HG3 := Lib.hid (set12 HG.out (.bool a) (.bool b') (.bool c) (.bool d) (.bool false) (.bool l) (.bool o) (.int .i64 m) (.bool mn) (.bool bt) (.int .i64 r) (.slice none 0 0))
          refine hK.out _ _ (HSS.out _ HB3.out) (fun hHeld => ?_)
          clear hK K
          (try simp only [Act.put, List.setIfInBounds_toArray, List.set_cons_zero, List.set_cons_succ])
          refine wpAnyH_done (by kernel_rfl) ?_ _
          clear d0 d1 d2 d3 d4 d5 d6 d7 d8 d9 d10 d11 f0 f1 f2 f3 f4 f5 f6 f7 f8 f9 f10 f11
          go_wp2_with fail
          go_meet
          exact ⟨_, rfl, HGL, HB3, HG3⟩
        go_simp
        (with_reducible refine (HS0.out _ _ (K0.out.below HB2.out)).mono ?_)
        rintro e w3 ⟨rfl, hb⟩
        have HB3 := Lib.hid (below_call HB2.out hb)
        clear hb HB2
        have HB2 := HB3
        clear HB3
        go_wp2_with fail
        refine hK.out _ _ (HSS.out _ HB2.out) (fun hHeld => ?_)
        clear hK K
        (try simp only [Act.put, List.setIfInBounds_toArray, List.set_cons_zero, List.set_cons_succ])
        refine wpAnyH_ready (rs := [9, 32]) (by kernel_rfl) (by simp) ?_
        refine AllReadyH.cons (o := ?_) ?_ (fun K hK => ?_) ?_
        rotate_left
        · (simp only [List.getElem?_toArray, List.getElem?_cons_zero, List.getElem?_cons_succ]; rfl)
        rotate_left
        · refine AllReadyH.cons (o := ?_) ?_ (fun K hK => ?_) AllReadyH.nil
          rotate_left
          · (simp only [List.getElem?_toArray, List.getElem?_cons_zero, List.getElem?_cons_succ]; rfl)
          go_simp
          obtain ⟨wn, hwn, hsz, hbel, hblk⟩ := made_in HB2.out
          rw [← hwn]
          have HGL := Lib.hid hsz
          have HG := Lib.hid hblk
          clear HB2
          have HB2 := Lib.hid hbel
          clear hwn hsz hbel hblk
          refine hK.out _ _ (HSS.out _ HB2.out) (fun hHeld => ?_)
          clear hK K
          (try simp only [Act.put, List.setIfInBounds_toArray, List.set_cons_zero, List.set_cons_succ])
          refine wpAnyH_ready (rs := [9]) (by kernel_rfl) (by simp) ?_
          refine AllReadyH.cons (o := ?_) ?_ (fun K hK => ?_) AllReadyH.nil
          rotate_left
          · (simp only [List.getElem?_toArray, List.getElem?_cons_zero, List.getElem?_cons_succ]; rfl)
          go_simp
          (with_reducible refine (HS1.out _ _ (K1.out.below HB2.out)).mono ?_)
          rintro e w3 ⟨rfl, hw3⟩
          cases hw3
          go_wp2_with fail
          refine hK.out _ _ (HSS.out _ HB2.out) (fun hHeld => ?_)
          clear hK K
          (try simp only [Act.put, List.setIfInBounds_toArray, List.set_cons_zero, List.set_cons_succ])
          refine wpAnyH_ready (rs := [14]) (by kernel_rfl) (by simp) ?_
          refine AllReadyH.cons (o := ?_) ?_ (fun K hK => ?_) AllReadyH.nil
          rotate_left
          · (simp only [List.getElem?_toArray, List.getElem?_cons_zero, List.getElem?_cons_succ]; rfl)
          go_simp
          (with_reducible refine (HS2.out _ _ (K2.out.below HB2.out)).mono ?_)
          rintro e w3 ⟨rfl, hw3⟩
          cases hw3
          go_wp2_with fail
          refine hK.out _ _ (HSS.out _ HB2.out) (fun hHeld => ?_)
          clear hK K
          (try simp only [Act.put, List.setIfInBounds_toArray, List.set_cons_zero, List.set_cons_succ])
          refine wpAnyH_ready (rs := [19]) (by kernel_rfl) (by simp) ?_
          refine AllReadyH.cons (o := ?_) ?_ (fun K hK => ?_) AllReadyH.nil
          rotate_left
          · (simp only [List.getElem?_toArray, List.getElem?_cons_zero, List.getElem?_cons_succ]; rfl)
          go_simp
          (with_reducible refine (HS3.out _ _ (K3.out.below HB2.out)).mono ?_)
          rintro e w3 ⟨rfl, hw3⟩
          cases hw3
          go_wp2_with fail
          refine hK.out _ _ (HSS.out _ HB2.out) (fun hHeld => ?_)
          clear hK K
          (try simp only [Act.put, List.setIfInBounds_toArray, List.set_cons_zero, List.set_cons_succ])
          refine wpAnyH_ready (rs := [30]) (by kernel_rfl) (by simp) ?_
          refine AllReadyH.cons (o := ?_) ?_ (fun K hK => ?_) AllReadyH.nil
          rotate_left
          · (simp only [List.getElem?_toArray, List.getElem?_cons_zero, List.getElem?_cons_succ]; rfl)
          go_simp
          (with_reducible refine (HS5.out _ _ (K5.out.below HB2.out)).mono ?_)
          rintro e w3 ⟨rfl, hw3⟩
          cases hw3
          go_wp2_with fail
          refine hK.out _ _ (HSS.out _ HB2.out) (fun hHeld => ?_)
          clear hK K
          (try simp only [Act.put, List.setIfInBounds_toArray, List.set_cons_zero, List.set_cons_succ])
          refine wpAnyH_take (i := 31) (oi := ?_) (v := ?_) ?_ (by kernel_rfl) (by kernel_rfl) (by kernel_rfl) ?_ (Or.inl ⟨?_, ?_⟩) hHeld ?_
          rotate_left 2
          · (simp only [List.getElem?_toArray, List.getElem?_cons_zero, List.getElem?_cons_succ]; rfl)
          · exact (fun _ _ _ h => h)
          · rfl
          · (intro w hSw; (try dsimp only at hSw); go_simp; try with_reducible rfl)
          (try simp only [Act.put, List.setIfInBounds_toArray, List.set_cons_zero, List.set_cons_succ])
          refine wpAnyH_ready (rs := [33]) (by kernel_rfl) (by simp) ?_
          refine AllReadyH.cons (o := ?_) ?_ (fun K hK => ?_) AllReadyH.nil
          rotate_left
          · (simp only [List.getElem?_toArray, List.getElem?_cons_zero, List.getElem?_cons_succ]; rfl)
          obtain ⟨d0, d1, d2, d3, d4, d5, d6, d7, d8, d9, d10, d11⟩ := cells12 HG.out
          obtain ⟨f0, f1, f2, f3, f4, f5, f6, f7, f8, f9, f10, f11⟩ := frz12 HG.out
          go_simp
          have HB3 := Lib.hid (bel12 HB2.out HGL.out (.bool a) (.bool b') (.bool c) (.bool d) (.bool false) (.bool l) (.bool o) (.int .i64 m) (.bool mn) (.bool bt) (.int .i64 r) (.slice none 0 0))
          have HG3 := Lib.hid (set12 HG.out (.bool a) (.bool b') (.bool c) (.bool d) (.bool false) (.bool l) (.bool o) (.int .i64 m) (.bool mn) (.bool bt) (.int .i64 r) (.slice none 0 0))
          refine hK.out _ _ (HSS.out _ HB3.out) (fun hHeld => ?_)
          clear hK K
          (try simp only [Act.put, List.setIfInBounds_toArray, List.set_cons_zero, List.set_cons_succ])
          refine wpAnyH_done (by kernel_rfl) ?_ _
          clear d0 d1 d2 d3 d4 d5 d6 d7 d8 d9 d10 d11 f0 f1 f2 f3 f4 f5 f6 f7 f8 f9 f10 f11
          go_wp2_with fail
          go_meet
          exact ⟨_, rfl, HGL, HB3, HG3⟩
        go_simp
        (with_reducible refine (HS1.out _ _ (K1.out.below HB2.out)).mono ?_)
        rintro e w3 ⟨rfl, hw3⟩
        cases hw3
        go_wp2_with fail
        refine hK.out _ _ (HSS.out _ HB2.out) (fun hHeld => ?_)
        clear hK K
        (try simp only [Act.put, List.setIfInBounds_toArray, List.set_cons_zero, List.set_cons_succ])
        refine wpAnyH_ready (rs := [14, 32]) (by kernel_rfl) (by simp) ?_
        refine AllReadyH.cons (o := ?_) ?_ (fun K hK => ?_) ?_
        rotate_left
        · (simp only [List.getElem?_toArray, List.getElem?_cons_zero, List.getElem?_cons_succ]; rfl)
        rotate_left
        · refine AllReadyH.cons (o := ?_) ?_ (fun K hK => ?_) AllReadyH.nil
          rotate_left
          · (simp only [List.getElem?_toArray, List.getElem?_cons_zero, List.getElem?_cons_succ]; rfl)
          go_simp
          obtain ⟨wn, hwn, hsz, hbel, hblk⟩ := made_in HB2.out
          rw [← hwn]
          have HGL := Lib.hid hsz
          have HG := Lib.hid hblk
          clear HB2
          have HB2 := Lib.hid hbel
          clear hwn hsz hbel hblk
          refine hK.out _ _ (HSS.out _ HB2.out) (fun hHeld => ?_)
          clear hK K
          (try simp only [Act.put, List.setIfInBounds_toArray, List.set_cons_zero, List.set_cons_succ])
          refine wpAnyH_ready (rs := [14]) (by kernel_rfl) (by simp) ?_
          refine AllReadyH.cons (o := ?_) ?_ (fun K hK => ?_) AllReadyH.nil
          rotate_left
          · (simp only [List.getElem?_toArray, List.getElem?_cons_zero, List.getElem?_cons_succ]; rfl)
          go_simp
          (with_reducible refine (HS2.out _ _ (K2.out.below HB2.out)).mono ?_)
          rintro e w3 ⟨rfl, hw3⟩
          cases hw3
          go_wp2_with fail
          refine hK.out _ _ (HSS.out _ HB2.out) (fun hHeld => ?_)
          clear hK K
          (try simp only [Act.put, List.setIfInBounds_toArray, List.set_cons_zero, List.set_cons_succ])
          refine wpAnyH_ready (rs := [19]) (by kernel_rfl) (by simp) ?_
          refine AllReadyH.cons (o := ?_) ?_ (fun K hK => ?_) AllReadyH.nil
          rotate_left
          · (simp only [List.getElem?_toArray, List.getElem?_cons_zero, List.getElem?_cons_succ]; rfl)
          go_simp
          (with_reducible refine (HS3.out _ _ (K3.out.below HB2.out)).mono ?_)
          rintro e w3 ⟨rfl, hw3⟩
          cases hw3
          go_wp2_with fail
          refine hK.out _ _ (HSS.out _ HB2.out) (fun hHeld => ?_)
          clear hK K
          (try simp only [Act.put, List.setIfInBounds_toArray, List.set_cons_zero, List.set_cons_succ])
          refine wpAnyH_ready (rs := [30]) (by kernel_rfl) (by simp) ?_
          refine AllReadyH.cons (o := ?_) ?_ (fun K hK => ?_) AllReadyH.nil
          rotate_left
          · (simp only [List.getElem?_toArray, List.getElem?_cons_zero, List.getElem?_cons_succ]; rfl)
          go_simp
          (with_reducible refine (HS5.out _ _ (K5.out.below HB2.out)).mono ?_)
          rintro e w3 ⟨rfl, hw3⟩
          cases hw3
          go_wp2_with fail
          refine hK.out _ _ (HSS.out _ HB2.out) (fun hHeld => ?_)
          clear hK K
          (try simp only [Act.put, List.setIfInBounds_toArray, List.set_cons_zero, List.set_cons_succ])
          refine wpAnyH_take (i := 31) (oi := ?_) (v := ?_) ?_ (by kernel_rfl) (by kernel_rfl) (by kernel_rfl) ?_ (Or.inl ⟨?_, ?_⟩) hHeld ?_
          rotate_left 2
          · (simp only [List.getElem?_toArray, List.getElem?_cons_zero, List.getElem?_cons_succ]; rfl)
          · exact (fun _ _ _ h => h)
          · rfl
          · (intro w hSw; (try dsimp only at hSw); go_simp; try with_reducible rfl)
          (try simp only [Act.put, List.setIfInBounds_toArray, List.set_cons_zero, List.set_cons_succ])
          refine wpAnyH_ready (rs := [33]) (by kernel_rfl) (by simp) ?_
          refine AllReadyH.cons (o := ?_) ?_ (fun K hK => ?_) AllReadyH.nil
          rotate_left
          · (simp only [List.getElem?_toArray, List.getElem?_cons_zero, List.getElem?_cons_succ]; rfl)
          obtain ⟨d0, d1, d2, d3, d4, d5, d6, d7, d8, d9, d10, d11⟩ := cells12 HG.out
          obtain ⟨f0, f1, f2, f3, f4, f5, f6, f7, f8, f9, f10, f11⟩ := frz12 HG.out
          go_simp
          have HB3 := Lib.hid (bel12 HB2.out HGL.out (.bool a) (.bool b') (.bool c) (.bool d) (.bool false) (.bool l) (.bool o) (.int .i64 m) (.bool mn) (.bool bt) (.int .i64 r) (.slice none 0 0))
          have HG3 := Lib.hid (set12 HG.out (.bool a) (.bool b') (.bool c) (.bool d) (.bool false) (.bool l) (.bool o) (.int .i64 m) (.bool mn) (.bool bt) (.int .i64 r) (.slice none 0 0))
          refine hK.out _ _ (HSS.out _ HB3.out) (fun hHeld => ?_)
          clear hK K
          (try simp only [Act.put, List.setIfInBounds_toArray, List.set_cons_zero, List.set_cons_succ])
          refine wpAnyH_done (by kernel_rfl) ?_ _
          clear d0 d1 d2 d3 d4 d5 d6 d7 d8 d9 d10 d11 f0 f1 f2 f3 f4 f5 f6 f7 f8 f9 f10 f11
          go_wp2_with fail
          go_meet
          exact ⟨_, rfl, HGL, HB3, HG3⟩
        go_simp
        (with_reducible refine (HS2.out _ _ (K2.out.below HB2.out)).mono ?_)
        rintro e w3 ⟨rfl, hw3⟩
        cases hw3
        go_wp2_with fail
        refine hK.out _ _ (HSS.out _ HB2.out) (fun hHeld => ?_)
        clear hK K
        (try simp only [Act.put, List.setIfInBounds_toArray, List.set_cons_zero, List.set_cons_succ])
        refine wpAnyH_ready (rs := [19, 32]) (by kernel_rfl) (by simp) ?_
        refine AllReadyH.cons (o := ?_) ?_ (fun K hK => ?_) ?_
        rotate_left
        · (simp only [List.getElem?_toArray, List.getElem?_cons_zero, List.getElem?_cons_succ]; rfl)
        rotate_left
        · refine AllReadyH.cons (o := ?_) ?_ (fun K hK => ?_) AllReadyH.nil
          rotate_left
          · (simp only [List.getElem?_toArray, List.getElem?_cons_zero, List.getElem?_cons_succ]; rfl)
          go_simp
          obtain ⟨wn, hwn, hsz, hbel, hblk⟩ := made_in HB2.out
          rw [← hwn]
          have HGL := Lib.hid hsz
          have HG := Lib.hid hblk
          clear HB2
          have HB2 := Lib.hid hbel
          clear hwn hsz hbel hblk
          refine hK.out _ _ (HSS.out _ HB2.out) (fun hHeld => ?_)
          clear hK K
          (try simp only [Act.put, List.setIfInBounds_toArray, List.set_cons_zero, List.set_cons_succ])
          refine wpAnyH_ready (rs := [19]) (by kernel_rfl) (by simp) ?_
          refine AllReadyH.cons (o := ?_) ?_ (fun K hK => ?_) AllReadyH.nil
          rotate_left
          · (simp only [List.getElem?_toArray, List.getElem?_cons_zero, List.getElem?_cons_succ]; rfl)
          go_simp
          (with_reducible refine (HS3.out _ _ (K3.out.below HB2.out)).mono ?_)
          rintro e w3 ⟨rfl, hw3⟩
          cases hw3
          go_wp2_with fail
          refine hK.out _ _ (HSS.out _ HB2.out) (fun hHeld => ?_)
          clear hK K
          (try simp only [Act.put, List.setIfInBounds_toArray, List.set_cons_zero, List.set_cons_succ])
          refine wpAnyH_ready (rs := [30]) (by kernel_rfl) (by simp) ?_
          refine AllReadyH.cons (o := ?_) ?_ (fun K hK => ?_) AllReadyH.nil
          rotate_left
          · (simp only [List.getElem?_toArray, List.getElem?_cons_zero, List.getElem?_cons_succ]; rfl)
          go_simp
          (with_reducible refine (HS5.out _ _ (K5.out.below HB2.out)).mono ?_)
          rintro e w3 ⟨rfl, hw3⟩
          cases hw3
          go_wp2_with fail
          refine hK.out _ _ (HSS.out _ HB2.out) (fun hHeld => ?_)
          clear hK K
          (try simp only [Act.put, List.setIfInBounds_toArray, List.set_cons_zero, List.set_cons_succ])
          refine wpAnyH_take (i := 31) (oi := ?_) (v := ?_) ?_ (by kernel_rfl) (by kernel_rfl) (by kernel_rfl) ?_ (Or.inl ⟨?_, ?_⟩) hHeld ?_
          rotate_left 2
          · (simp only [List.getElem?_toArray, List.getElem?_cons_zero, List.getElem?_cons_succ]; rfl)
          · exact (fun _ _ _ h => h)
          · rfl
          · (intro w hSw; (try dsimp only at hSw); go_simp; try with_reducible rfl)
          (try simp only [Act.put, List.setIfInBounds_toArray, List.set_cons_zero, List.set_cons_succ])
          refine wpAnyH_ready (rs := [33]) (by kernel_rfl) (by simp) ?_
          refine AllReadyH.cons (o := ?_) ?_ (fun K hK => ?_) AllReadyH.nil
          rotate_left
          · (simp only [List.getElem?_toArray, List.getElem?_cons_zero, List.getElem?_cons_succ]; rfl)
          obtain ⟨d0, d1, d2, d3, d4, d5, d6, d7, d8, d9, d10, d11⟩ := cells12 HG.out
          obtain ⟨f0, f1, f2, f3, f4, f5, f6, f7, f8, f9, f10, f11⟩ := frz12 HG.out
          go_simp
          have HB3 := Lib.hid (bel12 HB2.out HGL.out (.bool a) (.bool b') (.bool c) (.bool d) (.bool false) (.bool l) (.bool o) (.int .i64 m) (.bool mn) (.bool bt) (.int .i64 r) (.slice none 0 0))
          have HG3 := Lib.hid (set12 HG.out (.bool a) (.bool b') (.bool c) (.bool d) (.bool false) (.bool l) (.bool o) (.int .i64 m) (.bool mn) (.bool bt) (.int .i64 r) (.slice none 0 0))
          refine hK.out _ _ (HSS.out _ HB3.out) (fun hHeld => ?_)
          clear hK K
          (try simp only [Act.put, List.setIfInBounds_toArray, List.set_cons_zero, List.set_cons_succ])
          refine wpAnyH_done (by kernel_rfl) ?_ _
          clear d0 d1 d2 d3 d4 d5 d6 d7 d8 d9 d10 d11 f0 f1 f2 f3 f4 f5 f6 f7 f8 f9 f10 f11
          go_wp2_with fail
          go_meet
          exact ⟨_, rfl, HGL, HB3, HG3⟩
        go_simp
        (with_reducible refine (HS3.out _ _ (K3.out.below HB2.out)).mono ?_)
        rintro e w3 ⟨rfl, hw3⟩
        cases hw3
        go_wp2_with fail
        refine hK.out _ _ (HSS.out _ HB2.out) (fun hHeld => ?_)
        clear hK K
        (try simp only [Act.put, List.setIfInBounds_toArray, List.set_cons_zero, List.set_cons_succ])
        refine wpAnyH_ready (rs := [30, 32]) (by kernel_rfl) (by simp) ?_
        refine AllReadyH.cons (o := ?_) ?_ (fun K hK => ?_) ?_
        rotate_left
        · (simp only [List.getElem?_toArray, List.getElem?_cons_zero, List.getElem?_cons_succ]; rfl)
        rotate_left
        · refine AllReadyH.cons (o := ?_) ?_ (fun K hK => ?_) AllReadyH.nil
          rotate_left
          · (simp only [List.getElem?_toArray, List.getElem?_cons_zero, List.getElem?_cons_succ]; rfl)
          go_simp
          obtain ⟨wn, hwn, hsz, hbel, hblk⟩ := made_in HB2.out
          rw [← hwn]
          have HGL := Lib.hid hsz
          have HG := Lib.hid hblk
          clear HB2
          have HB2 := Lib.hid hbel
          clear hwn hsz hbel hblk
          refine hK.out _ _ (HSS.out _ HB2.out) (fun hHeld => ?_)
          clear hK K
          (try simp only [Act.put, List.setIfInBounds_toArray, List.set_cons_zero, List.set_cons_succ])
          refine wpAnyH_ready (rs := [30]) (by kernel_rfl) (by simp) ?_
          refine AllReadyH.cons (o := ?_) ?_ (fun K hK => ?_) AllReadyH.nil
          rotate_left
          · (simp only [List.getElem?_toArray, List.getElem?_cons_zero, List.getElem?_cons_succ]; rfl)
          go_simp
          (with_reducible refine (HS5.out _ _ (K5.out.below HB2.out)).mono ?_)
          rintro e w3 ⟨rfl, hw3⟩
          cases hw3
          go_wp2_with fail
          refine hK.out _ _ (HSS.out _ HB2.out) (fun hHeld => ?_)
          clear hK K
          (try simp only [Act.put, List.setIfInBounds_toArray, List.set_cons_zero, List.set_cons_succ])
          refine wpAnyH_take (i := 31) (oi := ?_) (v := ?_) ?_ (by kernel_rfl) (by kernel_rfl) (by kernel_rfl) ?_ (Or.inl ⟨?_, ?_⟩) hHeld ?_
          rotate_left 2
          · (simp only [List.getElem?_toArray, List.getElem?_cons_zero, List.getElem?_cons_succ]; rfl)
          · exact (fun _ _ _ h => h)
          · rfl
          · (intro w hSw; (try dsimp only at hSw); go_simp; try with_reducible rfl)
          (try simp only [Act.put, List.setIfInBounds_toArray, List.set_cons_zero, List.set_cons_succ])
          refine wpAnyH_ready (rs := [33]) (by kernel_rfl) (by simp) ?_
          refine AllReadyH.cons (o := ?_) ?_ (fun K hK => ?_) AllReadyH.nil
          rotate_left
          · (simp only [List.getElem?_toArray, List.getElem?_cons_zero, List.getElem?_cons_succ]; rfl)
          obtain ⟨d0, d1, d2, d3, d4, d5, d6, d7, d8, d9, d10, d11⟩ := cells12 HG.out
          obtain ⟨f0, f1, f2, f3, f4, f5, f6, f7, f8, f9, f10, f11⟩ := frz12 HG.out
          go_simp
          have HB3 := Lib.hid (bel12 HB2.out HGL.out (.bool a) (.bool b') (.bool c) (.bool d) (.bool false) (.bool l) (.bool o) (.int .i64 m) (.bool mn) (.bool bt) (.int .i64 r) (.slice none 0 0))
          have HG3 := Lib.hid (set12 HG.out (.bool a) (.bool b') (.bool c) (.bool d) (.bool false) (.bool l) (.bool o) (.int .i64 m) (.bool mn) (.bool bt) (.int .i64 r) (.slice none 0 0))
          refine hK.out _ _ (HSS.out _ HB3.out) (fun hHeld => ?_)
          clear hK K
          (try simp only [Act.put, List.setIfInBounds_toArray, List.set_cons_zero, List.set_cons_succ])
          refine wpAnyH_done (by kernel_rfl) ?_ _
          clear d0 d1 d2 d3 d4 d5 d6 d7 d8 d9 d10 d11 f0 f1 f2 f3 f4 f5 f6 f7 f8 f9 f10 f11
          go_wp2_with fail
          go_meet
          exact ⟨_, rfl, HGL, HB3, HG3⟩
        go_simp
        (with_reducible refine (HS5.out _ _ (K5.out.below HB2.out)).mono ?_)
        rintro e w3 ⟨rfl, hw3⟩
        cases hw3
        go_wp2_with fail
        refine hK.out _ _ (HSS.out _ HB2.out) (fun hHeld => ?_)
        clear hK K
        (try simp only [Act.put, List.setIfInBounds_toArray, List.set_cons_zero, List.set_cons_succ])
        refine wpAnyH_take (i := 31) (oi := ?_) (v := ?_) ?_ (by kernel_rfl) (by kernel_rfl) (by kernel_rfl) ?_ (Or.inl ⟨?_, ?_⟩) hHeld ?_
        rotate_left 2
        · (simp only [List.getElem?_toArray, List.getElem?_cons_zero, List.getElem?_cons_succ]; rfl)
        · exact (fun _ _ _ h => h)
        · rfl
        · (intro w hSw; (try dsimp only at hSw); go_simp; try with_reducible rfl)
        (try simp only [Act.put, List.setIfInBounds_toArray, List.set_cons_zero, List.set_cons_succ])
        refine wpAnyH_ready (rs := [32]) (by kernel_rfl) (by simp) ?_
        refine AllReadyH.cons (o := ?_) ?_ (fun K hK => ?_) AllReadyH.nil
        rotate_left
        · (simp only [List.getElem?_toArray, List.getElem?_cons_zero, List.getElem?_cons_succ]; rfl)
        go_simp
        obtain ⟨wn, hwn, hsz, hbel, hblk⟩ := made_in HB2.out
        rw [← hwn]
        have HGL := Lib.hid hsz
        have HG := Lib.hid hblk
        clear HB2
        have HB2 := Lib.hid hbel
        clear hwn hsz hbel hblk
        refine hK.out _ _ (HSS.out _ HB2.out) (fun hHeld => ?_)
        clear hK K
        (try simp only [Act.put, List.setIfInBounds_toArray, List.set_cons_zero, List.set_cons_succ])
        refine wpAnyH_ready (rs := [33]) (by kernel_rfl) (by simp) ?_
        refine AllReadyH.cons (o := ?_) ?_ (fun K hK => ?_) AllReadyH.nil
        rotate_left
        · (simp only [List.getElem?_toArray, List.getElem?_cons_zero, List.getElem?_cons_succ]; rfl)
        obtain ⟨d0, d1, d2, d3, d4, d5, d6, d7, d8, d9, d10, d11⟩ := cells12 HG.out
        obtain ⟨f0, f1, f2, f3, f4, f5, f6, f7, f8, f9, f10, f11⟩ := frz12 HG.out
        go_simp
        have HB3 := Lib.hid (bel12 HB2.out HGL.out (.bool a) (.bool b') (.bool c) (.bool d) (.bool false) (.bool l) (.bool o) (.int .i64 m) (.bool mn) (.bool bt) (.int .i64 r) (.slice none 0 0))
        have HG3 := Lib.hid (set12 HG.out (.bool a) (.bool b') (.bool c) (.bool d) (.bool false) (.bool l) (.bool o) (.int .i64 m) (.bool mn) (.bool bt) (.int .i64 r) (.slice none 0 0))
        refine hK.out _ _ (HSS.out _ HB3.out) (fun hHeld => ?_)
        clear hK K
        (try simp only [Act.put, List.setIfInBounds_toArray, List.set_cons_zero, List.set_cons_succ])
        refine wpAnyH_done (by kernel_rfl) ?_ _
        clear d0 d1 d2 d3 d4 d5 d6 d7 d8 d9 d10 d11 f0 f1 f2 f3 f4 f5 f6 f7 f8 f9 f10 f11
        go_wp2_with fail
        go_meet
        exact ⟨_, rfl, HGL, HB3, HG3⟩
      case rest =>
        obtain ⟨g, rfl, HGL, HB2, HG⟩ := hcut
        clear HSS HS0 HS1 HS2 HS3 HS5 K0 K1 K2 K3 K5
        have HBW := Lib.hid (below_call HB.out HB2.out)
        have HR2 := Lib.hid (HR.out.below HB2.out)
        have HNE := Lib.hid (show g2 ≠ g by have := HR.out.lt; have := HGL.out; omega)
        have HGA := Lib.hid (show wa.heap.size ≤ g by have := HB.out.size; have := HGL.out; omega)
        obtain ⟨x0, x1⟩ := HX.out _ HBW.out
        clear HR HB HB2 HGL HGb HGo
        go_wp2_with fail
        (with_reducible refine (HA.out _ HBW.out).mono ?_)
        rintro e w3 ⟨v, rfl, ho, hb⟩
        obtain ⟨ad, cd, ed⟩ := ho.byts.len
        obtain ⟨nd, hnd⟩ : ∃ nd, nd = (f 0).xs.length := ⟨_, rfl⟩
        rw [← hnd] at ed
        subst ed
        clear hnd ho x0 x1 HA
        obtain ⟨had, hhad⟩ : ∃ had, (f 0).had = had := ⟨_, rfl⟩
        obtain ⟨sq, hsq⟩ : ∃ sq, (f 0).seq = sq := ⟨_, rfl⟩
        obtain ⟨age, hage⟩ : ∃ age, (f 0).age = age := ⟨_, rfl⟩
        have hsu := HSU.out
        rw [hhad, hage] at hsu
        rw [hhad, hsq, hage]
        clear hsq HSU
        have HSU := Lib.hid hsu
        clear hsu hhad hage
        obtain ⟨wl, hwl⟩ : ∃ wl, wl = w3.alloc (.cells #[.bool had, .int .i64 sq, .int .i64 (age : Int), .slice ad nd cd] 76) := ⟨_, rfl⟩
        have hb2 : Below w3.heap.size w3 wl := by rw [hwl]; exact below_alloc (Below.refl _ _) _
        have hbl : Blk wl w3.heap.size #[.bool had, .int .i64 sq, .int .i64 (age : Int), .slice ad nd cd] 76 := by rw [hwl]; exact blk_new _ _ _
        have HB3 := Lib.hid (below_call (below_call HBW.out hb) hb2)
        have HG3 := Lib.hid ((HG.out.below hb).below hb2)
        have HR3 := Lib.hid ((HR2.out.below hb).below hb2)
        have HL3 := Lib.hid hbl
        have HWL := Lib.hid hwl
        clear hb hb2 hbl hwl HBW HG HR2
        go_upto_region 10 with fail
        rw [← HWL.out]
        generalize w3.heap.size = gl at *
        clear HWL
        go_cut [] (fun wx => Hid (Below wa.heap.size wa wx) ∧ Hid (Blk wx g #[.bool a, .bool b', .bool c, .bool d, .bool s, .bool l, .bool o, .int .i64 m, .bool mn, .bool bt, .int .i64 r, .slice none 0 0] 36) ∧ Hid (Blk wx g2 #[.bool false, .bool false, .bool false, .bool false, .bool false, .bool false, .bool false, .int .i64 0, .bool false, .bool false, .int .i64 0, .slice none 0 0] 36))
        case first =>
          have e4 := HG3.out.cell 4 rfl
          have f4 := HG3.out.frz 4
          obtain ⟨l0, l1, l2, l3⟩ := HL3.out.four
          have hsu := HSU.out
          have HBs := Lib.hid (bel_set HB3.out HGA.out 4 (.bool s))
          have HGs := Lib.hid (HG3.out.set_ 4 (.bool s))
          have HRs := Lib.hid (HR3.out.far g 4 (.bool s) HNE.out)
          clear HSU
          cases had with
          | false =>
            obtain rfl : false = s := by simpa using hsu
            go_wp2_with fail
            go_meet
            exact ⟨HBs, HGs, HRs⟩
          | true =>
            have q0 : ((age : Int) == 0) = s := by rw [← hsu, Bool.eq_iff_iff]; simp
            have q1 : (age == 0) = s := by rw [← hsu, Bool.eq_iff_iff]; simp
            clear hsu
            go_wp2_with fail
            go_meet
            exact ⟨HBs, HGs, HRs⟩
        case rest =>
          obtain ⟨HB4, HG4, HR4⟩ := hcut
          clear HB3 HG3 HR3 HL3 HSU
          have HTL := Lib.hid (show ts.length = t by rw [← HTS.out]; simp [tells])
          have HTA := Lib.hid (show ∀ j, j < t → ts[j]? = some (cntOf (isF F (f (8 + j))) (f (8 + j)).xs) by
            intro j hj
            rw [← HTS.out]
            unfold tells
            simp only
            rw [List.getElem?_map, List.getElem?_range hj]
            rfl)
          obtain ⟨Bd, HBd⟩ : ∃ Bd, Hid (Bd = wc.heap.size) := ⟨_, Lib.hid rfl⟩
          have HBW := Lib.hid (show wa.heap.size ≤ Bd by rw [HBd.out]; exact HB4.out.size)
          have HBG := Lib.hid (show g < Bd by rw [HBd.out]; exact HG4.out.lt)
          have HB2 := Lib.hid (show g2 < Bd by rw [HBd.out]; exact HR4.out.lt)
          have HBC := Lib.hid (show Bd ≤ wc.heap.size by rw [HBd.out]; exact Nat.le_refl _)
          clear HBd HTS
          go_wp2_with fail
          go_loopw [10] (fun u10 wx => ∃ (j : Nat) (av : Option Addr) (n cv : Nat), j ≤ t ∧ u10 = .int .i64 (j : Int) ∧ Hid (n = j) ∧ Hid (Below wa.heap.size wa wx) ∧ Hid (Bd ≤ wx.heap.size) ∧ Hid (Blk wx g #[.bool a, .bool b', .bool c, .bool d, .bool s, .bool l, .bool o, .int .i64 m, .bool mn, .bool bt, .int .i64 r, .slice av n cv] 36) ∧ Hid (Blk wx g2 #[.bool false, .bool false, .bool false, .bool false, .bool false, .bool false, .bool false, .int .i64 0, .bool false, .bool false, .int .i64 0, .slice none 0 0] 36) ∧ Hid (OwnC wx Bd (.slice av n cv) (ts.take j))) (fun u10 _ => t - (intOf u10).toNat)
          case atStart => exact ⟨0, none, 0, 0, by omega, rfl, Lib.hid rfl, HB4, HBC, HG4, HR4, Lib.hid (ownC_nil _ _)⟩
          case round =>
            obtain ⟨j, av, n, cv, hj, rfl, HNJ, HBr, HBCr, HGr, HRr, HOr⟩ := hrel
            clear HB4 HBC HG4 HR4
            obtain ⟨x0, x1⟩ := HX.out _ HBr.out
            by_cases hlt : j < t
            · have hltI : (j : Int) < (t : Int) := by omega
              have hj0 : (0 : Int) ≤ (j : Int) := by omega
              have hw8 : IntKind.i64.wrap (8 + (j : Int)) = 8 + (j : Int) := by rw [IntKind.wrap_i64]; omega
              obtain ⟨c8, HC8⟩ : ∃ c8, Hid (c8 = f (8 + j)) := ⟨_, Lib.hid rfl⟩
              obtain ⟨ok, hok⟩ : ∃ ok, isF F c8 = ok := ⟨_, rfl⟩
              obtain ⟨y, hy⟩ : ∃ y, cntOf ok c8.xs = y := ⟨_, rfl⟩
              have HTY := Lib.hid (show ts.take (j + 1) = ts.take j ++ [y] by rw [List.take_add_one, HTA.out j hlt, ← HC8.out, hok, hy]; rfl)
              have HFI := Lib.hid (HF.out _ HBr.out (8 + (j : Int)) c8 (by rw [HC8.out, peek_in f (k := 8 + j) (by omega) (by omega)]) ok hok)
              have HCY := Lib.hid (fun v w1 (hv : Byts w1 v c8.xs) => rcounts_to ok c8.xs v y hy w1 hv)
              clear hok hy
              go_wp2_with fail
              (with_reducible refine HFI.out.mono ?_)
              rintro e w3 ⟨v, rfl, hv, hb⟩
              have HV := Lib.hid hv.1
              have HB5 := Lib.hid (below_call HBr.out hb)
              have HBC5 := Lib.hid (Nat.le_trans HBCr.out hb.size)
              have HG5 := Lib.hid (HGr.out.below hb)
              have HR5 := Lib.hid (HRr.out.below hb)
              have HO5 := Lib.hid (HOr.out.below hb)
              have HN5 := Lib.hid (show n = (ts.take j).length by rw [List.length_take, HTL.out, HNJ.out]; omega)
              have HN8 := Lib.hid (show n + 1 ≤ 1000000 by rw [HNJ.out]; omega)
              clear hv hb HFI HBr HBCr HGr HRr HOr x0 x1
              go_upto_region 15 with fail
              have HNJ2 := Lib.hid (show n + 1 = j + 1 by rw [HNJ.out])
              have hw10 : IntKind.i64.wrap ((j : Int) + 1) = (j : Int) + 1 := by rw [IntKind.wrap_i64]; omega
              refine wp_region_held_drew (S := (fun _ => True)) (by kernel_rfl) trivial (fun hHeld => ?_)
              have B6 := HB5
              have C6 := HBC5
              have G6 := HG5
              have R6 := HR5
              have O6 := HO5
              have V6 := HV
              clear HB5 HBC5 HG5 HR5 HO5 HV
              have B7 := Lib.hid (below_call B6.out (bel_drew w3))
              have C7 := Lib.hid (Nat.le_trans C6.out ((bel_drew w3)).size)
              have G7 := Lib.hid (G6.out.below (bel_drew w3))
              have R7 := Lib.hid (R6.out.below (bel_drew w3))
              have O7 := Lib.hid (O6.out.below (bel_drew w3))
              have V7 := Lib.hid (V6.out.below (bel_drew w3))
              clear V6
              have V6 := V7
              clear V7
              clear B6 C6 G6 R6 O6
              have B6 := B7
              have C6 := C7
              have G6 := G7
              have R6 := R7
              have O6 := O7
              clear B7 C7 G7 R7 O7
              generalize w3.drew = w6 at *
              refine wpAnyH_take (i := 0) (oi := ?_) (v := ?_) ?_ (by kernel_rfl) (by kernel_rfl) (by kernel_rfl) ?_ (Or.inl ⟨?_, ?_⟩) hHeld ?_
              rotate_left 2
              · (simp only [List.getElem?_toArray, List.getElem?_cons_zero]; rfl)
              · exact (fun _ _ _ h => h)
              · rfl
              · (intro w hSw; (try dsimp only at hSw); go_simp; try with_reducible rfl)
              (try simp only [Act.put, List.setIfInBounds_toArray, List.set_cons_zero, List.set_cons_succ])
              refine wpAnyH_take (i := 2) (oi := ?_) (v := ?_) ?_ (by kernel_rfl) (by kernel_rfl) (by kernel_rfl) ?_ (Or.inl ⟨?_, ?_⟩) hHeld ?_
              rotate_left 2
              · (simp only [List.getElem?_toArray, List.getElem?_cons_zero, List.getElem?_cons_succ]; rfl)
              · exact (fun _ _ _ h => h)
              · rfl
              · (intro w hSw; (try dsimp only at hSw); go_simp; try with_reducible rfl)
              (try simp only [Act.put, List.setIfInBounds_toArray, List.set_cons_zero, List.set_cons_succ])
              refine wpAnyH_take (i := 3) (oi := ?_) (v := ?_) ?_ (by kernel_rfl) (by kernel_rfl) (by kernel_rfl) ?_ (Or.inl ⟨?_, ?_⟩) hHeld ?_
              rotate_left 2
              · (simp only [List.getElem?_toArray, List.getElem?_cons_zero, List.getElem?_cons_succ]; rfl)
              · exact (fun _ _ _ h => h)
              · rfl
              · (intro w hSw; (try dsimp only at hSw); go_simp; try with_reducible rfl)
              (try simp only [Act.put, List.setIfInBounds_toArray, List.set_cons_zero, List.set_cons_succ])
              refine wpAnyH_ready (rs := [1, 4]) (by kernel_rfl) (by simp) ?_
              refine AllReadyH.cons (o := ?_) ?_ (fun K hK => ?_) ?_
              rotate_left
              · (simp only [List.getElem?_toArray, List.getElem?_cons_zero, List.getElem?_cons_succ]; rfl)
              rotate_left
              · refine AllReadyH.cons (o := ?_) ?_ (fun K hK => ?_) AllReadyH.nil
                rotate_left
                · (simp only [List.getElem?_toArray, List.getElem?_cons_zero, List.getElem?_cons_succ]; rfl)
                go_simp
                (with_reducible refine (HCY.out _ _ V6.out).mono ?_)
                rintro e w6 ⟨rfl, hb⟩
                have B7 := Lib.hid (below_call B6.out hb)
                have C7 := Lib.hid (Nat.le_trans C6.out (hb).size)
                have G7 := Lib.hid (G6.out.below hb)
                have R7 := Lib.hid (R6.out.below hb)
                have O7 := Lib.hid (O6.out.below hb)
                clear V6
                clear B6 C6 G6 R6 O6
                have B6 := B7
                have C6 := C7
                have G6 := G7
                have R6 := R7
                have O6 := O7
                clear B7 C7 G7 R7 O7
                clear hb
                go_wp2_with fail
                refine hK.out _ _ trivial (fun hHeld => ?_)
                clear hK K
                (try simp only [Act.put, List.setIfInBounds_toArray, List.set_cons_zero, List.set_cons_succ])
                refine wpAnyH_ready (rs := [1, 5]) (by kernel_rfl) (by simp) ?_
                refine AllReadyH.cons (o := ?_) ?_ (fun K hK => ?_) ?_
                rotate_left
                · (simp only [List.getElem?_toArray, List.getElem?_cons_zero, List.getElem?_cons_succ]; rfl)
                rotate_left
                · refine AllReadyH.cons (o := ?_) ?_ (fun K hK => ?_) AllReadyH.nil
                  rotate_left
                  · (simp only [List.getElem?_toArray, List.getElem?_cons_zero, List.getElem?_cons_succ]; rfl)
                  go_simp
                  obtain ⟨wn, hwn, hsz, hblk⟩ := made_ct w6 y
                  rw [← hwn]
                  have hb : Below w6.heap.size w6 wn := by rw [hwn]; exact below_alloc (Below.refl _ _) _
                  have E6 := Lib.hid hblk
                  have B7 := Lib.hid (below_call B6.out hb)
                  have C7 := Lib.hid (Nat.le_trans C6.out (hb).size)
                  have G7 := Lib.hid (G6.out.below hb)
                  have R7 := Lib.hid (R6.out.below hb)
                  have O7 := Lib.hid (O6.out.below hb)
                  clear B6 C6 G6 R6 O6
                  have B6 := B7
                  have C6 := C7
                  have G6 := G7
                  have R6 := R7
                  have O6 := O7
                  clear B7 C7 G7 R7 O7
                  clear hb hwn hsz hblk
                  generalize w6.heap.size = g6 at *
                  refine hK.out _ _ trivial (fun hHeld => ?_)
                  clear hK K
                  (try simp only [Act.put, List.setIfInBounds_toArray, List.set_cons_zero, List.set_cons_succ])
                  refine wpAnyH_ready (rs := [1]) (by kernel_rfl) (by simp) ?_
                  refine AllReadyH.cons (o := ?_) ?_ (fun K hK => ?_) AllReadyH.nil
                  rotate_left
                  · (simp only [List.getElem?_toArray, List.getElem?_cons_zero, List.getElem?_cons_succ]; rfl)
                  have y11 := G6.out.cell 11 rfl
                  go_simp
                  refine hK.out _ _ trivial (fun hHeld => ?_)
                  clear hK K y11
                  (try simp only [Act.put, List.setIfInBounds_toArray, List.set_cons_zero, List.set_cons_succ])
                  refine wpAnyH_ready (rs := [6]) (by kernel_rfl) (by simp) ?_
                  refine AllReadyH.cons (o := ?_) ?_ (fun K hK => ?_) AllReadyH.nil
                  rotate_left
                  · (simp only [List.getElem?_toArray, List.getElem?_cons_zero, List.getElem?_cons_succ]; rfl)
                  refine step_appC rfl _ _ rfl Bd (.slice av n cv) n (ts.take j) rfl HN5.out O6.out g6 0 1 1 [y] rfl rfl (elsC_one y _ E6.out) (by decide) HN8.out C6.out ?_
                  intro g7 cap w7 hO hBel hGr
                  have B7 := Lib.hid (B6.out.trans (hBel.mono HBW.out))
                  have C7 := Lib.hid (Nat.le_trans C6.out hBel.size)
                  have G7 := Lib.hid (G6.out.low hBel HBG.out)
                  have R7 := Lib.hid (R6.out.low hBel HB2.out)
                  have O7 := Lib.hid hO
                  clear B6 C6 G6 R6 O6 E6 hO hBel hGr
                  refine hK.out _ _ trivial (fun hHeld => ?_)
                  clear hK K
                  (try simp only [Act.put, List.setIfInBounds_toArray, List.set_cons_zero, List.set_cons_succ])
                  refine wpAnyH_take (i := 7) (oi := ?_) (v := ?_) ?_ (by kernel_rfl) (by kernel_rfl) (by kernel_rfl) ?_ (Or.inl ⟨?_, ?_⟩) hHeld ?_
                  rotate_left 2
                  · (simp only [List.getElem?_toArray, List.getElem?_cons_zero, List.getElem?_cons_succ]; rfl)
                  · exact (fun _ _ _ h => h)
                  · rfl
                  · (intro w hSw; (try dsimp only at hSw); go_simp; try with_reducible rfl)
                  (try simp only [Act.put, List.setIfInBounds_toArray, List.set_cons_zero, List.set_cons_succ])
                  refine wpAnyH_ready (rs := [8]) (by kernel_rfl) (by simp) ?_
                  refine AllReadyH.cons (o := ?_) ?_ (fun K hK => ?_) AllReadyH.nil
                  rotate_left
                  · (simp only [List.getElem?_toArray, List.getElem?_cons_zero, List.getElem?_cons_succ]; rfl)
                  have y11 := G7.out.cell 11 rfl
                  have f11 := G7.out.frz 11
                  go_simp
                  have B8 := Lib.hid (bel_set B7.out HGA.out 11 (.slice (some ⟨g7, 0, none⟩) (n + 1) cap))
                  have C8 := Lib.hid (show Bd ≤ (w7.setCell ⟨g, 11, none⟩ (.slice (some ⟨g7, 0, none⟩) (n + 1) cap)).heap.size from Nat.le_trans C7.out ((Keep.set_ (F := fun z => z = g) w7 g 11 (.slice (some ⟨g7, 0, none⟩) (n + 1) cap) rfl).size))
                  have G8 := Lib.hid (G7.out.set_ 11 (.slice (some ⟨g7, 0, none⟩) (n + 1) cap))
                  have R8 := Lib.hid (R7.out.far g 11 (.slice (some ⟨g7, 0, none⟩) (n + 1) cap) HNE.out)
                  have O8 := Lib.hid (O7.out.keep (Keep.set_ (F := fun z => z = g) w7 g 11 (.slice (some ⟨g7, 0, none⟩) (n + 1) cap) rfl) (fun z hz => by rw [hz]; exact HBG.out))
                  refine hK.out _ _ trivial (fun hHeld => ?_)
                  clear hK K y11 f11
                  (try simp only [Act.put, List.setIfInBounds_toArray, List.set_cons_zero, List.set_cons_succ])
                  refine wpAnyH_done (by kernel_rfl) ?_ _
                  go_wp2_with fail
                  go_roundw
                  case rel => exact ⟨j + 1, _, n + 1, _, by omega, by go_num, HNJ2, B8, C8, G8, R8, Lib.hid (by rw [HTY.out]; exact O8.out)⟩
                  case measure => simp [intOf]; omega
                have y11 := G6.out.cell 11 rfl
                go_simp
                refine hK.out _ _ trivial (fun hHeld => ?_)
                clear hK K y11
                (try simp only [Act.put, List.setIfInBounds_toArray, List.set_cons_zero, List.set_cons_succ])
                refine wpAnyH_ready (rs := [5]) (by kernel_rfl) (by simp) ?_
                refine AllReadyH.cons (o := ?_) ?_ (fun K hK => ?_) AllReadyH.nil
                rotate_left
                · (simp only [List.getElem?_toArray, List.getElem?_cons_zero, List.getElem?_cons_succ]; rfl)
                go_simp
                obtain ⟨wn, hwn, hsz, hblk⟩ := made_ct w6 y
                rw [← hwn]
                have hb : Below w6.heap.size w6 wn := by rw [hwn]; exact below_alloc (Below.refl _ _) _
                have E6 := Lib.hid hblk
                have B7 := Lib.hid (below_call B6.out hb)
                have C7 := Lib.hid (Nat.le_trans C6.out (hb).size)
                have G7 := Lib.hid (G6.out.below hb)
                have R7 := Lib.hid (R6.out.below hb)
                have O7 := Lib.hid (O6.out.below hb)
                clear B6 C6 G6 R6 O6
                have B6 := B7
                have C6 := C7
                have G6 := G7
                have R6 := R7
                have O6 := O7
                clear B7 C7 G7 R7 O7
                clear hb hwn hsz hblk
                generalize w6.heap.size = g6 at *
                refine hK.out _ _ trivial (fun hHeld => ?_)
                clear hK K
                (try simp only [Act.put, List.setIfInBounds_toArray, List.set_cons_zero, List.set_cons_succ])
                refine wpAnyH_ready (rs := [6]) (by kernel_rfl) (by simp) ?_
                refine AllReadyH.cons (o := ?_) ?_ (fun K hK => ?_) AllReadyH.nil
                rotate_left
                · (simp only [List.getElem?_toArray, List.getElem?_cons_zero, List.getElem?_cons_succ]; rfl)
                refine step_appC rfl _ _ rfl Bd (.slice av n cv) n (ts.take j) rfl HN5.out O6.out g6 0 1 1 [y] rfl rfl (elsC_one y _ E6.out) (by decide) HN8.out C6.out ?_
                intro g7 cap w7 hO hBel hGr
                have B7 := Lib.hid (B6.out.trans (hBel.mono HBW.out))
                have C7 := Lib.hid (Nat.le_trans C6.out hBel.size)
                have G7 := Lib.hid (G6.out.low hBel HBG.out)
                have R7 := Lib.hid (R6.out.low hBel HB2.out)
                have O7 := Lib.hid hO
                clear B6 C6 G6 R6 O6 E6 hO hBel hGr
                refine hK.out _ _ trivial (fun hHeld => ?_)
                clear hK K
                (try simp only [Act.put, List.setIfInBounds_toArray, List.set_cons_zero, List.set_cons_succ])
                refine wpAnyH_take (i := 7) (oi := ?_) (v := ?_) ?_ (by kernel_rfl) (by kernel_rfl) (by kernel_rfl) ?_ (Or.inl ⟨?_, ?_⟩) hHeld ?_
                rotate_left 2
                · (simp only [List.getElem?_toArray, List.getElem?_cons_zero, List.getElem?_cons_succ]; rfl)
                · exact (fun _ _ _ h => h)
                · rfl
                · (intro w hSw; (try dsimp only at hSw); go_simp; try with_reducible rfl)
                (try simp only [Act.put, List.setIfInBounds_toArray, List.set_cons_zero, List.set_cons_succ])
                refine wpAnyH_ready (rs := [8]) (by kernel_rfl) (by simp) ?_
                refine AllReadyH.cons (o := ?_) ?_ (fun K hK => ?_) AllReadyH.nil
                rotate_left
                · (simp only [List.getElem?_toArray, List.getElem?_cons_zero, List.getElem?_cons_succ]; rfl)
                have y11 := G7.out.cell 11 rfl
                have f11 := G7.out.frz 11
                go_simp
                have B8 := Lib.hid (bel_set B7.out HGA.out 11 (.slice (some ⟨g7, 0, none⟩) (n + 1) cap))
                have C8 := Lib.hid (show Bd ≤ (w7.setCell ⟨g, 11, none⟩ (.slice (some ⟨g7, 0, none⟩) (n + 1) cap)).heap.size from Nat.le_trans C7.out ((Keep.set_ (F := fun z => z = g) w7 g 11 (.slice (some ⟨g7, 0, none⟩) (n + 1) cap) rfl).size))
                have G8 := Lib.hid (G7.out.set_ 11 (.slice (some ⟨g7, 0, none⟩) (n + 1) cap))
                have R8 := Lib.hid (R7.out.far g 11 (.slice (some ⟨g7, 0, none⟩) (n + 1) cap) HNE.out)
                have O8 := Lib.hid (O7.out.keep (Keep.set_ (F := fun z => z = g) w7 g 11 (.slice (some ⟨g7, 0, none⟩) (n + 1) cap) rfl) (fun z hz => by rw [hz]; exact HBG.out))
                refine hK.out _ _ trivial (fun hHeld => ?_)
                clear hK K y11 f11
                (try simp only [Act.put, List.setIfInBounds_toArray, List.set_cons_zero, List.set_cons_succ])
                refine wpAnyH_done (by kernel_rfl) ?_ _
                go_wp2_with fail
                go_roundw
                case rel => exact ⟨j + 1, _, n + 1, _, by omega, by go_num, HNJ2, B8, C8, G8, R8, Lib.hid (by rw [HTY.out]; exact O8.out)⟩
                case measure => simp [intOf]; omega
              have y11 := G6.out.cell 11 rfl
              go_simp
              refine hK.out _ _ trivial (fun hHeld => ?_)
              clear hK K y11
              (try simp only [Act.put, List.setIfInBounds_toArray, List.set_cons_zero, List.set_cons_succ])
              refine wpAnyH_ready (rs := [4]) (by kernel_rfl) (by simp) ?_
              refine AllReadyH.cons (o := ?_) ?_ (fun K hK => ?_) AllReadyH.nil
              rotate_left
              · (simp only [List.getElem?_toArray, List.getElem?_cons_zero, List.getElem?_cons_succ]; rfl)
              go_simp
              (with_reducible refine (HCY.out _ _ V6.out).mono ?_)
              rintro e w6 ⟨rfl, hb⟩
              have B7 := Lib.hid (below_call B6.out hb)
              have C7 := Lib.hid (Nat.le_trans C6.out (hb).size)
              have G7 := Lib.hid (G6.out.below hb)
              have R7 := Lib.hid (R6.out.below hb)
              have O7 := Lib.hid (O6.out.below hb)
              clear V6
              clear B6 C6 G6 R6 O6
              have B6 := B7
              have C6 := C7
              have G6 := G7
              have R6 := R7
              have O6 := O7
              clear B7 C7 G7 R7 O7
              clear hb
              go_wp2_with fail
              refine hK.out _ _ trivial (fun hHeld => ?_)
              clear hK K
              (try simp only [Act.put, List.setIfInBounds_toArray, List.set_cons_zero, List.set_cons_succ])
              refine wpAnyH_ready (rs := [5]) (by kernel_rfl) (by simp) ?_
              refine AllReadyH.cons (o := ?_) ?_ (fun K hK => ?_) AllReadyH.nil
              rotate_left
              · (simp only [List.getElem?_toArray, List.getElem?_cons_zero, List.getElem?_cons_succ]; rfl)
              go_simp
              obtain ⟨wn, hwn, hsz, hblk⟩ := made_ct w6 y
              rw [← hwn]
              have hb : Below w6.heap.size w6 wn := by rw [hwn]; exact below_alloc (Below.refl _ _) _
              have E6 := Lib.hid hblk
              have B7 := Lib.hid (below_call B6.out hb)
              have C7 := Lib.hid (Nat.le_trans C6.out (hb).size)
              have G7 := Lib.hid (G6.out.below hb)
              have R7 := Lib.hid (R6.out.below hb)
              have O7 := Lib.hid (O6.out.below hb)
              clear B6 C6 G6 R6 O6
              have B6 := B7
              have C6 := C7
              have G6 := G7
              have R6 := R7
              have O6 := O7
              clear B7 C7 G7 R7 O7
              clear hb hwn hsz hblk
              generalize w6.heap.size = g6 at *
              refine hK.out _ _ trivial (fun hHeld => ?_)
              clear hK K
              (try simp only [Act.put, List.setIfInBounds_toArray, List.set_cons_zero, List.set_cons_succ])
              refine wpAnyH_ready (rs := [6]) (by kernel_rfl) (by simp) ?_
              refine AllReadyH.cons (o := ?_) ?_ (fun K hK => ?_) AllReadyH.nil
              rotate_left
              · (simp only [List.getElem?_toArray, List.getElem?_cons_zero, List.getElem?_cons_succ]; rfl)
              refine step_appC rfl _ _ rfl Bd (.slice av n cv) n (ts.take j) rfl HN5.out O6.out g6 0 1 1 [y] rfl rfl (elsC_one y _ E6.out) (by decide) HN8.out C6.out ?_
              intro g7 cap w7 hO hBel hGr
              have B7 := Lib.hid (B6.out.trans (hBel.mono HBW.out))
              have C7 := Lib.hid (Nat.le_trans C6.out hBel.size)
              have G7 := Lib.hid (G6.out.low hBel HBG.out)
              have R7 := Lib.hid (R6.out.low hBel HB2.out)
              have O7 := Lib.hid hO
              clear B6 C6 G6 R6 O6 E6 hO hBel hGr
              refine hK.out _ _ trivial (fun hHeld => ?_)
              clear hK K
              (try simp only [Act.put, List.setIfInBounds_toArray, List.set_cons_zero, List.set_cons_succ])
              refine wpAnyH_take (i := 7) (oi := ?_) (v := ?_) ?_ (by kernel_rfl) (by kernel_rfl) (by kernel_rfl) ?_ (Or.inl ⟨?_, ?_⟩) hHeld ?_
              rotate_left 2
              · (simp only [List.getElem?_toArray, List.getElem?_cons_zero, List.getElem?_cons_succ]; rfl)
              · exact (fun _ _ _ h => h)
              · rfl
              · (intro w hSw; (try dsimp only at hSw); go_simp; try with_reducible rfl)
              (try simp only [Act.put, List.setIfInBounds_toArray, List.set_cons_zero, List.set_cons_succ])
              refine wpAnyH_ready (rs := [8]) (by kernel_rfl) (by simp) ?_
              refine AllReadyH.cons (o := ?_) ?_ (fun K hK => ?_) AllReadyH.nil
              rotate_left
              · (simp only [List.getElem?_toArray, List.getElem?_cons_zero, List.getElem?_cons_succ]; rfl)
              have y11 := G7.out.cell 11 rfl
              have f11 := G7.out.frz 11
              go_simp
              have B8 := Lib.hid (bel_set B7.out HGA.out 11 (.slice (some ⟨g7, 0, none⟩) (n + 1) cap))
              have C8 := Lib.hid (show Bd ≤ (w7.setCell ⟨g, 11, none⟩ (.slice (some ⟨g7, 0, none⟩) (n + 1) cap)).heap.size from Nat.le_trans C7.out ((Keep.set_ (F := fun z => z = g) w7 g 11 (.slice (some ⟨g7, 0, none⟩) (n + 1) cap) rfl).size))
              have G8 := Lib.hid (G7.out.set_ 11 (.slice (some ⟨g7, 0, none⟩) (n + 1) cap))
              have R8 := Lib.hid (R7.out.far g 11 (.slice (some ⟨g7, 0, none⟩) (n + 1) cap) HNE.out)
              have O8 := Lib.hid (O7.out.keep (Keep.set_ (F := fun z => z = g) w7 g 11 (.slice (some ⟨g7, 0, none⟩) (n + 1) cap) rfl) (fun z hz => by rw [hz]; exact HBG.out))
              refine hK.out _ _ trivial (fun hHeld => ?_)
              clear hK K y11 f11
              (try simp only [Act.put, List.setIfInBounds_toArray, List.set_cons_zero, List.set_cons_succ])
              refine wpAnyH_done (by kernel_rfl) ?_ _
              go_wp2_with fail
              go_roundw
              case rel => exact ⟨j + 1, _, n + 1, _, by omega, by go_num, HNJ2, B8, C8, G8, R8, Lib.hid (by rw [HTY.out]; exact O8.out)⟩
              case measure => simp [intOf]; omega
            · have hltI : (t : Int) ≤ (j : Int) := by omega
              have hjt : j = t := by omega
              have HOE := HOr.out
              rw [hjt, ← HTL.out, List.take_length] at HOE
              have HCN := Lib.hid HOE.cnts
              clear HOE hjt
              have HB4 := HBr
              have HG4 := HGr
              have HR4 := HRr
              have HNC := Lib.hid (fun (p : Addr) (hp : av = some p) => Nat.ne_of_gt (Nat.lt_of_lt_of_le HB2.out (HCN.out.2 p n cv (by rw [hp]))))
              clear HBr HGr HRr HOr
              go_upto_region 16 with fail
              obtain ⟨d0, d1, d2, d3, d4, d5, d6, d7, d8, d9, d10, d11⟩ := cells12 HG4.out
              obtain ⟨e0, e1, e2, e3, e4, e5, e6, e7, e8, e9, e10, e11⟩ := cells12 HR4.out
              obtain ⟨f0, f1, f2, f3, f4, f5, f6, f7, f8, f9, f10, f11⟩ := frz12 HR4.out
              go_wp2_with fail
              have HB5 := Lib.hid (bel12 HB4.out (show wa.heap.size ≤ g2 by rw [HG2.out]; exact Nat.le_refl _) (.bool a) (.bool b') (.bool c) (.bool d) (.bool s) (.bool l) (.bool o) (.int .i64 m) (.bool mn) (.bool bt) (.int .i64 r) (.slice av n cv))
              have HR5 := Lib.hid (set12 HR4.out (.bool a) (.bool b') (.bool c) (.bool d) (.bool s) (.bool l) (.bool o) (.int .i64 m) (.bool mn) (.bool bt) (.int .i64 r) (.slice av n cv))
              have HT5 := Lib.hid (HCN.out.apart (keep12 (G := fun z => z = g2) rfl (.bool a) (.bool b') (.bool c) (.bool d) (.bool s) (.bool l) (.bool o) (.int .i64 m) (.bool mn) (.bool bt) (.int .i64 r) (.slice av n cv)) HNC.out)
              obtain ⟨k0, k1, k2, k3, k4, k5, k6, k7, k8, k9, k10, k11⟩ := cells12 HR5.out
              refine bodyPost_ret (v := .agg #[.bool a, .bool b', .bool c, .bool d, .bool s, .bool l, .bool o, .int .i64 m, .bool mn, .bool bt, .int .i64 r, .slice av n cv]) ?_ rfl ⟨_, rfl, HT5.out.mono HBW.out, HB5.out⟩
              rw [results_cell1 rfl]
              unfold put12 at k0 k1 k2 k3 k4 k5 k6 k7 k8 k9 k10 k11
              go_simp
end Go.Proofs.YtolfdfbhignniaaDoor
