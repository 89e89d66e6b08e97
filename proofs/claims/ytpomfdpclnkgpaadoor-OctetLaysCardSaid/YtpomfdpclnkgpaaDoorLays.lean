/-
  The walk of crossbucklaw03.OctetLays: true, whatever it is given.
-/
import Derived.Test.YtpomfdpclnkgpaaDoorSmall
import Derived.Laws.CopyOwn
import Derived.Deep.RegionHeld
import Derived.Deep.DeepCutAuto
namespace Go.Proofs.YtpomfdpclnkgpaaDoor
open Go.RowKit

theorem szU8 : (Tryd.prog.info? 5).map (·.size) = some 1 := by kernel_rfl
theorem byts_splice {w : World} {g n cap : Nat} {cur : List Value} {xs : List (BitVec 8)} (h : w.heap[g]? = some (.cells (splice cur 0 (xs.map cel)).toArray 5 (0, 0))) (hn : xs.length = n) (hc : n ≤ cap) : Byts w (.slice (some ⟨g, 0, none⟩) n cap) xs := by
  subst hn
  refine .inr ⟨g, 0, cap, rfl, hc, fun j x hx => ?_⟩
  have hj : j < xs.length := by
    rcases Nat.lt_or_ge j xs.length with h1 | h1
    · exact h1
    · rw [List.getElem?_eq_none h1] at hx; cases hx
  rw [Nat.zero_add, cell_of_row _ _ _ _ _ _ h]
  rw [List.getElem?_eq_getElem hj] at hx
  simp [splice, List.getElem?_append, hj, Option.some.inj hx]
theorem byts_src {w : World} {a : Option Addr} {n c : Nat} {xs : List (BitVec 8)} (h : Byts w (.slice a n c) xs) (h0 : 0 < (xs.map cel).length) : ∃ ad, a = some ad ∧ ∀ (j : Nat) x, (xs.map cel)[j]? = some x → w.cell? (ad.add j) = some x := by
  rcases h with ⟨rfl, _⟩ | ⟨g, o, cap, hv, hc, h⟩
  · simp at h0
  · simp only [Value.slice.injEq] at hv
    refine ⟨⟨g, o, none⟩, hv.1, fun j x hx => ?_⟩
    rw [List.getElem?_map] at hx
    cases hy : xs[j]? with
    | none => rw [hy] at hx; cases hx
    | some y => rw [hy] at hx; cases hx; rw [plain_add]; exact h j y hy

theorem wrap_u32 (n : BitVec 16) : IntKind.u32.wrap (n.toNat : Int) = (n.toNat : Int) := by
  have := n.isLt
  simp [IntKind.wrap, IntKind.bits, IntKind.signed]
  omega
theorem rput2_any (v : Value) (n : BitVec 16) (xs : List (BitVec 8)) (w : World) (hv : Byts w v xs) (hl : xs.length ≤ 1000000) :
    Calls Tryd.prog 23 #[v, .int .u32 (n.toNat : Int), .int .i64 2] w fun e w' => ∃ r, e = .returned r ∧ Own w' w.heap.size r (xs ++ lay2 n) ∧ Below w.heap.size w w' := by
  have := rput_any v n.toNat 2 xs w hv hl (by have := n.isLt; omega) (by omega)
  rw [tops_two] at this
  exact this
theorem rput4_any (v : Value) (n : BitVec 32) (xs : List (BitVec 8)) (w : World) (hv : Byts w v xs) (hl : xs.length ≤ 1000000) :
    Calls Tryd.prog 23 #[v, .int .u32 (n.toNat : Int), .int .i64 4] w fun e w' => ∃ r, e = .returned r ∧ Own w' w.heap.size r (xs ++ lay4 n) ∧ Below w.heap.size w w' := by
  have := rput_any v n.toNat 4 xs w hv hl n.isLt (by omega)
  rw [tops_four] at this
  exact this

set_option maxHeartbeats 2000000 in
set_option maxRecDepth 100000 in
theorem lays_main (v : Value) (xs : List (BitVec 8)) (n : BitVec 16) (m : BitVec 32) (len : Nat) (w : World) (hv : Byts w v xs) (hx : xs.length = len) (hn : len ≤ 300) :
    Calls Tryd.prog 4 #[v, .int .u16 (n.toNat : Int), .int .u32 (m.toNat : Int)] w fun e w' => e = .returned (.bool true) ∧ Below w.heap.size w w' := by
  obtain ⟨av, cv, ev⟩ := hv.len
  rw [hx] at ev
  obtain ⟨M, hM, _, hmk⟩ := run_make_u8 (len + 10) (by omega) len (by omega)
  have HS := Lib.hid (small_true w)
  have HV := Lib.hid hv
  have HX := Lib.hid hx
  have HMS := Lib.hid hM
  have HXL := Lib.hid (show xs.length ≤ 1000000 by omega)
  have HL2 := Lib.hid (show (xs ++ lay2 n).length = len + 2 by simp [lay2, hx])
  have hn1 := n.isLt
  have hm1 := m.isLt
  rw [show ((len + 10 : Nat) : Int) = (len : Int) + 10 by simp] at hmk
  clear hv hx hM
  subst ev
  go_enter Tryd.func4, Tryd.ntmps4
  go_wp2_with fail
  (with_reducible refine HS.out.mono ?_)
  rintro e w1 ⟨rfl, hb⟩
  have HB := Lib.hid hb
  have HV1 := Lib.hid (HV.out.below hb)
  clear hb HS
  have HB2 := Lib.hid ((Below.refl w1.heap.size w1).alloc (Nat.le_refl _) (.cells M 5))
  have HG := Lib.hid (show (w1.alloc (.cells M 5)).heap[w1.heap.size]? = some (.cells M.toList.toArray 5 (0, 0)) by have := heap_alloc_new w1 (.cells M 5); simpa using this)
  have HN1 := Lib.hid (show (xs.map cel).length = Nat.min len len by rw [List.length_map, HX.out]; simp [Nat.min_def])
  have HN2 := Lib.hid (show 0 + (xs.map cel).length ≤ M.toList.length by rw [List.length_map, HX.out, Array.length_toList, HMS.out]; omega)
  have HSP : Hid (0 < (xs.map cel).length → ∃ ad, av = some ad ∧ ∀ (j : Nat) x, (xs.map cel)[j]? = some x → (w1.alloc (.cells M 5)).cell? (ad.add j) = some x) := byts_src (HV1.out.below HB2.out)
  go_wp2_with ((refine wpList_copy_splice (o := ⟨some 26, _, _, _, _, _⟩) rfl _ _ 22 22 rfl 5 Tryd.underlying22 szU8 _ _ _ _ _ _ rfl rfl w1.heap.size 0 M.toList 5 HG.out (xs.map cel) HN1.out (fun h => ⟨rfl, HSP.out h⟩) HN2.out (cel_one xs) w1.heap.size w1 HB2.out (Nat.le_refl _) ?_; intro w2 hg2 hb2))
  have HSPA := Lib.hid (byts_splice (cap := len + 10) hg2.out HX.out (by omega))
  have HV2 := Lib.hid (HV1.out.below hb2)
  have HB3 := Lib.hid (below_call HB.out hb2)
  clear hg2 hb2 HSP HN1 HN2 HG HB2 hmk HMS HV1 HB
  (with_reducible refine (put16_any _ n xs _ HSPA.out HXL.out).mono ?_)
  rintro e w3 ⟨x, rfl, hown, hb⟩
  obtain ⟨g, cap, rfl, hcap, hBg⟩ := hown.form (by rw [HL2.out]; omega)
  rw [HL2.out] at hown hcap ⊢
  have HGL := Lib.hid hBg
  have HGU := Lib.hid (show g < w3.heap.size by
    rcases hown.left.2 _ _ _ rfl with h | h
    · omega
    · exact h.2)
  have HOX := Lib.hid hown
  have HSL := Lib.hid (show Left w3 0 w2.heap.size (.slice (some ⟨w1.heap.size, 0, none⟩) len (len + 10)) xs from (HSPA.out.left).below hb)
  have HV3 := Lib.hid (HV2.out.below hb)
  have HB4 := Lib.hid (below_call HB3.out hb)
  have HS3 := Lib.hid (HSPA.out.below hb)
  have HW2 := Lib.hid HB3.out.size
  clear hown hb HV2 HB3 hBg HSPA
  go_wp2_with fail
  (with_reducible refine (put32_any _ m xs _ HS3.out HXL.out).mono ?_)
  rintro e w4 ⟨y, rfl, hown, hb⟩
  have HYL := Lib.hid hown.left
  obtain ⟨ay, cy, ey⟩ := hown.byts.len
  have HOX4 := Lib.hid (HOX.out.below hb)
  have HSL4 := Lib.hid (HSL.out.below hb)
  have HV4 := Lib.hid (HV3.out.below hb)
  have HB5 := Lib.hid (below_call HB4.out hb)
  clear hown hb HOX HSL HV3 HB4 HS3
  subst ey
  have HLY := Lib.hid (show (xs ++ lay4 m).length = len + 4 by simp [lay4, HX.out])
  rw [HLY.out] at HYL ⊢
  go_upto_region 8 with fail
  go_cut [11] (fun s11 wx => s11 = .bool true ∧ Below w4.heap.size w4 wx)
  case first =>
    have HD := Lib.hid ((Below.refl w4.heap.size w4).drew)
    have HVD := Lib.hid (HV4.out.below HD.out)
    have HXD := Lib.hid (HOX4.out.byts.below HD.out)
    have HYD := Lib.hid (HYL.out.1.below HD.out)
    have c1 := txt_run _ _ _ HXD.out
    have hwr := wrap_u32 n
    clear HSL4 HB5 HOX4 HYL HV4 HW2 HGU HGL HL2 HLY
    have c3 := txt_run _ _ _ HYD.out
    refine wp_region_held_drew (S := (fun w' => (convert 22 9 (.slice (some ⟨g, 0, none⟩) (len + 2) cap)).run Tryd.prog w' = .ok (.string (txt (xs ++ lay2 n))) w' ∧ (convert 22 9 (.slice ay (len + 4) cy)).run Tryd.prog w' = .ok (.string (txt (xs ++ lay4 m))) w')) (by kernel_rfl) ⟨c1, c3⟩ (fun hHeld => ?_)
    refine wpAnyH_take (i := 0) (oi := ?_) (v := ?_) ?_ (by kernel_rfl) (by kernel_rfl) (by kernel_rfl) ?_ (Or.inl ⟨?_, ?_⟩) hHeld ?_
    rotate_left 2
    · (simp only [List.getElem?_toArray, List.getElem?_cons_zero, List.getElem?_cons_succ]; rfl)
    · exact (fun _ _ _ h => h)
    · rfl
    · (intro w hSw; (try dsimp only at hSw); go_simp; try with_reducible rfl)
    (try simp only [Act.put, List.setIfInBounds_toArray, List.set_cons_zero, List.set_cons_succ])
    refine wpAnyH_take (i := 1) (oi := ?_) (v := ?_) ?_ (by kernel_rfl) (by kernel_rfl) (by kernel_rfl) ?_ (Or.inl ⟨?_, ?_⟩) hHeld ?_
    rotate_left 2
    · (simp only [List.getElem?_toArray, List.getElem?_cons_zero, List.getElem?_cons_succ]; rfl)
    · exact (fun _ _ _ h => h)
    · rfl
    · (intro w hSw; (try dsimp only at hSw); go_simp; try with_reducible rfl)
    (try simp only [Act.put, List.setIfInBounds_toArray, List.set_cons_zero, List.set_cons_succ])
    refine wpAnyH_take (i := 2) (oi := ?_) (v := ?_) ?_ (by kernel_rfl) (by kernel_rfl) (by kernel_rfl) ?_ (Or.inl ⟨?_, ?_⟩) hHeld ?_
    rotate_left 2
    · (simp only [List.getElem?_toArray, List.getElem?_cons_zero, List.getElem?_cons_succ]; rfl)
    · exact (fun _ _ _ h => h)
    · rfl
    · (intro w hSw; (try dsimp only at hSw); go_simp; try with_reducible rfl)
    (try simp only [Act.put, List.setIfInBounds_toArray, List.set_cons_zero, List.set_cons_succ])
    refine wpAnyH_take (i := 3) (oi := ?_) (v := ?_) ?_ (by kernel_rfl) (by kernel_rfl) (by kernel_rfl) ?_ (Or.inl ⟨?_, ?_⟩) hHeld ?_
    rotate_left 2
    · (simp only [List.getElem?_toArray, List.getElem?_cons_zero, List.getElem?_cons_succ]; rfl)
    · exact (fun _ _ _ h => h)
    · rfl
    · (intro w hSw; (try dsimp only at hSw); go_simp; try with_reducible rfl)
    (try simp only [Act.put, List.setIfInBounds_toArray, List.set_cons_zero, List.set_cons_succ])
    refine wpAnyH_take (i := 4) (oi := ?_) (v := ?_) ?_ (by kernel_rfl) (by kernel_rfl) (by kernel_rfl) ?_ (Or.inl ⟨?_, ?_⟩) hHeld ?_
    rotate_left 2
    · (simp only [List.getElem?_toArray, List.getElem?_cons_zero, List.getElem?_cons_succ]; rfl)
    · exact (fun _ _ _ h => h)
    · rfl
    · (intro w hSw; (try dsimp only at hSw); go_simp; try with_reducible rfl)
    (try simp only [Act.put, List.setIfInBounds_toArray, List.set_cons_zero, List.set_cons_succ])
    refine wpAnyH_ready (rs := [5]) (by kernel_rfl) (by simp) ?_
    refine AllReadyH.cons (o := ?_) ?_ (fun K hK => ?_) AllReadyH.nil
    rotate_left
    · (simp only [List.getElem?_toArray, List.getElem?_cons_zero, List.getElem?_cons_succ]; rfl)
    go_simp
    (with_reducible refine (rput2_any _ n xs _ HVD.out HXL.out).mono ?_)
    (rintro e w5 ⟨r5, rfl, hown, hb⟩; have HC := Lib.hid (below_call HD.out hb); have hcv := txt_run _ _ _ hown.byts; have HV5 := Lib.hid (HVD.out.below hb); have HX5 := Lib.hid (HXD.out.below hb); have HY5 := Lib.hid (HYD.out.below hb); have hk := And.intro (txt_run _ _ _ HX5.out) (txt_run _ _ _ HY5.out); have HK := Lib.hid hk; clear hown hb hk)
    go_wp2_with fail
    refine hK.out _ _ HK.out (fun hHeld => ?_)
    clear hK K
    (try simp only [Act.put, List.setIfInBounds_toArray, List.set_cons_zero, List.set_cons_succ])
    refine wpAnyH_ready (rs := [6]) (by kernel_rfl) (by simp) ?_
    refine AllReadyH.cons (o := ?_) ?_ (fun K hK => ?_) AllReadyH.nil
    rotate_left
    · (simp only [List.getElem?_toArray, List.getElem?_cons_zero, List.getElem?_cons_succ]; rfl)
    go_simp
    refine hK.out _ _ HK.out (fun hHeld => ?_)
    clear hK K
    (try simp only [Act.put, List.setIfInBounds_toArray, List.set_cons_zero, List.set_cons_succ])
    refine wpAnyH_take (i := 7) (oi := ?_) (v := ?_) ?_ (by kernel_rfl) (by kernel_rfl) (by kernel_rfl) ?_ (Or.inl ⟨?_, ?_⟩) hHeld ?_
    rotate_left 2
    · (simp only [List.getElem?_toArray, List.getElem?_cons_zero, List.getElem?_cons_succ]; rfl)
    · exact (fun _ _ _ h => h)
    · rfl
    · (intro w hSw; (try dsimp only at hSw); go_simp; try with_reducible rfl)
    (try simp only [Act.put, List.setIfInBounds_toArray, List.set_cons_zero, List.set_cons_succ])
    refine wpAnyH_take (i := 8) (oi := ?_) (v := ?_) ?_ (by kernel_rfl) (by kernel_rfl) (by kernel_rfl) ?_ (Or.inl ⟨?_, ?_⟩) hHeld ?_
    rotate_left 2
    · (simp only [List.getElem?_toArray, List.getElem?_cons_zero, List.getElem?_cons_succ]; rfl)
    · exact (fun _ _ _ h => h)
    · rfl
    · (intro w hSw; (try dsimp only at hSw); go_simp; try with_reducible rfl)
    (try simp only [Act.put, List.setIfInBounds_toArray, List.set_cons_zero, List.set_cons_succ])
    refine wpAnyH_take (i := 9) (oi := ?_) (v := ?_) ?_ (by kernel_rfl) (by kernel_rfl) (by kernel_rfl) ?_ (Or.inl ⟨?_, ?_⟩) hHeld ?_
    rotate_left 2
    · (simp only [List.getElem?_toArray, List.getElem?_cons_zero, List.getElem?_cons_succ]; rfl)
    · exact (fun _ _ _ h => h)
    · rfl
    · (intro w hSw; (try dsimp only at hSw); go_simp; try with_reducible rfl)
    (try simp only [Act.put, List.setIfInBounds_toArray, List.set_cons_zero, List.set_cons_succ])
    refine wpAnyH_take (i := 10) (oi := ?_) (v := ?_) ?_ (by kernel_rfl) (by kernel_rfl) (by kernel_rfl) ?_ (Or.inl ⟨?_, ?_⟩) hHeld ?_
    rotate_left 2
    · (simp only [List.getElem?_toArray, List.getElem?_cons_zero, List.getElem?_cons_succ]; rfl)
    · exact (fun _ _ _ h => h)
    · rfl
    · (intro w hSw; (try dsimp only at hSw); go_simp; try with_reducible rfl)
    (try simp only [Act.put, List.setIfInBounds_toArray, List.set_cons_zero, List.set_cons_succ])
    refine wpAnyH_take (i := 11) (oi := ?_) (v := ?_) ?_ (by kernel_rfl) (by kernel_rfl) (by kernel_rfl) ?_ (Or.inl ⟨?_, ?_⟩) hHeld ?_
    rotate_left 2
    · (simp only [List.getElem?_toArray, List.getElem?_cons_zero, List.getElem?_cons_succ]; rfl)
    · exact (fun _ _ _ h => h)
    · rfl
    · (intro w hSw; (try dsimp only at hSw); go_simp; try with_reducible rfl)
    (try simp only [Act.put, List.setIfInBounds_toArray, List.set_cons_zero, List.set_cons_succ])
    refine wpAnyH_take (i := 12) (oi := ?_) (v := ?_) ?_ (by kernel_rfl) (by kernel_rfl) (by kernel_rfl) ?_ (Or.inl ⟨?_, ?_⟩) hHeld ?_
    rotate_left 2
    · (simp only [List.getElem?_toArray, List.getElem?_cons_zero, List.getElem?_cons_succ]; rfl)
    · exact (fun _ _ _ h => h)
    · rfl
    · (intro w hSw; (try dsimp only at hSw); go_simp; try with_reducible rfl)
    (try simp only [Act.put, List.setIfInBounds_toArray, List.set_cons_zero, List.set_cons_succ])
    refine wpAnyH_ready (rs := [13]) (by kernel_rfl) (by simp) ?_
    refine AllReadyH.cons (o := ?_) ?_ (fun K hK => ?_) AllReadyH.nil
    rotate_left
    · (simp only [List.getElem?_toArray, List.getElem?_cons_zero, List.getElem?_cons_succ]; rfl)
    go_simp
    (with_reducible refine (rput4_any _ m xs _ HV5.out HXL.out).mono ?_)
    (rintro e w6 ⟨r6, rfl, hown, hb⟩; have HC6 := Lib.hid (below_call HC.out hb); have hcv6 := txt_run _ _ _ hown.byts; have hk6 := And.intro (txt_run _ _ _ (HX5.out.below hb)) (txt_run _ _ _ (HY5.out.below hb)); have HK6 := Lib.hid hk6; clear hown hb hk6)
    go_wp2_with fail
    refine hK.out _ _ HK6.out (fun hHeld => ?_)
    clear hK K
    (try simp only [Act.put, List.setIfInBounds_toArray, List.set_cons_zero, List.set_cons_succ])
    refine wpAnyH_ready (rs := [14]) (by kernel_rfl) (by simp) ?_
    refine AllReadyH.cons (o := ?_) ?_ (fun K hK => ?_) AllReadyH.nil
    rotate_left
    · (simp only [List.getElem?_toArray, List.getElem?_cons_zero, List.getElem?_cons_succ]; rfl)
    go_simp
    refine hK.out _ _ HK6.out (fun hHeld => ?_)
    clear hK K
    (try simp only [Act.put, List.setIfInBounds_toArray, List.set_cons_zero, List.set_cons_succ])
    refine wpAnyH_take (i := 15) (oi := ?_) (v := ?_) ?_ (by kernel_rfl) (by kernel_rfl) (by kernel_rfl) ?_ (Or.inl ⟨?_, ?_⟩) hHeld ?_
    rotate_left 2
    · (simp only [List.getElem?_toArray, List.getElem?_cons_zero, List.getElem?_cons_succ]; rfl)
    · exact (fun _ _ _ h => h)
    · rfl
    · (intro w hSw; (try dsimp only at hSw); go_simp; try with_reducible rfl)
    (try simp only [Act.put, List.setIfInBounds_toArray, List.set_cons_zero, List.set_cons_succ])
    refine wpAnyH_take (i := 16) (oi := ?_) (v := ?_) ?_ (by kernel_rfl) (by kernel_rfl) (by kernel_rfl) ?_ (Or.inl ⟨?_, ?_⟩) hHeld ?_
    rotate_left 2
    · (simp only [List.getElem?_toArray, List.getElem?_cons_zero, List.getElem?_cons_succ]; rfl)
    · exact (fun _ _ _ h => h)
    · rfl
    · (intro w hSw; (try dsimp only at hSw); go_simp; try with_reducible rfl)
    (try simp only [Act.put, List.setIfInBounds_toArray, List.set_cons_zero, List.set_cons_succ])
    refine wpAnyH_take (i := 17) (oi := ?_) (v := ?_) ?_ (by kernel_rfl) (by kernel_rfl) (by kernel_rfl) ?_ (Or.inl ⟨?_, ?_⟩) hHeld ?_
    rotate_left 2
    · (simp only [List.getElem?_toArray, List.getElem?_cons_zero, List.getElem?_cons_succ]; rfl)
    · exact (fun _ _ _ h => h)
    · rfl
    · (intro w hSw; (try dsimp only at hSw); go_simp; try with_reducible rfl)
    (try simp only [Act.put, List.setIfInBounds_toArray, List.set_cons_zero, List.set_cons_succ])
    refine wpAnyH_done (by kernel_rfl) ?_ _
    go_wp2_with fail
    go_meet
    exact ⟨by simp, HC6.out⟩
  case rest =>
    obtain ⟨rfl, hb⟩ := hcut
    have HB6 := Lib.hid (below_call HB5.out hb)
    have HOX6 := Lib.hid (HOX4.out.below hb)
    have HSL6 := Lib.hid (HSL4.out.below hb)
    have HYL6 := Lib.hid (HYL.out.below hb)
    have HWG := Lib.hid (Nat.le_trans HW2.out HGL.out)
    clear hb HOX4 HSL4 HYL HB5 HV4
    go_wp2_with fail
    go_loopw [12] (fun i wr => ∃ (k : Nat) (zs : List (BitVec 8)), k ≤ len + 2 ∧ i = .int .i64 k ∧ zs.length = len + 2 ∧ Own wr w2.heap.size (.slice (some ⟨g, 0, none⟩) (len + 2) cap) zs ∧ Apart g wc wr) (fun i _ => len + 2 - (intOf i).toNat)
    case atStart => exact ⟨0, _, by omega, rfl, HL2.out, HOX6.out, Apart.refl _ _⟩
    case round =>
      obtain ⟨k, zs, hk, rfl, hz, hr, ha⟩ := hrel
      have HZ := Lib.hid hz
      have HRW := Lib.hid hr
      have HAW := Lib.hid ha
      clear hz hr ha
      by_cases hlt : k < len + 2
      · obtain ⟨z, hzk⟩ : ∃ z, zs[k]? = some z := ⟨_, List.getElem?_eq_getElem (by rw [HZ.out]; exact hlt)⟩
        have h1 := HRW.out.cell HZ.out.symm _ z hzk
        have h2 := HRW.out.frozen HZ.out.symm k
        have hltI : (k : Int) < (len : Int) + 2 := by omega
        have HR2 := Lib.hid (HRW.out.set_ HZ.out.symm k 7#8)
        have HA2 := Lib.hid (HAW.out.trans (Apart.set_ g k wr (.int .u8 7)))
        clear hzk
        go_wp2
        go_roundw
        case rel => exact ⟨k + 1, zs.set k 7#8, by omega, by go_num, by rw [List.length_set]; exact HZ.out, HR2.out, HA2.out⟩
        case measure => simp [intOf]; omega
      · have HBT := Lib.hid (below_apart HB6.out HAW.out HWG.out)
        have HD := Lib.hid ((Below.refl wr.heap.size wr).drew)
        have HVD := Lib.hid ((HV.out.below HBT.out).below HD.out)
        have HSD := Lib.hid ((HSL6.out.apart HAW.out (.inr HGL.out)).1.below HD.out)
        have HYD := Lib.hid ((HYL6.out.apart HAW.out (.inl HGU.out)).1.below HD.out)
        have c1 := txt_run _ _ _ HVD.out
        have c2 := txt_run _ _ _ HSD.out
        have c3 := txt_run _ _ _ HYD.out
        clear HRW HAW HZ HB6 HOX6 HSL6 HYL6 HV HGL HGU HWG HW2 HL2 HLY
        go_wp2_with fail
        refine wp_region_held_drew (S := (fun w' => (convert 22 9 (.slice (some ⟨w1.heap.size, 0, none⟩) len (len + 10))).run Tryd.prog w' = .ok (.string (txt xs)) w' ∧ (convert 22 9 (.slice av len cv)).run Tryd.prog w' = .ok (.string (txt xs)) w' ∧ (convert 22 9 (.slice ay (len + 4) cy)).run Tryd.prog w' = .ok (.string (txt (xs ++ lay4 m))) w')) (by kernel_rfl) ⟨c2, c1, c3⟩ (fun hHeld => ?_)
        refine wpAnyH_take (i := 0) (oi := ?_) (v := ?_) ?_ (by kernel_rfl) (by kernel_rfl) (by kernel_rfl) ?_ (Or.inl ⟨?_, ?_⟩) hHeld ?_
        rotate_left 2
        · (simp only [List.getElem?_toArray, List.getElem?_cons_zero, List.getElem?_cons_succ]; rfl)
        · exact (fun _ _ _ h => h)
        · rfl
        · (intro w hSw; (try dsimp only at hSw); go_simp; try with_reducible rfl)
        (try simp only [Act.put, List.setIfInBounds_toArray, List.set_cons_zero, List.set_cons_succ])
        refine wpAnyH_take (i := 1) (oi := ?_) (v := ?_) ?_ (by kernel_rfl) (by kernel_rfl) (by kernel_rfl) ?_ (Or.inl ⟨?_, ?_⟩) hHeld ?_
        rotate_left 2
        · (simp only [List.getElem?_toArray, List.getElem?_cons_zero, List.getElem?_cons_succ]; rfl)
        · exact (fun _ _ _ h => h)
        · rfl
        · (intro w hSw; (try dsimp only at hSw); go_simp; try with_reducible rfl)
        (try simp only [Act.put, List.setIfInBounds_toArray, List.set_cons_zero, List.set_cons_succ])
        refine wpAnyH_take (i := 2) (oi := ?_) (v := ?_) ?_ (by kernel_rfl) (by kernel_rfl) (by kernel_rfl) ?_ (Or.inl ⟨?_, ?_⟩) hHeld ?_
        rotate_left 2
        · (simp only [List.getElem?_toArray, List.getElem?_cons_zero, List.getElem?_cons_succ]; rfl)
        · exact (fun _ _ _ h => h)
        · rfl
        · (intro w hSw; (try dsimp only at hSw); go_simp; try with_reducible rfl)
        (try simp only [Act.put, List.setIfInBounds_toArray, List.set_cons_zero, List.set_cons_succ])
        refine wpAnyH_take (i := 3) (oi := ?_) (v := ?_) ?_ (by kernel_rfl) (by kernel_rfl) (by kernel_rfl) ?_ (Or.inl ⟨?_, ?_⟩) hHeld ?_
        rotate_left 2
        · (simp only [List.getElem?_toArray, List.getElem?_cons_zero, List.getElem?_cons_succ]; rfl)
        · exact (fun _ _ _ h => h)
        · rfl
        · (intro w hSw; (try dsimp only at hSw); go_simp; try with_reducible rfl)
        (try simp only [Act.put, List.setIfInBounds_toArray, List.set_cons_zero, List.set_cons_succ])
        refine wpAnyH_take (i := 4) (oi := ?_) (v := ?_) ?_ (by kernel_rfl) (by kernel_rfl) (by kernel_rfl) ?_ (Or.inl ⟨?_, ?_⟩) hHeld ?_
        rotate_left 2
        · (simp only [List.getElem?_toArray, List.getElem?_cons_zero, List.getElem?_cons_succ]; rfl)
        · exact (fun _ _ _ h => h)
        · rfl
        · (intro w hSw; (try dsimp only at hSw); go_simp; try with_reducible rfl)
        (try simp only [Act.put, List.setIfInBounds_toArray, List.set_cons_zero, List.set_cons_succ])
        refine wpAnyH_take (i := 5) (oi := ?_) (v := ?_) ?_ (by kernel_rfl) (by kernel_rfl) (by kernel_rfl) ?_ (Or.inl ⟨?_, ?_⟩) hHeld ?_
        rotate_left 2
        · (simp only [List.getElem?_toArray, List.getElem?_cons_zero, List.getElem?_cons_succ]; rfl)
        · exact (fun _ _ _ h => h)
        · rfl
        · (intro w hSw; (try dsimp only at hSw); go_simp; try with_reducible rfl)
        (try simp only [Act.put, List.setIfInBounds_toArray, List.set_cons_zero, List.set_cons_succ])
        refine wpAnyH_take (i := 6) (oi := ?_) (v := ?_) ?_ (by kernel_rfl) (by kernel_rfl) (by kernel_rfl) ?_ (Or.inl ⟨?_, ?_⟩) hHeld ?_
        rotate_left 2
        · (simp only [List.getElem?_toArray, List.getElem?_cons_zero, List.getElem?_cons_succ]; rfl)
        · exact (fun _ _ _ h => h)
        · rfl
        · (intro w hSw; (try dsimp only at hSw); go_simp; try with_reducible rfl)
        (try simp only [Act.put, List.setIfInBounds_toArray, List.set_cons_zero, List.set_cons_succ])
        refine wpAnyH_take (i := 7) (oi := ?_) (v := ?_) ?_ (by kernel_rfl) (by kernel_rfl) (by kernel_rfl) ?_ (Or.inl ⟨?_, ?_⟩) hHeld ?_
        rotate_left 2
        · (simp only [List.getElem?_toArray, List.getElem?_cons_zero, List.getElem?_cons_succ]; rfl)
        · exact (fun _ _ _ h => h)
        · rfl
        · (intro w hSw; (try dsimp only at hSw); go_simp; try with_reducible rfl)
        (try simp only [Act.put, List.setIfInBounds_toArray, List.set_cons_zero, List.set_cons_succ])
        refine wpAnyH_take (i := 8) (oi := ?_) (v := ?_) ?_ (by kernel_rfl) (by kernel_rfl) (by kernel_rfl) ?_ (Or.inl ⟨?_, ?_⟩) hHeld ?_
        rotate_left 2
        · (simp only [List.getElem?_toArray, List.getElem?_cons_zero, List.getElem?_cons_succ]; rfl)
        · exact (fun _ _ _ h => h)
        · rfl
        · (intro w hSw; (try dsimp only at hSw); go_simp; try with_reducible rfl)
        (try simp only [Act.put, List.setIfInBounds_toArray, List.set_cons_zero, List.set_cons_succ])
        refine wpAnyH_take (i := 9) (oi := ?_) (v := ?_) ?_ (by kernel_rfl) (by kernel_rfl) (by kernel_rfl) ?_ (Or.inl ⟨?_, ?_⟩) hHeld ?_
        rotate_left 2
        · (simp only [List.getElem?_toArray, List.getElem?_cons_zero, List.getElem?_cons_succ]; rfl)
        · exact (fun _ _ _ h => h)
        · rfl
        · (intro w hSw; (try dsimp only at hSw); go_simp; try with_reducible rfl)
        (try simp only [Act.put, List.setIfInBounds_toArray, List.set_cons_zero, List.set_cons_succ])
        refine wpAnyH_take (i := 10) (oi := ?_) (v := ?_) ?_ (by kernel_rfl) (by kernel_rfl) (by kernel_rfl) ?_ (Or.inl ⟨?_, ?_⟩) hHeld ?_
        rotate_left 2
        · (simp only [List.getElem?_toArray, List.getElem?_cons_zero, List.getElem?_cons_succ]; rfl)
        · exact (fun _ _ _ h => h)
        · rfl
        · (intro w hSw; (try dsimp only at hSw); go_simp; try with_reducible rfl)
        (try simp only [Act.put, List.setIfInBounds_toArray, List.set_cons_zero, List.set_cons_succ])
        refine wpAnyH_take (i := 11) (oi := ?_) (v := ?_) ?_ (by kernel_rfl) (by kernel_rfl) (by kernel_rfl) ?_ (Or.inl ⟨?_, ?_⟩) hHeld ?_
        rotate_left 2
        · (simp only [List.getElem?_toArray, List.getElem?_cons_zero, List.getElem?_cons_succ]; rfl)
        · exact (fun _ _ _ h => h)
        · rfl
        · (intro w hSw; (try dsimp only at hSw); go_simp; try with_reducible rfl)
        (try simp only [Act.put, List.setIfInBounds_toArray, List.set_cons_zero, List.set_cons_succ])
        refine wpAnyH_take (i := 12) (oi := ?_) (v := ?_) ?_ (by kernel_rfl) (by kernel_rfl) (by kernel_rfl) ?_ (Or.inl ⟨?_, ?_⟩) hHeld ?_
        rotate_left 2
        · (simp only [List.getElem?_toArray, List.getElem?_cons_zero, List.getElem?_cons_succ]; rfl)
        · exact (fun _ _ _ h => h)
        · rfl
        · (intro w hSw; (try dsimp only at hSw); go_simp; try with_reducible rfl)
        (try simp only [Act.put, List.setIfInBounds_toArray, List.set_cons_zero, List.set_cons_succ])
        refine wpAnyH_take (i := 13) (oi := ?_) (v := ?_) ?_ (by kernel_rfl) (by kernel_rfl) (by kernel_rfl) ?_ (Or.inl ⟨?_, ?_⟩) hHeld ?_
        rotate_left 2
        · (simp only [List.getElem?_toArray, List.getElem?_cons_zero, List.getElem?_cons_succ]; rfl)
        · exact (fun _ _ _ h => h)
        · rfl
        · (intro w hSw; (try dsimp only at hSw); go_simp; try with_reducible rfl)
        (try simp only [Act.put, List.setIfInBounds_toArray, List.set_cons_zero, List.set_cons_succ])
        refine wpAnyH_take (i := 14) (oi := ?_) (v := ?_) ?_ (by kernel_rfl) (by kernel_rfl) (by kernel_rfl) ?_ (Or.inl ⟨?_, ?_⟩) hHeld ?_
        rotate_left 2
        · (simp only [List.getElem?_toArray, List.getElem?_cons_zero, List.getElem?_cons_succ]; rfl)
        · exact (fun _ _ _ h => h)
        · rfl
        · (intro w hSw; (try dsimp only at hSw); go_simp; try with_reducible rfl)
        (try simp only [Act.put, List.setIfInBounds_toArray, List.set_cons_zero, List.set_cons_succ])
        refine wpAnyH_take (i := 15) (oi := ?_) (v := ?_) ?_ (by kernel_rfl) (by kernel_rfl) (by kernel_rfl) ?_ (Or.inl ⟨?_, ?_⟩) hHeld ?_
        rotate_left 2
        · (simp only [List.getElem?_toArray, List.getElem?_cons_zero, List.getElem?_cons_succ]; rfl)
        · exact (fun _ _ _ h => h)
        · rfl
        · (intro w hSw; (try dsimp only at hSw); go_simp; try with_reducible rfl)
        (try simp only [Act.put, List.setIfInBounds_toArray, List.set_cons_zero, List.set_cons_succ])
        refine wpAnyH_ready (rs := [16]) (by kernel_rfl) (by simp) ?_
        refine AllReadyH.cons (o := ?_) ?_ (fun K hK => ?_) AllReadyH.nil
        rotate_left
        · (simp only [List.getElem?_toArray, List.getElem?_cons_zero, List.getElem?_cons_succ]; rfl)
        go_simp
        (with_reducible refine (rput4_any _ m xs _ HVD.out HXL.out).mono ?_)
        (rintro e w5 ⟨r5, rfl, hown, hb⟩; have HC := Lib.hid (below_call (HBT.out.drew) hb); have hcv := txt_run _ _ _ hown.byts; have hk := And.intro (txt_run _ _ _ (HSD.out.below hb)) (And.intro (txt_run _ _ _ (HVD.out.below hb)) (txt_run _ _ _ (HYD.out.below hb))); have HK := Lib.hid hk; clear hown hb hk)
        go_wp2_with fail
        refine hK.out _ _ HK.out (fun hHeld => ?_)
        clear hK K
        (try simp only [Act.put, List.setIfInBounds_toArray, List.set_cons_zero, List.set_cons_succ])
        refine wpAnyH_ready (rs := [17]) (by kernel_rfl) (by simp) ?_
        refine AllReadyH.cons (o := ?_) ?_ (fun K hK => ?_) AllReadyH.nil
        rotate_left
        · (simp only [List.getElem?_toArray, List.getElem?_cons_zero, List.getElem?_cons_succ]; rfl)
        go_simp
        refine hK.out _ _ HK.out (fun hHeld => ?_)
        clear hK K
        (try simp only [Act.put, List.setIfInBounds_toArray, List.set_cons_zero, List.set_cons_succ])
        refine wpAnyH_ready (rs := [18]) (by kernel_rfl) (by simp) ?_
        refine AllReadyH.cons (o := ?_) ?_ (fun K hK => ?_) AllReadyH.nil
        rotate_left
        · (simp only [List.getElem?_toArray, List.getElem?_cons_zero, List.getElem?_cons_succ]; rfl)
        go_simp
        refine hK.out _ _ HK.out (fun hHeld => ?_)
        clear hK K
        (try simp only [Act.put, List.setIfInBounds_toArray, List.set_cons_zero, List.set_cons_succ])
        refine wpAnyH_ready (rs := [19]) (by kernel_rfl) (by simp) ?_
        refine AllReadyH.cons (o := ?_) ?_ (fun K hK => ?_) AllReadyH.nil
        rotate_left
        · (simp only [List.getElem?_toArray, List.getElem?_cons_zero, List.getElem?_cons_succ]; rfl)
        go_simp
        refine hK.out _ _ HK.out (fun hHeld => ?_)
        clear hK K
        (try simp only [Act.put, List.setIfInBounds_toArray, List.set_cons_zero, List.set_cons_succ])
        refine wpAnyH_ready (rs := [20]) (by kernel_rfl) (by simp) ?_
        refine AllReadyH.cons (o := ?_) ?_ (fun K hK => ?_) AllReadyH.nil
        rotate_left
        · (simp only [List.getElem?_toArray, List.getElem?_cons_zero, List.getElem?_cons_succ]; rfl)
        go_simp
        refine hK.out _ _ HK.out (fun hHeld => ?_)
        clear hK K
        (try simp only [Act.put, List.setIfInBounds_toArray, List.set_cons_zero, List.set_cons_succ])
        refine wpAnyH_done (by kernel_rfl) ?_ _
        go_wp2_with fail
        go_ret
        exact ⟨by simp, HC.out⟩

theorem lays_any (v : Value) (xs : List (BitVec 8)) (n : BitVec 16) (m : BitVec 32) (w : World) (hv : Byts w v xs) (hm : xs.length ≤ maxLen) :
    Calls Tryd.prog 4 #[v, .int .u16 (n.toNat : Int), .int .u32 (m.toNat : Int)] w fun e w' => e = .returned (.bool true) ∧ Below w.heap.size w w' := by
  by_cases hmain : xs.length ≤ 300
  · exact lays_main v xs n m xs.length w hv rfl hmain
  · obtain ⟨av, cv, ev⟩ := hv.len
    have HS := Lib.hid (small_true w)
    clear hv
    subst ev
    unfold maxLen at hm
    have hc : 300 < xs.length := by omega
    clear hmain
    go_enter Tryd.func4, Tryd.ntmps4
    go_wp2_with fail
    (with_reducible refine HS.out.mono ?_)
    rintro e w1 ⟨rfl, hb⟩
    go_wp2_with fail
    go_ret
    exact ⟨rfl, hb⟩
end Go.Proofs.YtpomfdpclnkgpaaDoor
