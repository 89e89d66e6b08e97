/-
  The walk of crossbucklaw10.PairJumps: true, whatever it is given.
-/
import Derived.Test.YtemomgbgfelooaaSmall
import Derived.Test.YtemomgbgfelooaaSlices
import Derived.Deep.RegionHeld3
import Derived.Deep.CutRange
import Derived.Deep.DeepCutAuto
namespace Go.Proofs.Ytemomgbgfelooaa
open Go.RowKit

theorem xor3 (a b : Int) : bits .and .i64 (bits .xor .i64 a b) 3 = (((a % 4).toNat ^^^ (b % 4).toNat : Nat) : Int) := by
  rw [and3]
  show IntKind.i64.wrap ((BitVec.ofInt 64 a ^^^ BitVec.ofInt 64 b).toNat : Int) % 4 = _
  have h1 : (BitVec.ofInt 64 a ^^^ BitVec.ofInt 64 b).toNat % 4 = ((a % 4).toNat ^^^ (b % 4).toNat) := by
    rw [BitVec.toNat_xor, show (4 : Nat) = 2 ^ 2 from rfl, Nat.xor_mod_two_pow, BitVec.toNat_ofInt, BitVec.toNat_ofInt]
    congr 1 <;> simp <;> omega
  rw [← h1, IntKind.wrap_i64]
  have := (BitVec.ofInt 64 a ^^^ BitVec.ofInt 64 b).isLt
  generalize (BitVec.ofInt 64 a ^^^ BitVec.ofInt 64 b).toNat = z at *
  omega
theorem xor_way (a b : Int) : (bits .and .i64 (bits .xor .i64 a b) 3 == 3) = decide (way a b = 2) := by
  rw [xor3]
  unfold way
  rcases qr_cases a with ⟨h, e⟩ | ⟨h, e⟩ | ⟨h, e⟩ | ⟨h, e⟩ <;> rcases qr_cases b with ⟨h', e'⟩ | ⟨h', e'⟩ | ⟨h', e'⟩ | ⟨h', e'⟩ <;> rw [h, h', e, e'] <;> decide
theorem jump_cases (l s : Int) (j : Bool) (m : Int) (hs : PosR s) : ∃ s' j', stp ⟨l, s, j⟩ m = ⟨m % 4, s', j'⟩ ∧ PosR s' ∧
    ((way l m = 2 ∧ j' = true ∧ s' = s) ∨ (way l m ≠ 2 ∧ j' = j ∧ (s' = s ∨ s' = s + 1 ∨ s' = s - 1))) := by
  refine ⟨_, _, rfl, bump_range _ hs, ?_⟩
  have hr := way_range l m
  rcases (show way l m = 0 ∨ way l m = 1 ∨ way l m = 2 ∨ way l m = 3 by omega) with h | h | h | h
  · exact .inr ⟨by omega, by simp [h], .inl (by simp [h, bump])⟩
  · refine .inr ⟨by omega, by simp [h], ?_⟩
    show bump (way l m) s = s ∨ bump (way l m) s = s + 1 ∨ _
    rw [h]; unfold bump; simp; split <;> omega
  · exact .inl ⟨h, by simp [h], by simp [h, bump]⟩
  · refine .inr ⟨by omega, by simp [h], ?_⟩
    show bump (way l m) s = s ∨ _ ∨ bump (way l m) s = s - 1
    rw [h]; unfold bump; simp; split <;> omega
theorem jumps_out (l s : Int) (j : Bool) (v : Value) (xs : List Int) (w : World) (hv : Sl (Value.int .i64) w v xs) (hl : 200 < xs.length) : Calls Try.prog 6 #[.agg #[.int .i64 l, .int .i64 s, .bool j], v] w fun e w' => e = .returned (.bool true) ∧ Below w.heap.size w w' := by
  obtain ⟨a, c, ev⟩ := hv.len
  obtain ⟨n, hn⟩ : ∃ n, n = xs.length := ⟨_, rfl⟩
  rw [← hn] at ev hl
  subst ev
  have hlI : (200 : Int) < (n : Int) := by omega
  have HB0 := Lib.hid (below_alloc (Below.refl _ w) (.cells #[.int .i64 l, .int .i64 s, .bool j] 23))
  clear hv hn hl
  go_enter Try.func6, Try.ntmps6
  go_wp2_with fail
  (with_reducible refine (small_true _).mono ?_)
  rintro e w1 ⟨rfl, hb⟩
  have HB1 := Lib.hid (below_call HB0.out hb)
  clear hb
  go_wp2_with fail
  go_ret
  exact ⟨rfl, HB1.out⟩
set_option maxHeartbeats 8000000 in
set_option maxRecDepth 10000 in
theorem jumps_main (l0 s0 : Int) (j0 : Bool) (v : Value) (xs : List Int) (w : World) (hs0 : PosR s0) (hv : Sl (Value.int .i64) w v xs) (hl : xs.length ≤ 200) : Calls Try.prog 6 #[.agg #[.int .i64 l0, .int .i64 s0, .bool j0], v] w fun e w' => e = .returned (.bool true) ∧ Below w.heap.size w w' := by
  obtain ⟨a, c, ev⟩ := hv.len
  obtain ⟨n, hn⟩ : ∃ n, n = xs.length := ⟨_, rfl⟩
  rw [← hn] at ev hl
  subst ev
  have HV := Lib.hid hv
  have HN := Lib.hid hn
  have HS0 := Lib.hid hs0
  have hlI : ¬ (200 : Int) < (n : Int) := by omega
  have HB0 := Lib.hid (below_alloc (Below.refl _ w) (.cells #[.int .i64 l0, .int .i64 s0, .bool j0] 23))
  have HP0 := Lib.hid (box3 w l0 s0 j0)
  clear hv hn hs0
  go_enter Try.func6, Try.ntmps6
  go_wp2_with fail
  (with_reducible refine (small_true _).mono ?_)
  rintro e w1 ⟨rfl, hb⟩
  have HB1 := Lib.hid (below_call HB0.out hb)
  have HP1 := Lib.hid (HP0.out.below hb)
  clear hb HB0 HP0
  go_wp2_with fail
  go_loopw [6] (fun i wr => ∃ (k : Nat) (l s : Int) (j : Bool), k ≤ n ∧ i = .int .i64 (k : Int) ∧ Hid (Below w.heap.size w wr) ∧ Hid (Blk wr w.heap.size #[.int .i64 l, .int .i64 s, .bool j] 23) ∧ Hid (PosR s)) (fun i _ => n - (intOf i).toNat)
  case atStart => exact ⟨0, l0, s0, j0, by omega, rfl, HB1, HP1, HS0⟩
  case round =>
    obtain ⟨k, l, s, j, hk, rfl, HB, HP, HS⟩ := hrel
    clear HB1 HP1 HS0
    by_cases hlt : k < n
    · obtain ⟨g2, o2, cap, m, ev, _, hg2, hm, hc⟩ := HV.out.at_ k (by rw [← HN.out]; exact hlt)
      simp only [Value.slice.injEq] at ev
      obtain ⟨rfl, en, rfl⟩ := ev
      have hc := below_cell HB.out hc
      have HPd := Lib.hid (HP.out.below (bel_drew wr))
      have HBd := Lib.hid (below_call HB.out (bel_drew wr))
      have hcd : wr.drew.cell? ⟨g2, o2 + k, none⟩ = some (.int .i64 m) := hc
      have HCd := Lib.hid hcd
      have HSD := Lib.hid (And.intro HPd.out hcd)
      have hltI : (k : Int) < (n : Int) := by omega
      have h3 := and3 m
      have hx := xor_way l m
      obtain ⟨z, hz⟩ : ∃ z, bits .xor .i64 l m = z := ⟨_, rfl⟩
      rw [hz] at hx
      obtain ⟨y, hy⟩ : ∃ y, bits .and .i64 z 3 = y := ⟨_, rfl⟩
      rw [hy] at hx
      obtain ⟨s', j', he, hs', hcs⟩ := jump_cases l s j m HS.out
      have HC := Lib.hid (step_to _ _ _ _ _ _ _ he HS.out)
      have HS' := Lib.hid hs'
      obtain ⟨x, hx4⟩ : ∃ x, m % 4 = x := ⟨_, rfl⟩
      rw [hx4] at HC h3
      have hcs' : ((y == 3) = true ∧ j' = true ∧ (s' != s) = false ∧ IntKind.i64.wrap (s' - s) = 0) ∨ (((y == 3) = false ∧ j' = j) ∧ (((s' != s) = false ∧ IntKind.i64.wrap (s' - s) = 0) ∨ ((s' != s) = true ∧ IntKind.i64.wrap (s' - s) = 1) ∨ ((s' != s) = true ∧ IntKind.i64.wrap (s' - s) = -1))) := by
        rw [hx]
        rcases hcs with ⟨h1, h2, h4⟩ | ⟨h1, h2, h4⟩
        · exact .inl ⟨by simp [h1], h2, by simp [h4], by rw [h4, show s - s = 0 by omega]; rfl⟩
        · refine .inr ⟨⟨by simp [h1], h2⟩, ?_⟩
          rcases h4 with h4 | h4 | h4
          · exact .inl ⟨by simp [h4], by rw [h4, show s - s = 0 by omega]; rfl⟩
          · exact .inr (.inl ⟨by simp; omega, by rw [h4, show s + 1 - s = 1 by omega]; rfl⟩)
          · exact .inr (.inr ⟨by simp; omega, by rw [h4, show s - 1 - s = -1 by omega]; rfl⟩)
      have qx : (x != x) = false := by simp
      obtain ⟨c0, c1, c2⟩ := HP.out.three
      have HG2 := Lib.hid (show g2 < wr.heap.size from lt_of_cell hc)
      clear hcd hm hg2 en hx he hs' hx4 hcs
      go_wp2_with fail
      go_cut [7] (fun s7 wx => ∃ g4 : Nat, s7 = .pointer (some ⟨g4, 0, none⟩) ∧ Hid (Below w.heap.size w wx) ∧ Hid (Blk wx w.heap.size #[.int .i64 l, .int .i64 s, .bool j] 23) ∧ Hid (Blk wx g4 #[.int .i64 x, .int .i64 s', .bool j'] 23) ∧ Hid (wx.cell? ⟨g2, o2 + k, none⟩ = some (.int .i64 m)))
      case first =>
        refine wp_region_held_drew (S := (fun w' => Blk w' w.heap.size #[.int .i64 l, .int .i64 s, .bool j] 23 ∧ w'.cell? ⟨g2, o2 + k, none⟩ = some (.int .i64 m))) (by kernel_rfl) HSD.out (fun hHeld => ?_)
        refine wpAnyH_take (i := 0) (oi := ?_) (v := ?_) ?_ (by kernel_rfl) (by kernel_rfl) (by kernel_rfl) ?_ (Or.inl ⟨?_, ?_⟩) hHeld ?_
        rotate_left 2
        · (simp only [List.getElem?_toArray, List.getElem?_cons_zero]; rfl)
        · exact (fun _ _ _ h => h)
        · rfl
        · (intro w hSw; (try dsimp only at hSw); obtain ⟨c0, c1, c2⟩ := hSw.1.three; go_simp; try with_reducible rfl)
        (try simp only [Act.put, List.setIfInBounds_toArray, List.set_cons_zero, List.set_cons_succ])
        refine wpAnyH_take (i := 1) (oi := ?_) (v := ?_) ?_ (by kernel_rfl) (by kernel_rfl) (by kernel_rfl) ?_ (Or.inl ⟨?_, ?_⟩) hHeld ?_
        rotate_left 2
        · (simp only [List.getElem?_toArray, List.getElem?_cons_zero, List.getElem?_cons_succ]; rfl)
        · exact (fun _ _ _ h => h)
        · rfl
        · (intro w hSw; (try dsimp only at hSw); go_simp; try with_reducible rfl)
        (try simp only [Act.put, List.setIfInBounds_toArray, List.set_cons_zero, List.set_cons_succ])
        refine wpAnyH_take (i := 2) (oi := ?_) (v := ?_) ?_ (by kernel_rfl) (by kernel_rfl) (by kernel_rfl) ?_ (Or.inl ⟨?_, ?_⟩) hHeld ?_
        rotate_left 2
        · (simp only [List.getElem?_toArray, List.getElem?_cons_zero, List.getElem?_cons_succ]; rfl)
        · exact (fun _ _ _ h => h)
        · rfl
        · (intro w hSw; (try dsimp only at hSw); go_simp; try with_reducible rfl)
        (try simp only [Act.put, List.setIfInBounds_toArray, List.set_cons_zero, List.set_cons_succ])
        refine wpAnyH_take (i := 3) (oi := ?_) (v := ?_) ?_ (by kernel_rfl) (by kernel_rfl) (by kernel_rfl) ?_ (Or.inl ⟨?_, ?_⟩) hHeld ?_
        rotate_left 2
        · (simp only [List.getElem?_toArray, List.getElem?_cons_zero, List.getElem?_cons_succ]; rfl)
        · exact (fun _ _ _ h => h)
        · rfl
        · (intro w hSw; (try dsimp only at hSw); go_simp; try with_reducible rfl)
        (try simp only [Act.put, List.setIfInBounds_toArray, List.set_cons_zero, List.set_cons_succ])
        refine wpAnyH_take (i := 4) (oi := ?_) (v := ?_) ?_ (by kernel_rfl) (by kernel_rfl) (by kernel_rfl) ?_ (Or.inl ⟨?_, ?_⟩) hHeld ?_
        rotate_left 2
        · (simp only [List.getElem?_toArray, List.getElem?_cons_zero, List.getElem?_cons_succ]; rfl)
        · exact (fun _ _ _ h => h)
        · rfl
        · (intro w hSw; (try dsimp only at hSw); have hc := hSw.2; go_simp; try with_reducible rfl)
        (try simp only [Act.put, List.setIfInBounds_toArray, List.set_cons_zero, List.set_cons_succ])
        refine wpAnyH_ready (rs := [5, 6]) (by kernel_rfl) (by simp) ?_
        refine AllReadyH.cons (o := ?_) ?_ (fun K hK => ?_) ?_
        rotate_left
        · (simp only [List.getElem?_toArray, List.getElem?_cons_zero, List.getElem?_cons_succ]; rfl)
        · -- the call first
          go_simp
          (with_reducible refine (HC.out _).mono ?_)
          rintro e w3 ⟨rfl, hb⟩
          have HB3 := Lib.hid (below_call HBd.out hb)
          have HP3 := Lib.hid (HSD.out.1.below hb)
          have HM3 := Lib.hid (below_cell hb HSD.out.2)
          clear hb
          go_wp2_with fail
          refine hK.out _ _ (And.intro HP3.out HM3.out) (fun hHeld => ?_)
          clear hK K
          (try simp only [Act.put, List.setIfInBounds_toArray, List.set_cons_zero, List.set_cons_succ])
          refine wpAnyH_ready (rs := [6]) (by kernel_rfl) (by simp) ?_
          refine AllReadyH.cons (o := ?_) ?_ (fun K hK => ?_) AllReadyH.nil
          rotate_left
          · (simp only [List.getElem?_toArray, List.getElem?_cons_zero, List.getElem?_cons_succ]; rfl)
          go_simp
          refine hK.out _ _ (And.intro (HP3.out.below (below_alloc (Below.refl _ w3) _)) (below_cell (below_alloc (Below.refl _ w3) _) HM3.out)) (fun hHeld => ?_)
          clear hK K
          (try simp only [Act.put, List.setIfInBounds_toArray, List.set_cons_zero, List.set_cons_succ])
          refine wpAnyH_ready (rs := [7]) (by kernel_rfl) (by simp) ?_
          refine AllReadyH.cons (o := ?_) ?_ (fun K hK => ?_) AllReadyH.nil
          rotate_left
          · (simp only [List.getElem?_toArray, List.getElem?_cons_zero, List.getElem?_cons_succ]; rfl)
          have h0 := blk_new w3 #[.int .i64 0, .int .i64 0, .bool false] 23
          obtain ⟨d0, d1, d2⟩ := h0.three
          obtain ⟨f0, f1, f2, _⟩ := h0.frz4
          clear h0
          go_simp
          have HB4 := Lib.hid (below_alloc HB3.out (.cells #[.int .i64 x, .int .i64 s', .bool j'] 23))
          have HP4 := Lib.hid (HP3.out.below (below_alloc (Below.refl _ w3) (.cells #[.int .i64 x, .int .i64 s', .bool j'] 23)))
          have HM4 := Lib.hid (below_cell (below_alloc (Below.refl _ w3) (.cells #[.int .i64 x, .int .i64 s', .bool j'] 23)) HM3.out)
          have HQ4 := Lib.hid (box3 w3 x s' j')
          have HNE := Lib.hid (Nat.ne_of_lt HP3.out.lt)
          refine hK.out _ _ (And.intro HP4.out HM4.out) (fun hHeld => ?_)
          clear hK K
          (try simp only [Act.put, List.setIfInBounds_toArray, List.set_cons_zero, List.set_cons_succ])
          refine wpAnyH_done (by kernel_rfl) ?_ _
          clear d0 d1 d2 f0 f1 f2
          generalize w3.alloc (.cells #[.int .i64 x, .int .i64 s', .bool j'] 23) = w4 at *
          generalize w3.heap.size = g4 at *
          clear HB3 HP3 HM3
          go_wp2_with fail
          go_meet
          exact ⟨_, rfl, HB4, HP4, HQ4, HM4⟩
        · refine AllReadyH.cons (o := ?_) ?_ (fun K hK => ?_) AllReadyH.nil
          rotate_left
          · (simp only [List.getElem?_toArray, List.getElem?_cons_zero, List.getElem?_cons_succ]; rfl)
          go_simp
          have HB2 := Lib.hid (below_call (below_alloc HB.out (.cells #[.int .i64 0, .int .i64 0, .bool false] 23)) (bel_drew _))
          have HP2 := Lib.hid ((HP.out.below (below_alloc (Below.refl _ wr) (.cells #[.int .i64 0, .int .i64 0, .bool false] 23))).below (bel_drew _))
          have HM2 := Lib.hid (below_cell (bel_drew _) (below_cell (below_alloc (Below.refl _ wr) (.cells #[.int .i64 0, .int .i64 0, .bool false] 23)) hc))
          have HQ2 := Lib.hid ((box3 wr 0 0 false).below (bel_drew _))
          have HNE := Lib.hid (Nat.ne_of_lt HP.out.lt)
          refine hK.out _ _ (And.intro HP2.out HM2.out) (fun hHeld => ?_)
          clear hK K
          (try simp only [Act.put, List.setIfInBounds_toArray, List.set_cons_zero, List.set_cons_succ])
          refine wpAnyH_ready (rs := [5]) (by kernel_rfl) (by simp) ?_
          refine AllReadyH.cons (o := ?_) ?_ (fun K hK => ?_) AllReadyH.nil
          rotate_left
          · (simp only [List.getElem?_toArray, List.getElem?_cons_zero, List.getElem?_cons_succ]; rfl)
          go_simp
          (with_reducible refine (HC.out _).mono ?_)
          rintro e w3 ⟨rfl, hb⟩
          have HB3 := Lib.hid (below_call HB2.out hb)
          have HP3 := Lib.hid (HP2.out.below hb)
          have HM3 := Lib.hid (below_cell hb HM2.out)
          have HQ3 := Lib.hid (HQ2.out.below hb)
          clear hb HB2 HP2 HM2 HQ2
          go_wp2_with fail
          refine hK.out _ _ (And.intro HP3.out HM3.out) (fun hHeld => ?_)
          clear hK K
          (try simp only [Act.put, List.setIfInBounds_toArray, List.set_cons_zero, List.set_cons_succ])
          refine wpAnyH_ready (rs := [7]) (by kernel_rfl) (by simp) ?_
          refine AllReadyH.cons (o := ?_) ?_ (fun K hK => ?_) AllReadyH.nil
          rotate_left
          · (simp only [List.getElem?_toArray, List.getElem?_cons_zero, List.getElem?_cons_succ]; rfl)
          obtain ⟨d0, d1, d2⟩ := HQ3.out.three
          obtain ⟨f0, f1, f2, _⟩ := HQ3.out.frz4
          go_simp
          have HB4 := Lib.hid (bel_put3 HB3.out (b := wr.heap.size) (HB.out.size) (.int .i64 x) (.int .i64 s') (.bool j'))
          have HP4 := Lib.hid (HP3.out.far3 HNE.out (.int .i64 x) (.int .i64 s') (.bool j'))
          have HM4 := Lib.hid ((Keep.put3 (F := fun b => b = wr.heap.size) rfl (.int .i64 x) (.int .i64 s') (.bool j')).cell HM3.out (Nat.ne_of_lt HG2.out))
          have HQ4 := Lib.hid (HQ3.out.put3 (.int .i64 x) (.int .i64 s') (.bool j'))
          refine hK.out _ _ (And.intro HP4.out HM4.out) (fun hHeld => ?_)
          clear hK K
          (try simp only [Act.put, List.setIfInBounds_toArray, List.set_cons_zero, List.set_cons_succ])
          refine wpAnyH_done (by kernel_rfl) ?_ _
          clear d0 d1 d2 f0 f1 f2
          generalize ((w3.setCell ⟨wr.heap.size, 0, none⟩ (.int .i64 x)).setCell ⟨wr.heap.size, 1, none⟩ (.int .i64 s')).setCell ⟨wr.heap.size, 2, none⟩ (.bool j') = w4 at *
          clear HB3 HP3 HM3 HQ3
          generalize wr.heap.size = g4 at *
          go_wp2_with fail
          go_meet
          exact ⟨_, rfl, HB4, HP4, HQ4, HM4⟩
      case rest =>
        obtain ⟨g4, rfl, HB4, HP4, HQ4, HM4⟩ := hcut
        clear HSD HBd HPd HC HCd HP HB HG2 c0 c1 c2 hc
        cases j
        · rcases hcs' with ⟨q1, rfl, q2, q3⟩ | ⟨⟨q1, rfl⟩, ⟨q2, q3⟩ | ⟨q2, q3⟩ | ⟨q2, q3⟩⟩
          · obtain ⟨c0, c1, c2⟩ := HP4.out.three
            obtain ⟨f0, f1, f2, _⟩ := HP4.out.frz4
            obtain ⟨d0, d1, d2⟩ := HQ4.out.three
            have hm4 := HM4.out
            clear HQ4 HM4
            go_wp2_with fail
            go_quiet (fail)
            go_wp2_with fail
            go_quiet (fail)
            go_wp2_with fail
            go_roundw
            case rel => exact ⟨k + 1, x, s', true, by omega, by go_num, Lib.hid (bel_put3 (HB4.out.trans ((bel_drewN _ _).mono HB4.out.size)) (Nat.le_refl _) _ _ _), Lib.hid ((HP4.out.below (bel_drewN _ _)).put3 _ _ _), HS'⟩
            case measure => simp [intOf]; omega
          · obtain ⟨c0, c1, c2⟩ := HP4.out.three
            obtain ⟨f0, f1, f2, _⟩ := HP4.out.frz4
            obtain ⟨d0, d1, d2⟩ := HQ4.out.three
            have hm4 := HM4.out
            clear HQ4 HM4
            go_wp2_with fail
            go_quiet (fail)
            go_wp2_with fail
            go_quiet (fail)
            go_wp2_with fail
            go_roundw
            case rel => exact ⟨k + 1, x, s', false, by omega, by go_num, Lib.hid (bel_put3 (HB4.out.trans ((bel_drewN _ _).mono HB4.out.size)) (Nat.le_refl _) _ _ _), Lib.hid ((HP4.out.below (bel_drewN _ _)).put3 _ _ _), HS'⟩
            case measure => simp [intOf]; omega
          · obtain ⟨c0, c1, c2⟩ := HP4.out.three
            obtain ⟨f0, f1, f2, _⟩ := HP4.out.frz4
            obtain ⟨d0, d1, d2⟩ := HQ4.out.three
            have hm4 := HM4.out
            clear HQ4 HM4
            go_wp2_with fail
            go_quiet (fail)
            go_wp2_with fail
            go_quiet (fail)
            go_wp2_with fail
            go_roundw
            case rel => exact ⟨k + 1, x, s', false, by omega, by go_num, Lib.hid (bel_put3 (HB4.out.trans ((bel_drewN _ _).mono HB4.out.size)) (Nat.le_refl _) _ _ _), Lib.hid ((HP4.out.below (bel_drewN _ _)).put3 _ _ _), HS'⟩
            case measure => simp [intOf]; omega
          · obtain ⟨c0, c1, c2⟩ := HP4.out.three
            obtain ⟨f0, f1, f2, _⟩ := HP4.out.frz4
            obtain ⟨d0, d1, d2⟩ := HQ4.out.three
            have hm4 := HM4.out
            clear HQ4 HM4
            go_wp2_with fail
            go_quiet (fail)
            go_wp2_with fail
            go_quiet (fail)
            go_wp2_with fail
            go_roundw
            case rel => exact ⟨k + 1, x, s', false, by omega, by go_num, Lib.hid (bel_put3 (HB4.out.trans ((bel_drewN _ _).mono HB4.out.size)) (Nat.le_refl _) _ _ _), Lib.hid ((HP4.out.below (bel_drewN _ _)).put3 _ _ _), HS'⟩
            case measure => simp [intOf]; omega
        · rcases hcs' with ⟨q1, rfl, q2, q3⟩ | ⟨⟨q1, rfl⟩, ⟨q2, q3⟩ | ⟨q2, q3⟩ | ⟨q2, q3⟩⟩
          · obtain ⟨c0, c1, c2⟩ := HP4.out.three
            obtain ⟨f0, f1, f2, _⟩ := HP4.out.frz4
            obtain ⟨d0, d1, d2⟩ := HQ4.out.three
            have hm4 := HM4.out
            clear HQ4 HM4
            go_wp2_with fail
            go_quiet (fail)
            go_wp2_with fail
            go_quiet (fail)
            go_wp2_with fail
            go_roundw
            case rel => exact ⟨k + 1, x, s', true, by omega, by go_num, Lib.hid (bel_put3 (HB4.out.trans ((bel_drewN _ _).mono HB4.out.size)) (Nat.le_refl _) _ _ _), Lib.hid ((HP4.out.below (bel_drewN _ _)).put3 _ _ _), HS'⟩
            case measure => simp [intOf]; omega
          · obtain ⟨c0, c1, c2⟩ := HP4.out.three
            obtain ⟨f0, f1, f2, _⟩ := HP4.out.frz4
            obtain ⟨d0, d1, d2⟩ := HQ4.out.three
            have hm4 := HM4.out
            clear HQ4 HM4
            go_wp2_with fail
            go_quiet (fail)
            go_wp2_with fail
            go_quiet (fail)
            go_wp2_with fail
            go_roundw
            case rel => exact ⟨k + 1, x, s', true, by omega, by go_num, Lib.hid (bel_put3 (HB4.out.trans ((bel_drewN _ _).mono HB4.out.size)) (Nat.le_refl _) _ _ _), Lib.hid ((HP4.out.below (bel_drewN _ _)).put3 _ _ _), HS'⟩
            case measure => simp [intOf]; omega
          · obtain ⟨c0, c1, c2⟩ := HP4.out.three
            obtain ⟨f0, f1, f2, _⟩ := HP4.out.frz4
            obtain ⟨d0, d1, d2⟩ := HQ4.out.three
            have hm4 := HM4.out
            clear HQ4 HM4
            go_wp2_with fail
            go_quiet (fail)
            go_wp2_with fail
            go_quiet (fail)
            go_wp2_with fail
            go_roundw
            case rel => exact ⟨k + 1, x, s', true, by omega, by go_num, Lib.hid (bel_put3 (HB4.out.trans ((bel_drewN _ _).mono HB4.out.size)) (Nat.le_refl _) _ _ _), Lib.hid ((HP4.out.below (bel_drewN _ _)).put3 _ _ _), HS'⟩
            case measure => simp [intOf]; omega
          · obtain ⟨c0, c1, c2⟩ := HP4.out.three
            obtain ⟨f0, f1, f2, _⟩ := HP4.out.frz4
            obtain ⟨d0, d1, d2⟩ := HQ4.out.three
            have hm4 := HM4.out
            clear HQ4 HM4
            go_wp2_with fail
            go_quiet (fail)
            go_wp2_with fail
            go_quiet (fail)
            go_wp2_with fail
            go_roundw
            case rel => exact ⟨k + 1, x, s', true, by omega, by go_num, Lib.hid (bel_put3 (HB4.out.trans ((bel_drewN _ _).mono HB4.out.size)) (Nat.le_refl _) _ _ _), Lib.hid ((HP4.out.below (bel_drewN _ _)).put3 _ _ _), HS'⟩
            case measure => simp [intOf]; omega
    · have hltI : ¬ (k : Int) < (n : Int) := by omega
      go_wp2_with fail
      go_ret
      exact ⟨rfl, HB.out⟩
theorem jumps_any (l s : Int) (j : Bool) (v : Value) (xs : List Int) (w : World) (hs : PosR s) (hv : Sl (Value.int .i64) w v xs) : Calls Try.prog 6 #[.agg #[.int .i64 l, .int .i64 s, .bool j], v] w fun e w' => e = .returned (.bool true) ∧ Below w.heap.size w w' := by
  by_cases h : xs.length ≤ 200
  · exact jumps_main l s j v xs w hs hv h
  · exact jumps_out l s j v xs w hv (by omega)
end Go.Proofs.Ytemomgbgfelooaa
