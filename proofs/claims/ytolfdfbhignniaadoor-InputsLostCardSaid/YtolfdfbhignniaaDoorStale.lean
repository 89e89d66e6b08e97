/-
  The walk of crossbucklaw14.InputsStale: true, whatever it is given.
-/
import Derived.Test.YtolfdfbhignniaaDoorRefused

namespace Go.Proofs.YtolfdfbhignniaaDoor
open Go.RowKit

/-- Channels n ticks later. -/
def aged14 (F : Nat) : Nat → (Nat → Ch) → Nat → Ch
  | 0, f => f
  | n + 1, f => fun k => older F (aged14 F n f k)
theorem aged_ok {F : Nat} {f : Nat → Ch} (h : ∀ k, k < 16 → OkCh F (f k)) (n : Nat) : ∀ k, k < 16 → OkCh F (aged14 F n f k) := by
  induction n with
  | zero => exact h
  | succ n ih => exact fun k hk => ok_older (ih k hk)
theorem aged_had {F : Nat} {f : Nat → Ch} (h : ∀ k, k < 16 → OkCh F (f k)) (n : Nat) {k : Nat} (hk : k < 16) : ((f k).had = false ∧ aged14 F n f k = f k) ∨ ((aged14 F n f k).had = true ∧ (aged14 F n f k).age = min ((f k).age + n) (F + 1)) := by
  induction n with
  | zero =>
    cases hh : (f k).had with
    | false => exact .inl ⟨rfl, rfl⟩
    | true => exact .inr ⟨hh, by have := (h k hk).age; show (f k).age = _; omega⟩
  | succ n ih =>
    rcases ih with ⟨h1, h2⟩ | ⟨h1, h2⟩
    · exact .inl ⟨h1, by show older F (aged14 F n f k) = f k; rw [h2]; exact older_not h1⟩
    · obtain ⟨k1, _, k3, _⟩ := older_had (aged_ok h n k hk) h1
      exact .inr ⟨k1, by show (older F (aged14 F n f k)).age = _; rw [k3, h2]; omega⟩
theorem aged_stale {F : Nat} {f : Nat → Ch} (h : ∀ k, k < 16 → OkCh F (f k)) (k : Nat) (hk : k < 16) : isF F (aged14 F (F + 1) f k) = false ∧ ((aged14 F (F + 1) f k).had && decide ((aged14 F (F + 1) f k).age = 0)) = false := by
  rcases aged_had h (F + 1) hk with ⟨h1, h2⟩ | ⟨h1, h2⟩
  · rw [h2]
    exact ⟨isF_no.2 (.inl h1), by rw [h1]; rfl⟩
  · exact ⟨isF_no.2 (.inr (by omega)), by rw [h1]; simp; omega⟩
theorem tells_stale {F t : Nat} {f : Nat → Ch} (ht : t ≤ 8) (h : ∀ k, k < 16 → isF F (f k) = false) (h0 : ((f 0).had && decide ((f 0).age = 0)) = false) :
    tells F t f = ⟨false, false, false, false, false, false, true, 1, false, false, 0, List.replicate t ⟨false, 0, 0, 0, 0⟩⟩ := by
  have hs : ∀ i, i < 16 → sy F f i = -1 := fun i hi => by unfold sy; rw [h i hi]; exact sone_no _
  unfold tells
  rw [hs 0 (by omega), hs 1 (by omega), hs 2 (by omega), hs 3 (by omega), hs 4 (by omega), hs 5 (by omega), h0]
  have ht' : (List.range t).map (fun i => cntOf (isF F (f (8 + i))) (f (8 + i)).xs) = List.replicate t ⟨false, 0, 0, 0, 0⟩ := by
    refine List.ext_getElem (by simp) fun i h1 h2 => ?_
    simp only [List.length_map, List.length_range] at h1
    simp only [List.getElem_map, List.getElem_range, List.getElem_replicate]
    rw [h (8 + i) (by omega)]
    exact cntOf_no _
  rw [ht']
  rfl

set_option maxHeartbeats 4000000 in
set_option maxRecDepth 10000 in
theorem stale_out (tracks fresh : Int) (v : Value) (ls : List (List (List (BitVec 8)))) (w : World) (hv : Els RRows 1 w v ls) (hl : ls.length ≤ maxLen) (_ : 500 < fresh) :
    Calls Tryd.prog 5 #[.int .i64 tracks, .int .i64 fresh, v] w fun e w' => e = .returned (.bool true) ∧ Below w.heap.size w w' := by
  obtain ⟨F, hF⟩ := fresh_nat fresh
  obtain ⟨t, ht, _⟩ := tracks_nat tracks
  obtain ⟨av, cv, ev⟩ := hv.len
  have HFE := Lib.hid (fun W (hb : Below w.heap.size w W) => few_any v ls W (hv.below fun _ _ _ hr => hr.below hb) hl)
  have HF := Lib.hid hF
  have HT := Lib.hid ht
  clear hF ht hv hl
  subst ev
  go_enter Tryd.func5, Tryd.ntmps5
  go_wp2_with fail
  (with_reducible refine (small_true w).mono ?_)
  rintro e w1 ⟨rfl, hb⟩
  have HB := Lib.hid hb
  clear hb
  go_wp2_with fail
  (with_reducible refine (HFE.out w1 HB.out).mono ?_)
  rintro e w2 ⟨ok, rfl, hw⟩
  cases hw
  go_wp2_with fail
  (with_reducible refine (in_new tracks fresh F t HF.out HT.out HB.out).mono ?_)
  rintro e w2 ⟨x, rfl, b, _, _, hl, _⟩
  have HL := Lib.hid hl.bel
  clear hl
  cases ok with
  | true => go_wp2_with fail; go_ret; exact ⟨rfl, HL.out⟩
  | false => go_wp2_with fail; go_ret; exact ⟨rfl, HL.out⟩
set_option maxHeartbeats 8000000 in
set_option maxRecDepth 10000 in
theorem stale_low (tracks fresh : Int) (v : Value) (ls : List (List (List (BitVec 8)))) (w : World) (hv : Els RRows 1 w v ls) (hl : ls.length ≤ maxLen) (_ : fresh ≤ 500) (F : Nat) (hF : (F : Int) = min (max fresh 1) 6000) (hcase : fresh < 1 ∧ F = 1) :
    Calls Tryd.prog 5 #[.int .i64 tracks, .int .i64 fresh, v] w fun e w' => e = .returned (.bool true) ∧ Below w.heap.size w w' := by
  obtain ⟨t, ht, ht1⟩ := tracks_nat tracks
  obtain ⟨a0, c0, ev⟩ := hv.len
  have HFE := Lib.hid (fun W (hb : Below w.heap.size w W) => few_any v ls W (hv.below fun _ _ _ hr => hr.below hb) hl)
  obtain ⟨L, HL⟩ : ∃ L, Hid (L = ls.length) := ⟨_, Lib.hid rfl⟩
  rw [← HL.out] at ev hl
  have hl : L ≤ 9223372036854775807 := hl
  have HLL := Lib.hid hl
  have HF := Lib.hid hF
  have HT := Lib.hid ht
  have HT1 := Lib.hid ht1
  have HV := Lib.hid hv
  have HF5 := Lib.hid (show F ≤ 500 by omega)
  clear hF ht ht1 hv hl
  subst ev
  obtain ⟨hlow, rfl⟩ := hcase
  go_enter Tryd.func5, Tryd.ntmps5
  (try dsimp only [List.append])
  go_wp2_with fail
  (with_reducible refine (small_true w).mono ?_)
  rintro e w1 ⟨rfl, hb⟩
  have HB := Lib.hid hb
  clear hb
  go_wp2_with fail
  (with_reducible refine (HFE.out w1 HB.out).mono ?_)
  rintro e w2 ⟨ok, rfl, hw⟩
  cases hw
  go_wp2_with fail
  (with_reducible refine (in_new tracks fresh 1 t HF.out HT.out HB.out).mono ?_)
  rintro e w2 ⟨x, rfl, b, hxb, hwb, hl2, hx, _⟩
  have HC := Lib.hid (chs_alone (F := 1) hwb hxb HT1.out)
  have HI := Lib.hid (show Alone w b x 1 t w2 (fun _ => noCh) from ⟨hl2, hx, trivial⟩)
  clear hxb hwb hl2 hx HB HFE
  cases ok with
  | false => go_wp2_with fail; go_ret; exact ⟨rfl, HC.out.bel _ _ HI.out⟩
  | true =>
    go_wp2_with fail
    go_loopw [10] (fun u10 wx => ∃ (i : Nat) (f : Nat → Ch), i ≤ L ∧ u10 = .int .i64 (i : Int) ∧ Hid (Alone w b x 1 t wx f)) (fun u10 _ => L - (intOf u10).toNat)
    case atStart => exact ⟨0, _, by omega, rfl, HI⟩
    case round =>
      obtain ⟨i, f, hi, rfl, HIr⟩ := hrel
      clear HI
      by_cases hlt : i < L
      · have hlz : (i : Int) < (L : Int) := by omega
        have hi0 : (0 : Int) ≤ (i : Int) := by omega
        obtain ⟨ys, hy⟩ : ∃ ys, ls[i]? = some ys := ⟨_, List.getElem?_eq_getElem (by rw [← HL.out]; exact hlt)⟩
        obtain ⟨g, o, a1, c1, ea, hm, hr⟩ := row_at (v := .nilIface) HV.out hy
        subst ea
        have hcell := (hr _ (HC.out.bel _ _ HIr.out)).1
        obtain ⟨⟨f2, n2⟩, hst⟩ : ∃ p, stp14 1 f ys = p := ⟨_, rfl⟩
        have HST := Lib.hid (in_step HC.out HIr.out _ ys (fun wr f h => (hr wr (HC.out.bel _ _ h)).2) hm f2 n2 hst)
        obtain ⟨M, hM⟩ : ∃ M, M = ys.length := ⟨_, rfl⟩
        rw [← hM] at hcell HST
        have hw12 : IntKind.i64.wrap ((i : Int) + 1) = (i : Int) + 1 := by have := HLL.out; rw [IntKind.wrap_i64]; omega
        clear hy hm hr hst hM
        go_wp2_with fail
        (with_reducible refine HST.out.mono ?_)
        rintro e w5 ⟨rfl, hii, _⟩
        have HI5 := Lib.hid hii
        clear hii
        go_wp2_with fail
        go_roundw
        case rel => exact ⟨i + 1, f2, by omega, by go_num, HI5⟩
        case measure => simp [intOf]; omega
      · have hlz : (L : Int) ≤ (i : Int) := by omega
        have HOK := Lib.hid (fun k hk => HC.out.ok HIr.out k hk)
        go_wp2_with fail
        go_loopw [11] (fun u11 wx => ∃ j : Nat, j ≤ 1 + 1 ∧ u11 = .int .i64 (j : Int) ∧ Hid (Alone w b x 1 t wx (aged14 1 j f))) (fun u11 _ => 1 + 1 - (intOf u11).toNat)
        case atStart => exact ⟨0, by omega, rfl, HIr⟩
        case round =>
          obtain ⟨j, hj, rfl, HJr⟩ := hrel
          clear HIr
          have hwF : IntKind.i64.wrap ((1 : Int) + 1) = (1 : Int) + 1 := by have := HF5.out; rw [IntKind.wrap_i64]; omega
          have hwF2 : wrap64 ((1 : Int) + 1) = (1 : Int) + 1 := IntWalk.wrap64_in _ (by have := HF5.out; omega)
          by_cases hjl : j < 1 + 1
          · have hjz : (j : Int) < (1 : Int) + 1 := by omega
            have HTK := Lib.hid (in_tick HC.out HJr.out)
            have hw11 : IntKind.i64.wrap ((j : Int) + 1) = (j : Int) + 1 := by have := HF5.out; rw [IntKind.wrap_i64]; omega
            go_wp2_with fail
            (with_reducible refine HTK.out.mono ?_)
            rintro e w5 ⟨rfl, hii, _⟩
            have HI5 := Lib.hid hii
            clear hii HTK HJr
            go_wp2_with fail
            go_roundw
            case rel => exact ⟨j + 1, by omega, by go_num, HI5⟩
            case measure => simp [intOf]; omega
          · have hjz : ¬ (j : Int) < (1 : Int) + 1 := by omega
            have hje : j = 1 + 1 := by omega
            have HD := Lib.hid (show tells 1 t (aged14 1 j f) = ⟨false, false, false, false, false, false, true, 1, false, false, 0, List.replicate t ⟨false, 0, 0, 0, 0⟩⟩ by
              rw [hje]
              exact tells_stale HT1.out.2 (fun k hk => (aged_stale HOK.out k hk).1) (aged_stale HOK.out 0 (by omega)).2)
            clear hje hjl
            go_wp2_with fail
            (with_reducible refine (in_now HC.out HJr.out _ _ _ _ _ _ _ _ _ _ _ _ HD.out).mono ?_)
            rintro e w6 ⟨v, rfl, hc, hb⟩
            obtain ⟨a1, c1, ev⟩ := hc.1.len
            rw [List.length_replicate] at ev
            subst ev
            have hbb := below_alloc hb (.cells #[.bool false, .bool false, .bool false, .bool false, .bool false, .bool false, .bool true, .int .i64 1, .bool false, .bool false, .int .i64 0, .slice a1 t c1] 36)
            have HX := Lib.hid (blk_new w6 #[.bool false, .bool false, .bool false, .bool false, .bool false, .bool false, .bool true, .int .i64 1, .bool false, .bool false, .int .i64 0, .slice a1 t c1] 36)
            have HB := Lib.hid (HC.out.bel _ _ (HC.out.still HJr.out hbb))
            have HE := Lib.hid (hc.1.below fun _ _ _ hr => hr.below (below_alloc (Below.refl _ w6) (.cells #[.bool false, .bool false, .bool false, .bool false, .bool false, .bool false, .bool true, .int .i64 1, .bool false, .bool false, .int .i64 0, .slice a1 t c1] 36)))
            clear hc hb hbb HJr HD HOK HC
            go_upto_region 15 with fail
            generalize w6.heap.size = g6 at *
            generalize w6.alloc (.cells #[.bool false, .bool false, .bool false, .bool false, .bool false, .bool false, .bool true, .int .i64 1, .bool false, .bool false, .int .i64 0, .slice a1 t c1] 36) = w7 at *
            obtain ⟨e0, e1, e2, e3, e4, e5, e6, e7, e8, e9, e10, e11⟩ := cells12 HX.out
            clear hwF hwF2 hjz
            go_cut [101] (fun s wx => s = .bool false ∧ wx = w7)
            case first =>
              have hT := neq_bar false false false false false false false false false rfl
              have ht := HT.out
              rcases (show tracks < 1 ∨ tracks = 1 ∨ (1 < tracks ∧ tracks < 8) ∨ tracks = 8 ∨ 8 < tracks by omega) with h | h | ⟨h, h'⟩ | h | h
              · obtain rfl : t = 1 := by omega
                clear ht HT HE
                go_wp2_with fail
                go_meet
                exact ⟨rfl, rfl⟩
              · obtain rfl : t = 1 := by omega
                clear ht HT HE
                subst h
                go_wp2_with fail
                go_meet
                exact ⟨rfl, rfl⟩
              · obtain rfl : tracks = (t : Int) := by omega
                have h2 : ¬ (t : Int) < 1 := by omega
                have h3 : (t : Int) ≤ 8 := by omega
                have h4 : ¬ (8 : Int) < (t : Int) := by omega
                have q0 : ((t : Int) != (t : Int)) = false := by simp
                clear ht HT HE
                go_wp2_with fail
                go_meet
                exact ⟨rfl, rfl⟩
              · obtain rfl : t = 8 := by omega
                clear ht HT HE
                subst h
                go_wp2_with fail
                go_meet
                exact ⟨rfl, rfl⟩
              · obtain rfl : t = 8 := by omega
                have h2 : ¬ tracks < 1 := by omega
                have h3 : ¬ tracks ≤ 8 := by omega
                clear ht HT HE
                go_wp2_with fail
                go_meet
                exact ⟨rfl, rfl⟩
            case rest =>
              obtain ⟨rfl, rfl⟩ := hcut
              clear e0 e1 e2 e3 e4 e5 e6 e7 e8 e9 e10 HT HX
              have hN := neq_cnt false 0 0 0 0 false 0 0 0 0 false rfl
              go_wp2_with fail
              go_loopw [13] (fun u13 wx => ∃ i : Nat, i ≤ t ∧ u13 = .int .i64 (i : Int) ∧ wx = wc) (fun u13 _ => t - (intOf u13).toNat)
              case atStart => exact ⟨0, by omega, rfl, rfl⟩
              case round =>
                obtain ⟨q, hq, rfl, hwx⟩ := hrel
                cases hwx
                by_cases hql : q < t
                · have hqz : (q : Int) < (t : Int) := by omega
                  have hq0 : (0 : Int) ≤ (q : Int) := by omega
                  obtain ⟨g, o, ea, k0, k1, k2, k3, k4⟩ := HE.out.at_ (i := q) (y := ⟨false, 0, 0, 0, 0⟩) (by rw [List.getElem?_replicate, if_pos hql])
                  subst ea
                  have hw13 : IntKind.i64.wrap ((q : Int) + 1) = (q : Int) + 1 := by have := HT1.out; rw [IntKind.wrap_i64]; omega
                  go_wp2_with fail
                  go_roundw
                  case rel => exact ⟨q + 1, by omega, by go_num, trivial⟩
                  case measure => simp [intOf]; omega
                · have hqz : (t : Int) ≤ (q : Int) := by omega
                  go_wp2_with fail
                  go_ret
                  exact ⟨rfl, HB.out⟩

set_option maxHeartbeats 8000000 in
set_option maxRecDepth 10000 in
theorem stale_one (tracks fresh : Int) (v : Value) (ls : List (List (List (BitVec 8)))) (w : World) (hv : Els RRows 1 w v ls) (hl : ls.length ≤ maxLen) (_ : fresh ≤ 500) (F : Nat) (hF : (F : Int) = min (max fresh 1) 6000) (hcase : fresh = 1 ∧ F = 1) :
    Calls Tryd.prog 5 #[.int .i64 tracks, .int .i64 fresh, v] w fun e w' => e = .returned (.bool true) ∧ Below w.heap.size w w' := by
  obtain ⟨t, ht, ht1⟩ := tracks_nat tracks
  obtain ⟨a0, c0, ev⟩ := hv.len
  have HFE := Lib.hid (fun W (hb : Below w.heap.size w W) => few_any v ls W (hv.below fun _ _ _ hr => hr.below hb) hl)
  obtain ⟨L, HL⟩ : ∃ L, Hid (L = ls.length) := ⟨_, Lib.hid rfl⟩
  rw [← HL.out] at ev hl
  have hl : L ≤ 9223372036854775807 := hl
  have HLL := Lib.hid hl
  have HF := Lib.hid hF
  have HT := Lib.hid ht
  have HT1 := Lib.hid ht1
  have HV := Lib.hid hv
  have HF5 := Lib.hid (show F ≤ 500 by omega)
  clear hF ht ht1 hv hl
  subst ev
  obtain ⟨rfl, rfl⟩ := hcase
  go_enter Tryd.func5, Tryd.ntmps5
  (try dsimp only [List.append])
  go_wp2_with fail
  (with_reducible refine (small_true w).mono ?_)
  rintro e w1 ⟨rfl, hb⟩
  have HB := Lib.hid hb
  clear hb
  go_wp2_with fail
  (with_reducible refine (HFE.out w1 HB.out).mono ?_)
  rintro e w2 ⟨ok, rfl, hw⟩
  cases hw
  go_wp2_with fail
  (with_reducible refine (in_new tracks 1 1 t HF.out HT.out HB.out).mono ?_)
  rintro e w2 ⟨x, rfl, b, hxb, hwb, hl2, hx, _⟩
  have HC := Lib.hid (chs_alone (F := 1) hwb hxb HT1.out)
  have HI := Lib.hid (show Alone w b x 1 t w2 (fun _ => noCh) from ⟨hl2, hx, trivial⟩)
  clear hxb hwb hl2 hx HB HFE
  cases ok with
  | false => go_wp2_with fail; go_ret; exact ⟨rfl, HC.out.bel _ _ HI.out⟩
  | true =>
    go_wp2_with fail
    go_loopw [10] (fun u10 wx => ∃ (i : Nat) (f : Nat → Ch), i ≤ L ∧ u10 = .int .i64 (i : Int) ∧ Hid (Alone w b x 1 t wx f)) (fun u10 _ => L - (intOf u10).toNat)
    case atStart => exact ⟨0, _, by omega, rfl, HI⟩
    case round =>
      obtain ⟨i, f, hi, rfl, HIr⟩ := hrel
      clear HI
      by_cases hlt : i < L
      · have hlz : (i : Int) < (L : Int) := by omega
        have hi0 : (0 : Int) ≤ (i : Int) := by omega
        obtain ⟨ys, hy⟩ : ∃ ys, ls[i]? = some ys := ⟨_, List.getElem?_eq_getElem (by rw [← HL.out]; exact hlt)⟩
        obtain ⟨g, o, a1, c1, ea, hm, hr⟩ := row_at (v := .nilIface) HV.out hy
        subst ea
        have hcell := (hr _ (HC.out.bel _ _ HIr.out)).1
        obtain ⟨⟨f2, n2⟩, hst⟩ : ∃ p, stp14 1 f ys = p := ⟨_, rfl⟩
        have HST := Lib.hid (in_step HC.out HIr.out _ ys (fun wr f h => (hr wr (HC.out.bel _ _ h)).2) hm f2 n2 hst)
        obtain ⟨M, hM⟩ : ∃ M, M = ys.length := ⟨_, rfl⟩
        rw [← hM] at hcell HST
        have hw12 : IntKind.i64.wrap ((i : Int) + 1) = (i : Int) + 1 := by have := HLL.out; rw [IntKind.wrap_i64]; omega
        clear hy hm hr hst hM
        go_wp2_with fail
        (with_reducible refine HST.out.mono ?_)
        rintro e w5 ⟨rfl, hii, _⟩
        have HI5 := Lib.hid hii
        clear hii
        go_wp2_with fail
        go_roundw
        case rel => exact ⟨i + 1, f2, by omega, by go_num, HI5⟩
        case measure => simp [intOf]; omega
      · have hlz : (L : Int) ≤ (i : Int) := by omega
        have HOK := Lib.hid (fun k hk => HC.out.ok HIr.out k hk)
        go_wp2_with fail
        go_loopw [11] (fun u11 wx => ∃ j : Nat, j ≤ 1 + 1 ∧ u11 = .int .i64 (j : Int) ∧ Hid (Alone w b x 1 t wx (aged14 1 j f))) (fun u11 _ => 1 + 1 - (intOf u11).toNat)
        case atStart => exact ⟨0, by omega, rfl, HIr⟩
        case round =>
          obtain ⟨j, hj, rfl, HJr⟩ := hrel
          clear HIr
          have hwF : IntKind.i64.wrap ((1 : Int) + 1) = (1 : Int) + 1 := by have := HF5.out; rw [IntKind.wrap_i64]; omega
          have hwF2 : wrap64 ((1 : Int) + 1) = (1 : Int) + 1 := IntWalk.wrap64_in _ (by have := HF5.out; omega)
          by_cases hjl : j < 1 + 1
          · have hjz : (j : Int) < (1 : Int) + 1 := by omega
            have HTK := Lib.hid (in_tick HC.out HJr.out)
            have hw11 : IntKind.i64.wrap ((j : Int) + 1) = (j : Int) + 1 := by have := HF5.out; rw [IntKind.wrap_i64]; omega
            go_wp2_with fail
            (with_reducible refine HTK.out.mono ?_)
            rintro e w5 ⟨rfl, hii, _⟩
            have HI5 := Lib.hid hii
            clear hii HTK HJr
            go_wp2_with fail
            go_roundw
            case rel => exact ⟨j + 1, by omega, by go_num, HI5⟩
            case measure => simp [intOf]; omega
          · have hjz : ¬ (j : Int) < (1 : Int) + 1 := by omega
            have hje : j = 1 + 1 := by omega
            have HD := Lib.hid (show tells 1 t (aged14 1 j f) = ⟨false, false, false, false, false, false, true, 1, false, false, 0, List.replicate t ⟨false, 0, 0, 0, 0⟩⟩ by
              rw [hje]
              exact tells_stale HT1.out.2 (fun k hk => (aged_stale HOK.out k hk).1) (aged_stale HOK.out 0 (by omega)).2)
            clear hje hjl
            go_wp2_with fail
            (with_reducible refine (in_now HC.out HJr.out _ _ _ _ _ _ _ _ _ _ _ _ HD.out).mono ?_)
            rintro e w6 ⟨v, rfl, hc, hb⟩
            obtain ⟨a1, c1, ev⟩ := hc.1.len
            rw [List.length_replicate] at ev
            subst ev
            have hbb := below_alloc hb (.cells #[.bool false, .bool false, .bool false, .bool false, .bool false, .bool false, .bool true, .int .i64 1, .bool false, .bool false, .int .i64 0, .slice a1 t c1] 36)
            have HX := Lib.hid (blk_new w6 #[.bool false, .bool false, .bool false, .bool false, .bool false, .bool false, .bool true, .int .i64 1, .bool false, .bool false, .int .i64 0, .slice a1 t c1] 36)
            have HB := Lib.hid (HC.out.bel _ _ (HC.out.still HJr.out hbb))
            have HE := Lib.hid (hc.1.below fun _ _ _ hr => hr.below (below_alloc (Below.refl _ w6) (.cells #[.bool false, .bool false, .bool false, .bool false, .bool false, .bool false, .bool true, .int .i64 1, .bool false, .bool false, .int .i64 0, .slice a1 t c1] 36)))
            clear hc hb hbb HJr HD HOK HC
            go_upto_region 15 with fail
            generalize w6.heap.size = g6 at *
            generalize w6.alloc (.cells #[.bool false, .bool false, .bool false, .bool false, .bool false, .bool false, .bool true, .int .i64 1, .bool false, .bool false, .int .i64 0, .slice a1 t c1] 36) = w7 at *
            obtain ⟨e0, e1, e2, e3, e4, e5, e6, e7, e8, e9, e10, e11⟩ := cells12 HX.out
            clear hwF hwF2 hjz
            go_cut [101] (fun s wx => s = .bool false ∧ wx = w7)
            case first =>
              have hT := neq_bar false false false false false false false false false rfl
              have ht := HT.out
              rcases (show tracks < 1 ∨ tracks = 1 ∨ (1 < tracks ∧ tracks < 8) ∨ tracks = 8 ∨ 8 < tracks by omega) with h | h | ⟨h, h'⟩ | h | h
              · obtain rfl : t = 1 := by omega
                clear ht HT HE
                go_wp2_with fail
                go_meet
                exact ⟨rfl, rfl⟩
              · obtain rfl : t = 1 := by omega
                clear ht HT HE
                subst h
                go_wp2_with fail
                go_meet
                exact ⟨rfl, rfl⟩
              · obtain rfl : tracks = (t : Int) := by omega
                have h2 : ¬ (t : Int) < 1 := by omega
                have h3 : (t : Int) ≤ 8 := by omega
                have h4 : ¬ (8 : Int) < (t : Int) := by omega
                have q0 : ((t : Int) != (t : Int)) = false := by simp
                clear ht HT HE
                go_wp2_with fail
                go_meet
                exact ⟨rfl, rfl⟩
              · obtain rfl : t = 8 := by omega
                clear ht HT HE
                subst h
                go_wp2_with fail
                go_meet
                exact ⟨rfl, rfl⟩
              · obtain rfl : t = 8 := by omega
                have h2 : ¬ tracks < 1 := by omega
                have h3 : ¬ tracks ≤ 8 := by omega
                clear ht HT HE
                go_wp2_with fail
                go_meet
                exact ⟨rfl, rfl⟩
            case rest =>
              obtain ⟨rfl, rfl⟩ := hcut
              clear e0 e1 e2 e3 e4 e5 e6 e7 e8 e9 e10 HT HX
              have hN := neq_cnt false 0 0 0 0 false 0 0 0 0 false rfl
              go_wp2_with fail
              go_loopw [13] (fun u13 wx => ∃ i : Nat, i ≤ t ∧ u13 = .int .i64 (i : Int) ∧ wx = wc) (fun u13 _ => t - (intOf u13).toNat)
              case atStart => exact ⟨0, by omega, rfl, rfl⟩
              case round =>
                obtain ⟨q, hq, rfl, hwx⟩ := hrel
                cases hwx
                by_cases hql : q < t
                · have hqz : (q : Int) < (t : Int) := by omega
                  have hq0 : (0 : Int) ≤ (q : Int) := by omega
                  obtain ⟨g, o, ea, k0, k1, k2, k3, k4⟩ := HE.out.at_ (i := q) (y := ⟨false, 0, 0, 0, 0⟩) (by rw [List.getElem?_replicate, if_pos hql])
                  subst ea
                  have hw13 : IntKind.i64.wrap ((q : Int) + 1) = (q : Int) + 1 := by have := HT1.out; rw [IntKind.wrap_i64]; omega
                  go_wp2_with fail
                  go_roundw
                  case rel => exact ⟨q + 1, by omega, by go_num, trivial⟩
                  case measure => simp [intOf]; omega
                · have hqz : (t : Int) ≤ (q : Int) := by omega
                  go_wp2_with fail
                  go_ret
                  exact ⟨rfl, HB.out⟩

set_option maxHeartbeats 8000000 in
set_option maxRecDepth 10000 in
theorem stale_more (tracks fresh : Int) (v : Value) (ls : List (List (List (BitVec 8)))) (w : World) (hv : Els RRows 1 w v ls) (hl : ls.length ≤ maxLen) (_ : fresh ≤ 500) (F : Nat) (hF : (F : Int) = min (max fresh 1) 6000) (hcase : 1 < fresh ∧ fresh = (F : Int)) :
    Calls Tryd.prog 5 #[.int .i64 tracks, .int .i64 fresh, v] w fun e w' => e = .returned (.bool true) ∧ Below w.heap.size w w' := by
  obtain ⟨t, ht, ht1⟩ := tracks_nat tracks
  obtain ⟨a0, c0, ev⟩ := hv.len
  have HFE := Lib.hid (fun W (hb : Below w.heap.size w W) => few_any v ls W (hv.below fun _ _ _ hr => hr.below hb) hl)
  obtain ⟨L, HL⟩ : ∃ L, Hid (L = ls.length) := ⟨_, Lib.hid rfl⟩
  rw [← HL.out] at ev hl
  have hl : L ≤ 9223372036854775807 := hl
  have HLL := Lib.hid hl
  have HF := Lib.hid hF
  have HT := Lib.hid ht
  have HT1 := Lib.hid ht1
  have HV := Lib.hid hv
  have HF5 := Lib.hid (show F ≤ 500 by omega)
  clear hF ht ht1 hv hl
  subst ev
  obtain ⟨hmore, rfl⟩ := hcase
  have hmore2 : ¬ (F : Int) < 1 := by omega
  go_enter Tryd.func5, Tryd.ntmps5
  (try dsimp only [List.append])
  go_wp2_with fail
  (with_reducible refine (small_true w).mono ?_)
  rintro e w1 ⟨rfl, hb⟩
  have HB := Lib.hid hb
  clear hb
  go_wp2_with fail
  (with_reducible refine (HFE.out w1 HB.out).mono ?_)
  rintro e w2 ⟨ok, rfl, hw⟩
  cases hw
  go_wp2_with fail
  (with_reducible refine (in_new tracks F F t HF.out HT.out HB.out).mono ?_)
  rintro e w2 ⟨x, rfl, b, hxb, hwb, hl2, hx, _⟩
  have HC := Lib.hid (chs_alone (F := F) hwb hxb HT1.out)
  have HI := Lib.hid (show Alone w b x F t w2 (fun _ => noCh) from ⟨hl2, hx, trivial⟩)
  clear hxb hwb hl2 hx HB HFE
  cases ok with
  | false => go_wp2_with fail; go_ret; exact ⟨rfl, HC.out.bel _ _ HI.out⟩
  | true =>
    go_wp2_with fail
    go_loopw [10] (fun u10 wx => ∃ (i : Nat) (f : Nat → Ch), i ≤ L ∧ u10 = .int .i64 (i : Int) ∧ Hid (Alone w b x F t wx f)) (fun u10 _ => L - (intOf u10).toNat)
    case atStart => exact ⟨0, _, by omega, rfl, HI⟩
    case round =>
      obtain ⟨i, f, hi, rfl, HIr⟩ := hrel
      clear HI
      by_cases hlt : i < L
      · have hlz : (i : Int) < (L : Int) := by omega
        have hi0 : (0 : Int) ≤ (i : Int) := by omega
        obtain ⟨ys, hy⟩ : ∃ ys, ls[i]? = some ys := ⟨_, List.getElem?_eq_getElem (by rw [← HL.out]; exact hlt)⟩
        obtain ⟨g, o, a1, c1, ea, hm, hr⟩ := row_at (v := .nilIface) HV.out hy
        subst ea
        have hcell := (hr _ (HC.out.bel _ _ HIr.out)).1
        obtain ⟨⟨f2, n2⟩, hst⟩ : ∃ p, stp14 F f ys = p := ⟨_, rfl⟩
        have HST := Lib.hid (in_step HC.out HIr.out _ ys (fun wr f h => (hr wr (HC.out.bel _ _ h)).2) hm f2 n2 hst)
        obtain ⟨M, hM⟩ : ∃ M, M = ys.length := ⟨_, rfl⟩
        rw [← hM] at hcell HST
        have hw12 : IntKind.i64.wrap ((i : Int) + 1) = (i : Int) + 1 := by have := HLL.out; rw [IntKind.wrap_i64]; omega
        clear hy hm hr hst hM
        go_wp2_with fail
        (with_reducible refine HST.out.mono ?_)
        rintro e w5 ⟨rfl, hii, _⟩
        have HI5 := Lib.hid hii
        clear hii
        go_wp2_with fail
        go_roundw
        case rel => exact ⟨i + 1, f2, by omega, by go_num, HI5⟩
        case measure => simp [intOf]; omega
      · have hlz : (L : Int) ≤ (i : Int) := by omega
        have HOK := Lib.hid (fun k hk => HC.out.ok HIr.out k hk)
        go_wp2_with fail
        go_loopw [11] (fun u11 wx => ∃ j : Nat, j ≤ F + 1 ∧ u11 = .int .i64 (j : Int) ∧ Hid (Alone w b x F t wx (aged14 F j f))) (fun u11 _ => F + 1 - (intOf u11).toNat)
        case atStart => exact ⟨0, by omega, rfl, HIr⟩
        case round =>
          obtain ⟨j, hj, rfl, HJr⟩ := hrel
          clear HIr
          have hwF : IntKind.i64.wrap ((F : Int) + 1) = (F : Int) + 1 := by have := HF5.out; rw [IntKind.wrap_i64]; omega
          have hwF2 : wrap64 ((F : Int) + 1) = (F : Int) + 1 := IntWalk.wrap64_in _ (by have := HF5.out; omega)
          by_cases hjl : j < F + 1
          · have hjz : (j : Int) < (F : Int) + 1 := by omega
            have HTK := Lib.hid (in_tick HC.out HJr.out)
            have hw11 : IntKind.i64.wrap ((j : Int) + 1) = (j : Int) + 1 := by have := HF5.out; rw [IntKind.wrap_i64]; omega
            go_wp2_with fail
            (with_reducible refine HTK.out.mono ?_)
            rintro e w5 ⟨rfl, hii, _⟩
            have HI5 := Lib.hid hii
            clear hii HTK HJr
            go_wp2_with fail
            go_roundw
            case rel => exact ⟨j + 1, by omega, by go_num, HI5⟩
            case measure => simp [intOf]; omega
          · have hjz : ¬ (j : Int) < (F : Int) + 1 := by omega
            have hje : j = F + 1 := by omega
            have HD := Lib.hid (show tells F t (aged14 F j f) = ⟨false, false, false, false, false, false, true, 1, false, false, 0, List.replicate t ⟨false, 0, 0, 0, 0⟩⟩ by
              rw [hje]
              exact tells_stale HT1.out.2 (fun k hk => (aged_stale HOK.out k hk).1) (aged_stale HOK.out 0 (by omega)).2)
            clear hje hjl
            go_wp2_with fail
            (with_reducible refine (in_now HC.out HJr.out _ _ _ _ _ _ _ _ _ _ _ _ HD.out).mono ?_)
            rintro e w6 ⟨v, rfl, hc, hb⟩
            obtain ⟨a1, c1, ev⟩ := hc.1.len
            rw [List.length_replicate] at ev
            subst ev
            have hbb := below_alloc hb (.cells #[.bool false, .bool false, .bool false, .bool false, .bool false, .bool false, .bool true, .int .i64 1, .bool false, .bool false, .int .i64 0, .slice a1 t c1] 36)
            have HX := Lib.hid (blk_new w6 #[.bool false, .bool false, .bool false, .bool false, .bool false, .bool false, .bool true, .int .i64 1, .bool false, .bool false, .int .i64 0, .slice a1 t c1] 36)
            have HB := Lib.hid (HC.out.bel _ _ (HC.out.still HJr.out hbb))
            have HE := Lib.hid (hc.1.below fun _ _ _ hr => hr.below (below_alloc (Below.refl _ w6) (.cells #[.bool false, .bool false, .bool false, .bool false, .bool false, .bool false, .bool true, .int .i64 1, .bool false, .bool false, .int .i64 0, .slice a1 t c1] 36)))
            clear hc hb hbb HJr HD HOK HC
            go_upto_region 15 with fail
            generalize w6.heap.size = g6 at *
            generalize w6.alloc (.cells #[.bool false, .bool false, .bool false, .bool false, .bool false, .bool false, .bool true, .int .i64 1, .bool false, .bool false, .int .i64 0, .slice a1 t c1] 36) = w7 at *
            obtain ⟨e0, e1, e2, e3, e4, e5, e6, e7, e8, e9, e10, e11⟩ := cells12 HX.out
            clear hwF hwF2 hjz
            go_cut [101] (fun s wx => s = .bool false ∧ wx = w7)
            case first =>
              have hT := neq_bar false false false false false false false false false rfl
              have ht := HT.out
              rcases (show tracks < 1 ∨ tracks = 1 ∨ (1 < tracks ∧ tracks < 8) ∨ tracks = 8 ∨ 8 < tracks by omega) with h | h | ⟨h, h'⟩ | h | h
              · obtain rfl : t = 1 := by omega
                clear ht HT HE
                go_wp2_with fail
                go_meet
                exact ⟨rfl, rfl⟩
              · obtain rfl : t = 1 := by omega
                clear ht HT HE
                subst h
                go_wp2_with fail
                go_meet
                exact ⟨rfl, rfl⟩
              · obtain rfl : tracks = (t : Int) := by omega
                have h2 : ¬ (t : Int) < 1 := by omega
                have h3 : (t : Int) ≤ 8 := by omega
                have h4 : ¬ (8 : Int) < (t : Int) := by omega
                have q0 : ((t : Int) != (t : Int)) = false := by simp
                clear ht HT HE
                go_wp2_with fail
                go_meet
                exact ⟨rfl, rfl⟩
              · obtain rfl : t = 8 := by omega
                clear ht HT HE
                subst h
                go_wp2_with fail
                go_meet
                exact ⟨rfl, rfl⟩
              · obtain rfl : t = 8 := by omega
                have h2 : ¬ tracks < 1 := by omega
                have h3 : ¬ tracks ≤ 8 := by omega
                clear ht HT HE
                go_wp2_with fail
                go_meet
                exact ⟨rfl, rfl⟩
            case rest =>
              obtain ⟨rfl, rfl⟩ := hcut
              clear e0 e1 e2 e3 e4 e5 e6 e7 e8 e9 e10 HT HX
              have hN := neq_cnt false 0 0 0 0 false 0 0 0 0 false rfl
              go_wp2_with fail
              go_loopw [13] (fun u13 wx => ∃ i : Nat, i ≤ t ∧ u13 = .int .i64 (i : Int) ∧ wx = wc) (fun u13 _ => t - (intOf u13).toNat)
              case atStart => exact ⟨0, by omega, rfl, rfl⟩
              case round =>
                obtain ⟨q, hq, rfl, hwx⟩ := hrel
                cases hwx
                by_cases hql : q < t
                · have hqz : (q : Int) < (t : Int) := by omega
                  have hq0 : (0 : Int) ≤ (q : Int) := by omega
                  obtain ⟨g, o, ea, k0, k1, k2, k3, k4⟩ := HE.out.at_ (i := q) (y := ⟨false, 0, 0, 0, 0⟩) (by rw [List.getElem?_replicate, if_pos hql])
                  subst ea
                  have hw13 : IntKind.i64.wrap ((q : Int) + 1) = (q : Int) + 1 := by have := HT1.out; rw [IntKind.wrap_i64]; omega
                  go_wp2_with fail
                  go_roundw
                  case rel => exact ⟨q + 1, by omega, by go_num, trivial⟩
                  case measure => simp [intOf]; omega
                · have hqz : (t : Int) ≤ (q : Int) := by omega
                  go_wp2_with fail
                  go_ret
                  exact ⟨rfl, HB.out⟩

theorem stale_any (tracks fresh : Int) (v : Value) (ls : List (List (List (BitVec 8)))) (w : World) (hv : Els RRows 1 w v ls) (hl : ls.length ≤ maxLen) :
    Calls Tryd.prog 5 #[.int .i64 tracks, .int .i64 fresh, v] w fun e w' => e = .returned (.bool true) ∧ Below w.heap.size w w' := by
  obtain ⟨F, hF⟩ := fresh_nat fresh
  rcases (show 500 < fresh ∨ (fresh ≤ 500 ∧ fresh < 1 ∧ F = 1) ∨ (fresh ≤ 500 ∧ fresh = 1 ∧ F = 1) ∨ (fresh ≤ 500 ∧ 1 < fresh ∧ fresh = (F : Int)) by omega) with h | ⟨h, h2⟩ | ⟨h, h2⟩ | ⟨h, h2⟩
  · exact stale_out tracks fresh v ls w hv hl h
  · exact stale_low tracks fresh v ls w hv hl h F hF h2
  · exact stale_one tracks fresh v ls w hv hl h F hF h2
  · exact stale_more tracks fresh v ls w hv hl h F hF h2
end Go.Proofs.YtolfdfbhignniaaDoor
