/-
  The walk of crossbucklaw14.InputsTold: true, whatever it is given.
-/
import Derived.Deep.CutRange
import Derived.Test.YtolfdfbhignniaaDoorToldP
import Derived.Test.YtolfdfbhignniaaDoorRefused

namespace Go.Proofs.YtolfdfbhignniaaDoor
open Go.RowKit

set_option maxHeartbeats 4000000 in
set_option maxRecDepth 10000 in
theorem told_out (a b c d s l o : Bool) (m : Int) (mn bt : Bool) (r : Int) (tv : Value) (ts : List Ct) (seq : Int) (w : World) (hv : Els RCt 5 w tv ts) (h : ts.length < 1 ∨ 8 < ts.length) :
    Calls Tryd.prog 7 #[.agg #[.bool a, .bool b, .bool c, .bool d, .bool s, .bool l, .bool o, .int .i64 m, .bool mn, .bool bt, .int .i64 r, tv], .int .i64 seq] w fun e w' => e = .returned (.bool true) ∧ Below w.heap.size w w' := by
  obtain ⟨ta, tc, ev⟩ := hv.len
  obtain ⟨n, hn⟩ : ∃ n, n = ts.length := ⟨_, rfl⟩
  rw [← hn] at h ev
  subst ev
  clear hv hn
  have HX := Lib.hid (blk_new w #[.bool a, .bool b, .bool c, .bool d, .bool s, .bool l, .bool o, .int .i64 m, .bool mn, .bool bt, .int .i64 r, .slice ta n tc] 36)
  have HB := Lib.hid (below_alloc (Below.refl _ w) (.cells #[.bool a, .bool b, .bool c, .bool d, .bool s, .bool l, .bool o, .int .i64 m, .bool mn, .bool bt, .int .i64 r, .slice ta n tc] 36))
  rcases h with h | h
  · obtain rfl : n = 0 := by omega
    clear h
    go_enter Tryd.func7, Tryd.ntmps7
    go_wp2_with fail
    (with_reducible refine (small_true _).mono ?_)
    rintro e w1 ⟨rfl, hb⟩
    have HB1 := Lib.hid (below_call HB.out hb)
    have c11 := (HX.out.below hb).cell 11 rfl
    clear hb HX HB
    go_wp2_with fail
    go_ret
    exact ⟨rfl, HB1.out⟩
  · have h1 : ¬ (n : Int) < 1 := by omega
    have h2 : (8 : Int) < (n : Int) := by omega
    clear h
    go_enter Tryd.func7, Tryd.ntmps7
    go_wp2_with fail
    (with_reducible refine (small_true _).mono ?_)
    rintro e w1 ⟨rfl, hb⟩
    have HB1 := Lib.hid (below_call HB.out hb)
    have c11 := (HX.out.below hb).cell 11 rfl
    clear hb HX HB
    go_wp2_with fail
    go_ret
    exact ⟨rfl, HB1.out⟩
set_option maxHeartbeats 16000000 in
set_option maxRecDepth 10000 in
theorem told_main (a b' c d s l o : Bool) (m : Int) (mn bt : Bool) (r : Int) (tv : Value) (ts : List Ct) (seq : Int) (w : World) (hv : Els RCt 5 w tv ts) (h1 : 1 ≤ ts.length) (h8 : ts.length ≤ 8) :
    Calls Tryd.prog 7 #[.agg #[.bool a, .bool b', .bool c, .bool d, .bool s, .bool l, .bool o, .int .i64 m, .bool mn, .bool bt, .int .i64 r, tv], .int .i64 seq] w fun e w' => e = .returned (.bool true) ∧ Below w.heap.size w w' := by
  obtain ⟨P, HP⟩ : ∃ P, Hid (P = prn ⟨a, b', c, d, s, l, o, m, mn, bt, r, ts⟩) := ⟨_, Lib.hid rfl⟩
  obtain ⟨q, hq⟩ : ∃ q : BitVec 8, (q.toNat : Int) = seq % 256 := ⟨BitVec.ofNat 8 (seq % 256).toNat, by simp; omega⟩
  have HQ := Lib.hid hq
  have HPR := Lib.hid (fun W (hb : Below w.heap.size w W) (k : Nat) (hk : k < 8 + ts.length) => print_to a b' c d s l o m mn bt r ts tv W (hv.below fun _ _ _ hr => hr.below hb) k hk h8)
  rw [← HP.out] at HPR
  have HV := Lib.hid hv
  obtain ⟨ta, tc, ev⟩ := hv.len
  obtain ⟨n, hn⟩ : ∃ n, n = ts.length := ⟨_, rfl⟩
  rw [← hn] at h1 h8 HPR ev
  subst ev
  have HN := Lib.hid hn
  clear hv hn hq
  have HX := Lib.hid (blk_new w #[.bool a, .bool b', .bool c, .bool d, .bool s, .bool l, .bool o, .int .i64 m, .bool mn, .bool bt, .int .i64 r, .slice ta n tc] 36)
  have HB := Lib.hid (below_alloc (Below.refl _ w) (.cells #[.bool a, .bool b', .bool c, .bool d, .bool s, .bool l, .bool o, .int .i64 m, .bool mn, .bool bt, .int .i64 r, .slice ta n tc] 36))
  obtain ⟨gi, HGI⟩ : ∃ gi, Hid (gi = w.heap.size) := ⟨_, Lib.hid rfl⟩
  rw [← HGI.out] at HX
  have i1 : ¬ (n : Int) < 1 := by omega
  have i8 : ¬ (8 : Int) < (n : Int) := by omega
  have HNW := Lib.hid (show ((n : Nat) : Int) = min (max ((n : Nat) : Int) 1) 8 by omega)
  go_enter Tryd.func7, Tryd.ntmps7
  (try dsimp only [List.append])
  have HGS := Lib.hid (show w.heap.size ≤ gi by rw [HGI.out]; exact Nat.le_refl _)
  go_upto_region 1 with fail
  rw [← HGI.out]
  clear HGI
  generalize w.alloc (.cells #[.bool a, .bool b', .bool c, .bool d, .bool s, .bool l, .bool o, .int .i64 m, .bool mn, .bool bt, .int .i64 r, .slice ta n tc] 36) = wB at *
  go_wp2_with fail
  (with_reducible refine (small_true wB).mono ?_)
  rintro e w1 ⟨rfl, hb⟩
  have HB1 := Lib.hid (below_call HB.out hb)
  have HX1 := Lib.hid (HX.out.below hb)
  have c11 := (HX.out.below hb).cell 11 rfl
  clear hb
  go_wp2_with fail
  (with_reducible refine (in_new (n : Int) 3 3 n (by decide) HNW.out HB1.out).mono ?_)
  rintro e w2 ⟨x, rfl, b, hxb, hwb, hl2, hx, hb⟩
  have HC := Lib.hid (chs_alone (F := 3) hwb hxb ⟨h1, h8⟩)
  have HCW := Lib.hid (fun v ls => chs_one (F := 3) (E := fun wx => Rws b wx v ls) hwb hxb ⟨h1, h8⟩ (fun _ _ h hk => h.keep hk))
  have HI := Lib.hid (show Alone w b x 3 n w2 (fun _ => noCh) from ⟨hl2, hx, trivial⟩)
  have HX2 := Lib.hid (HX1.out.below hb)
  have HBB := Lib.hid (show b < w2.heap.size from hl2.blt)
  have HXB := Lib.hid (ln_ne hl2 HX2.out (by simp))
  have HXX := Lib.hid (blk_ne hx HX2.out (by simp))
  obtain ⟨bM, HBM⟩ : ∃ bM, Hid (b ≤ bM ∧ gi ≤ bM ∧ bM < w2.heap.size) := ⟨max b gi, Lib.hid (by have := hl2.blt; have := HX2.out.lt; omega)⟩
  clear hxb hwb hl2 hx hb c11 HX HX1 HB1 HNW i1 i8
  go_wp2_with fail
  go_loopw [7, 8, 9] (fun u7 u8 u9 wx => ∃ (K : Nat) (av : Option Addr) (N cv : Nat), K ≤ 8 + n ∧ u9 = .int .i64 (K : Int) ∧ u8 = .int .i64 (N : Int) ∧ u7 = .slice av N cv ∧ Hid (N = (tel P q K).length) ∧ Hid (Below w2.heap.size w2 wx) ∧ Hid (OwnR bM w2.heap.size wx (.slice av N cv) (tel P q K))) (fun _ _ u9 _ => 8 + n - (intOf u9).toNat)
  case atStart => exact ⟨0, none, 0, 0, by omega, rfl, rfl, rfl, Lib.hid rfl, Lib.hid (Below.refl _ _), Lib.hid (ownR_nil _ _ _)⟩
  case round =>
    obtain ⟨K, av, N, cv, hK, rfl, rfl, rfl, HNr, HBr, HOr⟩ := hrel
    have hw8 : IntKind.i64.wrap (8 + (n : Int)) = 8 + (n : Int) := by rw [IntKind.wrap_i64]; omega
    have HNL := Lib.hid (show N ≤ 16 by have := tel_len P q 0 K; rw [Nat.zero_add] at this; have h0 : (tel P q 0).length = 0 := rfl; have := HNr.out; omega)
    by_cases hlt : K < 8 + n
    · have hlz : (K : Int) < 8 + (n : Int) := by omega
      obtain ⟨c0, c1, c2, c3, c4, c5, c6, c7, c8, c9, c10, c11⟩ := cells12 (HX2.out.below HBr.out)
      have HPK := Lib.hid (HPR.out _ (below_call (HC.out.bel _ _ HI.out) HBr.out) K hlt)
      have hw9 : IntKind.i64.wrap ((K : Int) + 1) = (K : Int) + 1 := by rw [IntKind.wrap_i64]; omega
      go_wp2_with fail
      (with_reducible refine HPK.out.mono ?_)
      rintro e w3 ⟨v, rfl, hv, hb⟩
      obtain ⟨ap, cp, ev⟩ := hv.len
      have HV3 := Lib.hid hv
      have HB3 := Lib.hid (below_call HBr.out hb)
      have HO3 := Lib.hid (HOr.out.below hb)
      clear hv hb HPK c0 c1 c2 c3 c4 c5 c6 c7 c8 c9 c10 c11 HBr HOr
      by_cases h0 : (P K).length = 0
      · have HT := Lib.hid (tel_no (q := q) h0)
        subst ev
        rw [h0]
        clear HV3 h0
        go_wp2_with fail
        go_roundw
        case rel => exact ⟨K + 1, av, N, cv, by omega, by go_num, rfl, rfl, Lib.hid (by rw [HT.out]; exact HNr.out), HB3, Lib.hid (by rw [HT.out]; exact HO3.out)⟩
        case measure => simp [intOf]; omega
      · have HT := Lib.hid (tel_yes (q := q) h0)
        have HPL := Lib.hid (show (P K).length ≤ 16 by rw [HP.out]; exact prn_len _ _)
        obtain ⟨M, hM⟩ : ∃ M, M = (P K).length := ⟨_, rfl⟩
        rw [← hM] at ev h0
        subst ev
        have hm0 : (0 : Int) < (M : Int) := by omega
        have HTE := tele_at (BitVec.ofNat 8 K) q (K : Int) seq (by simp; omega) HQ.out _ (P K) w3 HV3.out (by simp; omega) HPL.out
        have HTE := Lib.hid HTE
        clear hM h0 HV3
        go_wp2_with fail
        (with_reducible refine HTE.out.mono ?_)
        rintro e w4 ⟨v, rfl, ho, hb⟩
        obtain ⟨gr, cr, er, _, hgr⟩ := ho.form (by simp [sealed, frm])
        have hgl := (World.ownsRow.lt ho gr (by rw [er]; rfl)).2
        have HO4 := Lib.hid ho.byts
        have HR4 := Lib.hid (HO3.out.below hb)
        have HB4 := Lib.hid (below_call HB3.out hb)
        have HGR := Lib.hid (show w3.heap.size ≤ gr ∧ gr < w4.heap.size from ⟨hgr, hgl⟩)
        obtain ⟨Q, hQ⟩ : ∃ Q, Q = (sealed (frm (BitVec.ofNat 8 K) q (P K))).length := ⟨_, rfl⟩
        rw [← hQ] at er
        subst er
        have HQL := Lib.hid hQ
        have HS3 := Lib.hid (show ∀ z, (Value.slice av N cv).ownBlock = some z → z < w3.heap.size from fun z hz => (HO3.out.lt hz).2)
        have HSZ := Lib.hid (show bM < w3.heap.size by have := HBM.out.2.2; have := HB3.out.size; omega)
        clear ho hb hgr hgl hQ HO3 HB3 HTE
        have HRA := Lib.hid (HR4.out.below (below_alloc (Below.refl _ w4) (.cells #[.slice (some ⟨gr, 0, none⟩) Q cr] 44)))
        have HUA := Lib.hid ((blk_new w4 #[.slice (some ⟨gr, 0, none⟩) Q cr] 44).cell 0 rfl)
        have HYA := Lib.hid (HO4.out.below (below_alloc (Below.refl _ w4) (.cells #[.slice (some ⟨gr, 0, none⟩) Q cr] 44)))
        have HBA := Lib.hid (below_alloc HB4.out (.cells #[.slice (some ⟨gr, 0, none⟩) Q cr] 44))
        have HLA := Lib.hid (show (sealed (frm (BitVec.ofNat 8 K) q (P K))).length ≤ 140737488351232 by have := HPL.out; simp [sealed, frm]; omega)
        have HPA := Lib.hid (show ∀ p : Addr, (some (⟨gr, 0, none⟩ : Addr)) = some p → (sealed (frm (BitVec.ofNat 8 K) q (P K))).length = 0 ∨ (bM < p.block ∧ (Value.slice av N cv).ownBlock ≠ some p.block ∧ p.block < (w4.alloc (.cells #[.slice (some ⟨gr, 0, none⟩) Q cr] 44)).heap.size) by
          intro p hp
          cases hp
          have h3 := HGR.out
          have h4 := HBB.out
          have h5 := (HB4.out).size
          refine .inr ⟨?_, fun h => ?_, ?_⟩
          · have := HSZ.out; show bM < gr; omega
          · have := HS3.out _ h; simp only at this; omega
          · simp; omega)
        clear HR4 HO4 HB4 HS3
        go_wp2_with (at_builtin; refine wpList_appR rfl _ _ rfl bM w2.heap.size (.slice av N cv) N (tel P q K) rfl HNr.out HRA.out w4.heap.size rfl (sealed (frm (BitVec.ofNat 8 K) q (P K))) (some ⟨gr, 0, none⟩) Q cr HQL.out HUA.out HYA.out HLA.out HPA.out (by have := HNL.out; omega) HBA.out.size ?_; intro g7 cap w7 hO hBel)
        have HB7 := Lib.hid (HBA.out.trans hBel)
        have HO7 := Lib.hid (show OwnR bM w2.heap.size w7 (.slice (some ⟨g7, 0, none⟩) (N + 1) cap) (tel P q (K + 1)) by rw [HT.out]; exact hO)
        have HN7 := Lib.hid (show N + 1 = (tel P q (K + 1)).length by rw [HT.out, List.length_append, List.length_singleton, HNr.out])
        have hw7 : wrap64 ((N : Int) + 1) = (N : Int) + 1 := IntWalk.wrap64_in _ (by have := HNL.out; omega)
        have hN16 := HNL.out
        clear hO hBel HRA HUA HYA HBA HLA HPA HNr HT
        go_wp2_with fail
        go_roundw
        case rel => exact ⟨K + 1, some ⟨g7, 0, none⟩, N + 1, cap, by omega, by go_num, by go_num, rfl, HN7, HB7, HO7⟩
        case measure => simp [intOf]; omega
    · have hlz : ¬ (K : Int) < 8 + (n : Int) := by omega
      have hKe : K = 8 + n := by omega
      subst hKe
      obtain ⟨mb, hmb⟩ : ∃ mb, (r / 2 ^ n == 0) = mb := ⟨_, rfl⟩
      have hwu : IntKind.u64.wrap (n : Int) = (n : Int) := by simp [IntKind.wrap, IntKind.bits, IntKind.signed]; omega
      have hw6 : IntKind.i64.wrap (6 + (n : Int)) = 6 + (n : Int) := by rw [IntKind.wrap_i64]; omega
      have hn0 : (0 : Int) ≤ (n : Int) := by omega
      have qN : ((N : Int) != (N : Int)) = false := by simp
      have qn : ((n : Int) == (n : Int)) = true := by simp
      have HXR := Lib.hid (HX2.out.below HBr.out)
      obtain ⟨c0, c1, c2, c3, c4, c5, c6, c7, c8, c9, c10, c11⟩ := cells12 HXR.out
      have f4 := HXR.out.frz 4
      have HIR := Lib.hid (HC.out.still HI.out HBr.out)
      have HIS := Lib.hid (show Alone w b x 3 n (wr.setCell ⟨gi, 4, none⟩ (.bool true)) (fun _ => noCh) from ⟨ln_bare HIR.out.1 (fun _ _ => rfl) HXB.out (HGS.out) 4 (.bool true), HIR.out.2.1.far gi 4 (.bool true) HXX.out, trivial⟩)
      have HOS := Lib.hid (HOr.out.keep (Keep.set_ (F := fun z => z = gi) wr gi 4 (.bool true) rfl) (fun z hz => by rw [hz]; exact HBM.out.2.1) HBM.out.2.2)
      have HXS := Lib.hid (HXR.out.set_ 4 (.bool true))
      have HRS := Lib.hid (HOS.out.rws HBM.out.2.2 HBM.out.1)
      have hst := stp_tel 3 P q (fun k => by rw [HP.out]; exact prn_len _ _) (8 + n) (by omega)
      rw [← HNr.out] at hst
      have HST := Lib.hid (in_step (HCW.out _ _) (one_with (E' := fun wx => Rws b wx (.slice av N cv) (tel P q (8 + n))) HIS.out HRS.out) _ _ (fun wr f h => h.2.2.els) (by have := HNL.out; rw [HNr.out] at this; unfold maxLen; omega) _ N hst)
      clear hst HBr HOr HXR HIR hlz hlt hK
      go_upto_region 18 with fail
      go_wp2_with fail
      (with_reducible refine HST.out.mono ?_)
      rintro e w5 ⟨rfl, hi, hk⟩
      have HI5 := Lib.hid (show Alone w b x 3 n w5 (chf P q (8 + n)) from ⟨hi.1, hi.2.1, trivial⟩)
      have HX5 := Lib.hid (show Blk w5 gi #[.bool a, .bool b', .bool c, .bool d, .bool true, .bool l, .bool o, .int .i64 m, .bool mn, .bool bt, .int .i64 r, .slice ta n tc] 36 from HXS.out.keep hk HXB.out)
      clear hi hk HST HIS HOS HXS HRS c0 c1 c2 c3 c4 c5 c6 c7 c8 c9 c10 c11 f4
      by_cases hfull : 6 + n ≤ N ∧ mb = true
      · obtain ⟨hf1, rfl⟩ := hfull
        have hD : tells 3 n (chf P q (8 + n)) = ⟨a, b', c, d, true, l, o, m, mn, bt, r, ts⟩ := by
          have h6 : (P 6).length = 0 := by rw [HP.out]; rfl
          have h7 : (P 7).length = 0 := by rw [HP.out]; rfl
          have := tells_full (D := ⟨a, b', c, d, s, l, o, m, mn, bt, r, ts⟩) (F := 3) (t := n) (n := 0) (q := q) (f := chf P q (8 + n)) HN.out.symm h8 (by omega) (fun k hk h67 => by
            have h := tel_full (q := q) h6 h7 (by rw [← HNr.out]; exact hf1) k hk h67
            rw [← HP.out]
            exact ⟨h, chf_at hk h⟩) (by simpa using hmb)
          rw [this]
          rfl
        have HD := Lib.hid hD
        have hlN : ¬ (N : Int) < 6 + (n : Int) := by omega
        clear hD hf1
        go_wp2_with fail
        (with_reducible refine (in_now HC.out HI5.out _ _ _ _ _ _ _ _ _ _ _ _ HD.out).mono ?_)
        rintro e w6 ⟨v, rfl, hc, hb⟩
        obtain ⟨a2, c2, ev⟩ := hc.1.len
        rw [← HN.out] at ev
        subst ev
        have hbb := below_alloc hb (.cells #[.bool a, .bool b', .bool c, .bool d, .bool true, .bool l, .bool o, .int .i64 m, .bool mn, .bool bt, .int .i64 r, .slice a2 n c2] 36)
        have HY6 := Lib.hid (blk_new w6 #[.bool a, .bool b', .bool c, .bool d, .bool true, .bool l, .bool o, .int .i64 m, .bool mn, .bool bt, .int .i64 r, .slice a2 n c2] 36)
        have HX6 := Lib.hid (HX5.out.below hbb)
        have HB6 := Lib.hid (HC.out.bel _ _ (HC.out.still HI5.out hbb))
        have HE6 := Lib.hid (hc.1.below fun _ _ _ hr => hr.below (below_alloc (Below.refl _ w6) (.cells #[.bool a, .bool b', .bool c, .bool d, .bool true, .bool l, .bool o, .int .i64 m, .bool mn, .bool bt, .int .i64 r, .slice a2 n c2] 36)))
        have HTV := Lib.hid (HV.out.below fun _ _ _ hr => hr.below HB6.out)
        clear hc hb hbb HI5 HX5
        go_upto_region 21 with fail
        generalize w6.heap.size = g6 at *
        generalize w6.alloc (.cells #[.bool a, .bool b', .bool c, .bool d, .bool true, .bool l, .bool o, .int .i64 m, .bool mn, .bool bt, .int .i64 r, .slice a2 n c2] 36) = w7 at *
        obtain ⟨d0, d1, d2, d3, d4, d5, d6, d7, d8, d9, d10, d11⟩ := cells12 HY6.out
        obtain ⟨e0, e1, e2, e3, e4, e5, e6, e7, e8, e9, e10, e11⟩ := cells12 HX6.out
        have HS := Lib.hid (same_to a b' c d true l o m mn bt r (.slice a2 n c2) (.slice ta n tc) ts w7 HE6.out HTV.out (by rw [← HN.out]; omega))
        go_wp2_with fail
        (with_reducible refine HS.out.mono ?_)
        rintro e w8 ⟨rfl, hb⟩
        have HB8 := Lib.hid (below_call HB6.out hb)
        clear hb
        go_wp2_with fail
        go_ret
        exact ⟨rfl, HB8.out⟩
      · obtain ⟨⟨A, B, C', D, S, L', O, M, MN, BT, R, TS⟩, hD⟩ : ∃ D, tells 3 n (chf P q (8 + n)) = D := ⟨_, rfl⟩
        have HD := Lib.hid hD
        have HTL := Lib.hid (show TS.length = n by have := tells_len 3 n (chf P q (8 + n)); rw [hD] at this; exact this)
        clear hD
        go_wp2_with fail
        (with_reducible refine (in_now HC.out HI5.out _ _ _ _ _ _ _ _ _ _ _ _ HD.out).mono ?_)
        rintro e w6 ⟨v, rfl, hc, hb⟩
        obtain ⟨a2, c2, ev⟩ := hc.1.len
        rw [HTL.out] at ev
        subst ev
        have hbb := below_alloc hb (.cells #[.bool A, .bool B, .bool C', .bool D, .bool S, .bool L', .bool O, .int .i64 M, .bool MN, .bool BT, .int .i64 R, .slice a2 n c2] 36)
        have HY6 := Lib.hid (blk_new w6 #[.bool A, .bool B, .bool C', .bool D, .bool S, .bool L', .bool O, .int .i64 M, .bool MN, .bool BT, .int .i64 R, .slice a2 n c2] 36)
        have HX6 := Lib.hid (HX5.out.below hbb)
        have HB6 := Lib.hid (HC.out.bel _ _ (HC.out.still HI5.out hbb))
        clear hc hb hbb HI5 HX5
        go_upto_region 21 with fail
        generalize w6.heap.size = g6 at *
        generalize w6.alloc (.cells #[.bool A, .bool B, .bool C', .bool D, .bool S, .bool L', .bool O, .int .i64 M, .bool MN, .bool BT, .int .i64 R, .slice a2 n c2] 36) = w7 at *
        have d11 := HY6.out.cell 11 rfl
        have e11 := HX6.out.cell 11 rfl
        by_cases hN : N < 6 + n
        · have hlN : (N : Int) < 6 + (n : Int) := by omega
          go_wp2_with fail
          go_ret
          exact ⟨rfl, HB6.out⟩
        · have hlN : ¬ (N : Int) < 6 + (n : Int) := by omega
          obtain rfl : mb = false := by
            cases mb with
            | false => rfl
            | true => exact absurd ⟨by omega, rfl⟩ hfull
          go_wp2_with fail
          go_ret
          exact ⟨rfl, HB6.out⟩
theorem told_any (a b c d s l o : Bool) (m : Int) (mn bt : Bool) (r : Int) (tv : Value) (ts : List Ct) (seq : Int) (w : World) (hv : Els RCt 5 w tv ts) :
    Calls Tryd.prog 7 #[.agg #[.bool a, .bool b, .bool c, .bool d, .bool s, .bool l, .bool o, .int .i64 m, .bool mn, .bool bt, .int .i64 r, tv], .int .i64 seq] w fun e w' => e = .returned (.bool true) ∧ Below w.heap.size w w' := by
  by_cases h : ts.length < 1 ∨ 8 < ts.length
  · exact told_out a b c d s l o m mn bt r tv ts seq w hv h
  · exact told_main a b c d s l o m mn bt r tv ts seq w hv (by omega) (by omega)
end Go.Proofs.YtolfdfbhignniaaDoor
