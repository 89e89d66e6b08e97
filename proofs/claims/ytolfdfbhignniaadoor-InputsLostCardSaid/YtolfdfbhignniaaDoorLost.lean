/-
  The walk of crossbucklaw14.InputsLost: true, whatever it is given.
-/
import Derived.Deep.CutRange
import Derived.Test.YtolfdfbhignniaaDoorToldP
import Derived.Test.YtolfdfbhignniaaDoorStale

namespace Go.Proofs.YtolfdfbhignniaaDoor
open Go.RowKit

/-- Channels of which nothing came, or that were told in this very tick. -/
def Now14 (f : Nat → Ch) : Prop := ∀ k, f k = noCh ∨ ((f k).had = true ∧ (f k).age = 0)
theorem chf_one (P : Nat → List (BitVec 8)) (q : BitVec 8) (K : Nat) : Now14 (chf P q K) := fun k => by
  unfold chf
  split
  · exact .inr ⟨rfl, rfl⟩
  · exact .inl rfl
theorem aged_one {F : Nat} {f : Nat → Ch} (h : Now14 f) {n : Nat} (hn : n ≤ F) (k : Nat) : (f k = noCh ∧ aged14 F n f k = noCh) ∨ ((f k).had = true ∧ (f k).age = 0 ∧ aged14 F n f k = ⟨true, (f k).seq, n, (f k).xs⟩) := by
  rcases h k with h1 | ⟨h1, h2⟩
  · refine .inl ⟨h1, ?_⟩
    induction n with
    | zero => exact h1
    | succ n ih => show older F (aged14 F n f k) = noCh; rw [ih (by omega)]; exact older_not rfl
  · refine .inr ⟨h1, h2, ?_⟩
    induction n with
    | zero =>
      show f k = _
      rw [← h1, ← h2]
    | succ n ih =>
      show older F (aged14 F n f k) = _
      rw [ih (by omega), older_stays (isF_iff.2 ⟨rfl, by simp only; omega⟩) (by simp only; omega)]
theorem tells_aged {F t : Nat} {f : Nat → Ch} (h : Now14 f) (ht : t ≤ 8) {n : Nat} (hn : n ≤ F) : tells F t (aged14 F n f) = { tells F t f with s := (tells F t f).s && decide (n = 0) } := by
  have _ := ht
  have hk : ∀ k, isF F (aged14 F n f k) = isF F (f k) ∧ (aged14 F n f k).xs = (f k).xs := fun k => by
    rcases aged_one h hn k with ⟨h1, h2⟩ | ⟨h1, h2, h3⟩
    · rw [h1, h2]; exact ⟨rfl, rfl⟩
    · rw [h3]
      refine ⟨?_, rfl⟩
      rw [show isF F (f k) = true from isF_iff.2 ⟨h1, by omega⟩]
      exact isF_iff.2 ⟨rfl, hn⟩
  have hs : ∀ k, sy F (aged14 F n f) k = sy F f k := fun k => by unfold sy; rw [(hk k).1, (hk k).2]
  have ht : (List.range t).map (fun i => cntOf (isF F (aged14 F n f (8 + i))) (aged14 F n f (8 + i)).xs) = (List.range t).map (fun i => cntOf (isF F (f (8 + i))) (f (8 + i)).xs) := by
    congr 1
    funext i
    rw [(hk (8 + i)).1, (hk (8 + i)).2]
  have h0 : ((aged14 F n f 0).had && decide ((aged14 F n f 0).age = 0)) = (((f 0).had && decide ((f 0).age = 0)) && decide (n = 0)) := by
    rcases aged_one h hn 0 with ⟨h1, h2⟩ | ⟨h1, h2, h3⟩
    · rw [h1, h2]; rfl
    · rw [h3, h1, h2]; simp
  unfold tells
  rw [hs 0, hs 1, hs 2, hs 3, hs 4, hs 5, ht, h0]

set_option maxHeartbeats 16000000 in
set_option maxRecDepth 10000 in
theorem lost_main (a b' c d s l o : Bool) (m : Int) (mn bt : Bool) (r : Int) (tv : Value) (ts : List Ct) (F kk : Nat) (w : World) (hv : Els RCt 5 w tv ts) (h1 : 1 ≤ ts.length) (h8 : ts.length ≤ 8) (hF1 : 1 ≤ F) (hF3 : F ≤ 300) (hkF : kk ≤ F) :
    Calls Tryd.prog 8 #[.agg #[.bool a, .bool b', .bool c, .bool d, .bool s, .bool l, .bool o, .int .i64 m, .bool mn, .bool bt, .int .i64 r, tv], .int .i64 (F : Int), .int .i64 (kk : Int)] w fun e w' => e = .returned (.bool true) ∧ Below w.heap.size w w' := by
  obtain ⟨P, HP⟩ : ∃ P, Hid (P = prn ⟨a, b', c, d, s, l, o, m, mn, bt, r, ts⟩) := ⟨_, Lib.hid rfl⟩
  obtain ⟨q, hq⟩ : ∃ q : BitVec 8, (q.toNat : Int) = 1 % 256 := ⟨1#8, by decide⟩
  have HQ := Lib.hid hq
  have HPR := Lib.hid (fun W (hb : Below w.heap.size w W) (k : Nat) (hk : k < 8 + ts.length) => print_to a b' c d s l o m mn bt r ts tv W (hv.below fun _ _ _ hr => hr.below hb) k hk h8)
  rw [← HP.out] at HPR
  have HV := Lib.hid hv
  obtain ⟨ta, tc, ev⟩ := hv.len
  obtain ⟨n, hn⟩ : ∃ n, n = ts.length := ⟨_, rfl⟩
  rw [← hn] at h1 h8 HPR ev
  subst ev
  have HN := Lib.hid hn
  clear hv hn hq
  have HX := Lib.hid (blk_new w #[.bool a, .bool b', .bool c, .bool d, .bool s, .bool l, .bool o, .int .i64 m, .bool mn, .bool bt, .int .i64 r, .slice ta n tc] 36)
  have HB := Lib.hid (below_alloc (Below.refl _ w) (.cells #[.bool a, .bool b', .bool c, .bool d, .bool s, .bool l, .bool o, .int .i64 m, .bool mn, .bool bt, .int .i64 r, .slice ta n tc] 36))
  obtain ⟨gi, HGI⟩ : ∃ gi, Hid (gi = w.heap.size) := ⟨_, Lib.hid rfl⟩
  rw [← HGI.out] at HX
  have i1 : ¬ (n : Int) < 1 := by omega
  have i8 : ¬ (8 : Int) < (n : Int) := by omega
  have j1 : ¬ (F : Int) < 1 := by omega
  have j3 : ¬ (300 : Int) < (F : Int) := by omega
  have j0 : ¬ (kk : Int) < 0 := by omega
  have jF : ¬ (F : Int) < (kk : Int) := by omega
  have HFW := Lib.hid (show ((F : Nat) : Int) = min (max ((F : Nat) : Int) 1) 6000 by omega)
  have HNW := Lib.hid (show ((n : Nat) : Int) = min (max ((n : Nat) : Int) 1) 8 by omega)
  go_enter Tryd.func8, Tryd.ntmps8
  (try dsimp only [List.append])
  have HGS := Lib.hid (show w.heap.size ≤ gi by rw [HGI.out]; exact Nat.le_refl _)
  go_upto_region 1 with fail
  rw [← HGI.out]
  clear HGI
  generalize w.alloc (.cells #[.bool a, .bool b', .bool c, .bool d, .bool s, .bool l, .bool o, .int .i64 m, .bool mn, .bool bt, .int .i64 r, .slice ta n tc] 36) = wB at *
  go_wp2_with fail
  (with_reducible refine (small_true wB).mono ?_)
  rintro e w1 ⟨rfl, hb⟩
  have HB1 := Lib.hid (below_call HB.out hb)
  have HX1 := Lib.hid (HX.out.below hb)
  have c11 := (HX.out.below hb).cell 11 rfl
  clear hb
  go_wp2_with fail
  (with_reducible refine (in_new (n : Int) (F : Int) F n HFW.out HNW.out HB1.out).mono ?_)
  rintro e w2 ⟨x, rfl, b, hxb, hwb, hl2, hx, hb⟩
  have HC := Lib.hid (chs_alone (F := F) hwb hxb ⟨h1, h8⟩)
  have HCW := Lib.hid (fun v ls => chs_one (F := F) (E := fun wx => Rws b wx v ls) hwb hxb ⟨h1, h8⟩ (fun _ _ h hk => h.keep hk))
  have HI := Lib.hid (show Alone w b x F n w2 (fun _ => noCh) from ⟨hl2, hx, trivial⟩)
  have HX2 := Lib.hid (HX1.out.below hb)
  have HBB := Lib.hid (show b < w2.heap.size from hl2.blt)
  have HXB := Lib.hid (ln_ne hl2 HX2.out (by simp))
  have HXX := Lib.hid (blk_ne hx HX2.out (by simp))
  obtain ⟨bM, HBM⟩ : ∃ bM, Hid (b ≤ bM ∧ gi ≤ bM ∧ bM < w2.heap.size) := ⟨max b gi, Lib.hid (by have := hl2.blt; have := HX2.out.lt; omega)⟩
  clear hxb hwb hl2 hx hb c11 HX HX1 HB1 HNW HFW i1 i8 j1 j3 j0 jF
  go_wp2_with fail
  go_loopw [9, 10] (fun u9 u10 wx => ∃ (K : Nat) (av : Option Addr) (N cv : Nat), K ≤ 8 + n ∧ u10 = .int .i64 (K : Int) ∧ u9 = .slice av N cv ∧ Hid (N = (tel P q K).length) ∧ Hid (Below w2.heap.size w2 wx) ∧ Hid (OwnR bM w2.heap.size wx (.slice av N cv) (tel P q K))) (fun _ u10 _ => 8 + n - (intOf u10).toNat)
  case atStart => exact ⟨0, none, 0, 0, by omega, rfl, rfl, Lib.hid rfl, Lib.hid (Below.refl _ _), Lib.hid (ownR_nil _ _ _)⟩
  case round =>
    obtain ⟨K, av, N, cv, hK, rfl, rfl, HNr, HBr, HOr⟩ := hrel
    have hw8 : IntKind.i64.wrap (8 + (n : Int)) = 8 + (n : Int) := by rw [IntKind.wrap_i64]; omega
    have HNL := Lib.hid (show N ≤ 16 by have := tel_len P q 0 K; rw [Nat.zero_add] at this; have h0 : (tel P q 0).length = 0 := rfl; have := HNr.out; omega)
    by_cases hlt : K < 8 + n
    · have hlz : (K : Int) < 8 + (n : Int) := by omega
      obtain ⟨c0, c1, c2, c3, c4, c5, c6, c7, c8, c9, c10, c11⟩ := cells12 (HX2.out.below HBr.out)
      have HPK := Lib.hid (HPR.out _ (below_call (HC.out.bel _ _ HI.out) HBr.out) K hlt)
      have hw9 : IntKind.i64.wrap ((K : Int) + 1) = (K : Int) + 1 := by rw [IntKind.wrap_i64]; omega
      go_wp2_with fail
      (with_reducible refine HPK.out.mono ?_)
      rintro e w3 ⟨v, rfl, hv, hb⟩
      obtain ⟨ap, cp, ev⟩ := hv.len
      have HV3 := Lib.hid hv
      have HB3 := Lib.hid (below_call HBr.out hb)
      have HO3 := Lib.hid (HOr.out.below hb)
      clear hv hb HPK c0 c1 c2 c3 c4 c5 c6 c7 c8 c9 c10 c11 HBr HOr
      by_cases h0 : (P K).length = 0
      · have HT := Lib.hid (tel_no (q := q) h0)
        subst ev
        rw [h0]
        clear HV3 h0
        go_wp2_with fail
        go_roundw
        case rel => exact ⟨K + 1, av, N, cv, by omega, by go_num, rfl, Lib.hid (by rw [HT.out]; exact HNr.out), HB3, Lib.hid (by rw [HT.out]; exact HO3.out)⟩
        case measure => simp [intOf]; omega
      · have HT := Lib.hid (tel_yes (q := q) h0)
        have HPL := Lib.hid (show (P K).length ≤ 16 by rw [HP.out]; exact prn_len _ _)
        obtain ⟨M, hM⟩ : ∃ M, M = (P K).length := ⟨_, rfl⟩
        rw [← hM] at ev h0
        subst ev
        have hm0 : (0 : Int) < (M : Int) := by omega
        have HTE := tele_at (BitVec.ofNat 8 K) q (K : Int) 1 (by simp; omega) HQ.out _ (P K) w3 HV3.out (by simp; omega) HPL.out
        have HTE := Lib.hid HTE
        clear hM h0 HV3
        go_wp2_with fail
        (with_reducible refine HTE.out.mono ?_)
        rintro e w4 ⟨v, rfl, ho, hb⟩
        obtain ⟨gr, cr, er, _, hgr⟩ := ho.form (by simp [sealed, frm])
        have hgl := (World.ownsRow.lt ho gr (by rw [er]; rfl)).2
        have HO4 := Lib.hid ho.byts
        have HR4 := Lib.hid (HO3.out.below hb)
        have HB4 := Lib.hid (below_call HB3.out hb)
        have HGR := Lib.hid (show w3.heap.size ≤ gr ∧ gr < w4.heap.size from ⟨hgr, hgl⟩)
        obtain ⟨Q, hQ⟩ : ∃ Q, Q = (sealed (frm (BitVec.ofNat 8 K) q (P K))).length := ⟨_, rfl⟩
        rw [← hQ] at er
        subst er
        have HQL := Lib.hid hQ
        have HS3 := Lib.hid (show ∀ z, (Value.slice av N cv).ownBlock = some z → z < w3.heap.size from fun z hz => (HO3.out.lt hz).2)
        have HSZ := Lib.hid (show bM < w3.heap.size by have := HBM.out.2.2; have := HB3.out.size; omega)
        clear ho hb hgr hgl hQ HO3 HB3 HTE
        have HRA := Lib.hid (HR4.out.below (below_alloc (Below.refl _ w4) (.cells #[.slice (some ⟨gr, 0, none⟩) Q cr] 44)))
        have HUA := Lib.hid ((blk_new w4 #[.slice (some ⟨gr, 0, none⟩) Q cr] 44).cell 0 rfl)
        have HYA := Lib.hid (HO4.out.below (below_alloc (Below.refl _ w4) (.cells #[.slice (some ⟨gr, 0, none⟩) Q cr] 44)))
        have HBA := Lib.hid (below_alloc HB4.out (.cells #[.slice (some ⟨gr, 0, none⟩) Q cr] 44))
        have HLA := Lib.hid (show (sealed (frm (BitVec.ofNat 8 K) q (P K))).length ≤ 140737488351232 by have := HPL.out; simp [sealed, frm]; omega)
        have HPA := Lib.hid (show ∀ p : Addr, (some (⟨gr, 0, none⟩ : Addr)) = some p → (sealed (frm (BitVec.ofNat 8 K) q (P K))).length = 0 ∨ (bM < p.block ∧ (Value.slice av N cv).ownBlock ≠ some p.block ∧ p.block < (w4.alloc (.cells #[.slice (some ⟨gr, 0, none⟩) Q cr] 44)).heap.size) by
          intro p hp
          cases hp
          have h3 := HGR.out
          have h4 := HBB.out
          have h5 := (HB4.out).size
          refine .inr ⟨?_, fun h => ?_, ?_⟩
          · have := HSZ.out; show bM < gr; omega
          · have := HS3.out _ h; simp only at this; omega
          · simp; omega)
        clear HR4 HO4 HB4 HS3
        go_wp2_with (at_builtin; refine wpList_appR rfl _ _ rfl bM w2.heap.size (.slice av N cv) N (tel P q K) rfl HNr.out HRA.out w4.heap.size rfl (sealed (frm (BitVec.ofNat 8 K) q (P K))) (some ⟨gr, 0, none⟩) Q cr HQL.out HUA.out HYA.out HLA.out HPA.out (by have := HNL.out; omega) HBA.out.size ?_; intro g7 cap w7 hO hBel)
        have HB7 := Lib.hid (HBA.out.trans hBel)
        have HO7 := Lib.hid (show OwnR bM w2.heap.size w7 (.slice (some ⟨g7, 0, none⟩) (N + 1) cap) (tel P q (K + 1)) by rw [HT.out]; exact hO)
        have HN7 := Lib.hid (show N + 1 = (tel P q (K + 1)).length by rw [HT.out, List.length_append, List.length_singleton, HNr.out])
        clear hO hBel HRA HUA HYA HBA HLA HPA HNr HT
        go_wp2_with fail
        go_roundw
        case rel => exact ⟨K + 1, some ⟨g7, 0, none⟩, N + 1, cap, by omega, by go_num, rfl, HN7, HB7, HO7⟩
        case measure => simp [intOf]; omega
    · have hlz : ¬ (K : Int) < 8 + (n : Int) := by omega
      have hKe : K = 8 + n := by omega
      subst hKe
      have HIR := Lib.hid (HC.out.still HI.out HBr.out)
      have HRS := Lib.hid (HOr.out.rws HBM.out.2.2 HBM.out.1)
      have hst := stp_tel F P q (fun k => by rw [HP.out]; exact prn_len _ _) (8 + n) (by omega)
      rw [← HNr.out] at hst
      obtain ⟨f1, HF1⟩ : ∃ f1, Hid (f1 = chf P q (8 + n)) := ⟨_, Lib.hid rfl⟩
      rw [← HF1.out] at hst
      have HST := Lib.hid (in_step (HCW.out _ _) (one_with (E' := fun wx => Rws b wx (.slice av N cv) (tel P q (8 + n))) HIR.out HRS.out) _ _ (fun wr f h => h.2.2.els) (by have := HNL.out; rw [HNr.out] at this; unfold maxLen; omega) f1 N hst)
      have c11 := (HX2.out.below HBr.out).cell 11 rfl
      clear hst HBr HOr hlz hlt hK
      go_wp2_with fail
      (with_reducible refine HST.out.mono ?_)
      rintro e w5 ⟨rfl, hi, hk⟩
      have HI5 := Lib.hid (show Alone w b x F n w5 f1 from ⟨hi.1, hi.2.1, trivial⟩)
      clear hi hk HST HRS HIR HX2 HBB HXB HXX HBM HNr HNL HPR c11
      obtain ⟨⟨A, B, C', D, S, L', O, M, MN, BT, R, TS⟩, hD⟩ : ∃ D, tells F n f1 = D := ⟨_, rfl⟩
      have HD := Lib.hid hD
      have HTL := Lib.hid (show TS.length = n by have := tells_len F n f1; rw [hD] at this; exact this)
      have HDA := Lib.hid (show ∀ i, i ≤ F → tells F n (aged14 F i f1) = ⟨A, B, C', D, S && decide (i = 0), L', O, M, MN, BT, R, TS⟩ from fun i hi => by
        rw [tells_aged (HF1.out ▸ chf_one P q (8 + n)) h8 hi, hD])
      clear hD
      go_wp2_with fail
      (with_reducible refine (in_now HC.out HI5.out _ _ _ _ _ _ _ _ _ _ _ _ HD.out).mono ?_)
      rintro e w6 ⟨v, rfl, hc, hb⟩
      obtain ⟨a2, c2, ev⟩ := hc.1.len
      rw [HTL.out] at ev
      subst ev
      have hbb := below_alloc hb (.cells #[.bool A, .bool B, .bool C', .bool D, .bool S, .bool L', .bool O, .int .i64 M, .bool MN, .bool BT, .int .i64 R, .slice a2 n c2] 36)
      have HK6 := Lib.hid (kept_new #[.bool A, .bool B, .bool C', .bool D, .bool S, .bool L', .bool O, .int .i64 M, .bool MN, .bool BT, .int .i64 R, .slice a2 n c2] hc (HC.out.blt HI5.out).1 (Nat.lt_of_lt_of_le (HC.out.blt HI5.out).1 hb.size))
      have HI6 := Lib.hid (HC.out.still HI5.out hbb)
      clear hc hb hbb HI5 HD
      go_upto_region 16 with fail
      generalize w6.heap.size = g6 at *
      generalize w6.alloc (.cells #[.bool A, .bool B, .bool C', .bool D, .bool S, .bool L', .bool O, .int .i64 M, .bool MN, .bool BT, .int .i64 R, .slice a2 n c2] 36) = w7 at *
      go_wp2_with fail
      go_loopw [13] (fun u13 wx => ∃ i : Nat, i ≤ kk ∧ u13 = .int .i64 (i : Int) ∧ Hid (Alone w b x F n wx (aged14 F i f1)) ∧ Hid (Kept b wx g6 #[.bool A, .bool B, .bool C', .bool D, .bool S, .bool L', .bool O, .int .i64 M, .bool MN, .bool BT, .int .i64 R, .slice a2 n c2] (.slice a2 n c2) TS)) (fun u13 _ => kk - (intOf u13).toNat)
      case atStart => exact ⟨0, by omega, rfl, HI6, HK6⟩
      case round =>
        obtain ⟨i, hi, rfl, HIr, HKr⟩ := hrel
        clear HI6 HK6
        by_cases hik : i < kk
        · have hiz : (i : Int) < (kk : Int) := by omega
          have hwi : IntKind.i64.wrap ((i : Int) + 1) = (i : Int) + 1 := by rw [IntKind.wrap_i64]; omega
          have HSN := Lib.hid (in_step HC.out HIr.out (.slice none 0 0) [] (fun _ _ _ => ⟨none, 0, rfl, fun j y hy => by cases hy⟩) (by simp) _ 0 rfl)
          go_wp2_with fail
          (with_reducible refine HSN.out.mono ?_)
          rintro e w8 ⟨rfl, hii, hkk⟩
          have HI8 := Lib.hid (show Alone w b x F n w8 (aged14 F (i + 1) f1) from hii)
          have HK8 := Lib.hid (HKr.out.keep hkk)
          clear hii hkk HSN HIr HKr
          go_wp2_with fail
          go_roundw
          case rel => exact ⟨i + 1, by omega, by go_num, HI8, HK8⟩
          case measure => simp [intOf]; omega
        · have hiz : ¬ (i : Int) < (kk : Int) := by omega
          obtain rfl : i = kk := by omega
          have HD := Lib.hid (HDA.out i hkF)
          clear hik
          go_wp2_with fail
          (with_reducible refine (in_now HC.out HIr.out _ _ _ _ _ _ _ _ _ _ _ _ HD.out).mono ?_)
          rintro e w8 ⟨v, rfl, hc, hb⟩
          obtain ⟨a3, c3, ev⟩ := hc.1.len
          rw [HTL.out] at ev
          subst ev
          obtain ⟨z, hz⟩ : ∃ z, (S && decide (i = 0)) = z := ⟨_, rfl⟩
          rw [hz]
          have hbb := below_alloc hb (.cells #[.bool A, .bool B, .bool C', .bool D, .bool z, .bool L', .bool O, .int .i64 M, .bool MN, .bool BT, .int .i64 R, .slice a3 n c3] 36)
          have HY8 := Lib.hid (blk_new w8 #[.bool A, .bool B, .bool C', .bool D, .bool z, .bool L', .bool O, .int .i64 M, .bool MN, .bool BT, .int .i64 R, .slice a3 n c3] 36)
          have HC8 := Lib.hid (hc.below (below_alloc (Below.refl _ w8) (.cells #[.bool A, .bool B, .bool C', .bool D, .bool z, .bool L', .bool O, .int .i64 M, .bool MN, .bool BT, .int .i64 R, .slice a3 n c3] 36)))
          have HN8 := Lib.hid (fun (p : Addr) (hp : a3 = some p) => Nat.ne_of_lt (hc.blt (by rw [HTL.out]; omega) p hp))
          have HK8 := Lib.hid (HKr.out.below hbb)
          have HB8 := Lib.hid (HC.out.bel _ _ (HC.out.still HIr.out hbb))
          have HG8 := Lib.hid (show g6 < w8.heap.size from Nat.lt_of_lt_of_le HKr.out.blk.lt hb.size)
          have HW8 := Lib.hid (show w.heap.size ≤ w8.heap.size from Nat.le_trans (HC.out.bel _ _ HIr.out).size hb.size)
          have HNK := Lib.hid (fun (p : Addr) (hp : a2 = some p) => Nat.ne_of_lt (Nat.lt_of_lt_of_le (let ⟨_, _, h⟩ := HKr.out.lo; h.blt (by rw [HTL.out]; omega) p hp) hb.size))
          clear hc hb hbb HIr HKr HD HDA
          go_upto_region 21 with fail
          generalize w8.heap.size = g8 at *
          generalize w8.alloc (.cells #[.bool A, .bool B, .bool C', .bool D, .bool z, .bool L', .bool O, .int .i64 M, .bool MN, .bool BT, .int .i64 R, .slice a3 n c3] 36) = w9 at *
          have y4 := HY8.out.cell 4 rfl
          have y4f := HY8.out.frz 4
          have k4 := HK8.out.blk.cell 4 rfl
          have HYS := Lib.hid (show Blk (w9.setCell ⟨g8, 4, none⟩ (.bool S)) g8 #[.bool A, .bool B, .bool C', .bool D, .bool S, .bool L', .bool O, .int .i64 M, .bool MN, .bool BT, .int .i64 R, .slice a3 n c3] 36 from HY8.out.set_ 4 (.bool S))
          have HKS := Lib.hid (HK8.out.blk.far g8 4 (.bool S) (Nat.ne_of_lt HG8.out))
          have HBS := Lib.hid (bel_set HB8.out HW8.out 4 (.bool S))
          have HE1 := Lib.hid (let ⟨_, _, h⟩ := HK8.out.lo; (h.apart (w2 := w9.setCell ⟨g8, 4, none⟩ (.bool S)) (Keep.set_ (F := fun z => z = g8) w9 g8 4 (.bool S) rfl) HNK.out).1)
          have HE2 := Lib.hid ((HC8.out.apart (w2 := w9.setCell ⟨g8, 4, none⟩ (.bool S)) (Keep.set_ (F := fun z => z = g8) w9 g8 4 (.bool S) rfl) HN8.out).1)
          clear HK8 HC8 HN8 HNK HG8 HW8 HB8
          have hz0 : z = true → i = 0 := by rw [← hz]; simp
          cases z with
          | false =>
            go_upto_region 24 with fail
            generalize w9.setCell ⟨g8, 4, none⟩ (.bool S) = w10 at *
            clear y4 y4f k4
            obtain ⟨d0, d1, d2, d3, d4, d5, d6, d7, d8, d9, d10, d11⟩ := cells12 HKS.out
            obtain ⟨e0, e1, e2, e3, e4, e5, e6, e7, e8, e9, e10, e11⟩ := cells12 HYS.out
            have HS := Lib.hid (same_to A B C' D S L' O M MN BT R (.slice a2 n c2) (.slice a3 n c3) TS w10 HE1.out HE2.out (by rw [HTL.out]; omega))
            go_wp2_with fail
            (with_reducible refine HS.out.mono ?_)
            rintro e w11 ⟨rfl, hb⟩
            have HB11 := Lib.hid (below_call HBS.out hb)
            clear hb
            go_wp2_with fail
            go_ret
            exact ⟨rfl, HB11.out⟩
          | true =>
            have hi0 : i = 0 := hz0 rfl
            have hq0 : ¬ (0 : Int) < (i : Int) := by omega
            clear hi0 hz0
            go_upto_region 24 with fail
            generalize w9.setCell ⟨g8, 4, none⟩ (.bool S) = w10 at *
            clear y4 y4f k4
            obtain ⟨d0, d1, d2, d3, d4, d5, d6, d7, d8, d9, d10, d11⟩ := cells12 HKS.out
            obtain ⟨e0, e1, e2, e3, e4, e5, e6, e7, e8, e9, e10, e11⟩ := cells12 HYS.out
            have HS := Lib.hid (same_to A B C' D S L' O M MN BT R (.slice a2 n c2) (.slice a3 n c3) TS w10 HE1.out HE2.out (by rw [HTL.out]; omega))
            go_wp2_with fail
            (with_reducible refine HS.out.mono ?_)
            rintro e w11 ⟨rfl, hb⟩
            have HB11 := Lib.hid (below_call HBS.out hb)
            clear hb
            go_wp2_with fail
            go_ret
            exact ⟨rfl, HB11.out⟩
set_option maxHeartbeats 8000000 in
set_option maxRecDepth 10000 in
theorem lost_out (a b c d s l o : Bool) (m : Int) (mn bt : Bool) (r : Int) (tv : Value) (ts : List Ct) (fresh k : Int) (w : World) (hv : Els RCt 5 w tv ts) (h : ts.length < 1 ∨ (1 ≤ ts.length ∧ 8 < ts.length) ∨ (1 ≤ ts.length ∧ ts.length ≤ 8 ∧ fresh < 1) ∨ (1 ≤ ts.length ∧ ts.length ≤ 8 ∧ 1 ≤ fresh ∧ 300 < fresh) ∨ (1 ≤ ts.length ∧ ts.length ≤ 8 ∧ 1 ≤ fresh ∧ fresh ≤ 300 ∧ k < 0) ∨ (1 ≤ ts.length ∧ ts.length ≤ 8 ∧ 1 ≤ fresh ∧ fresh ≤ 300 ∧ 0 ≤ k ∧ fresh < k)) :
    Calls Tryd.prog 8 #[.agg #[.bool a, .bool b, .bool c, .bool d, .bool s, .bool l, .bool o, .int .i64 m, .bool mn, .bool bt, .int .i64 r, tv], .int .i64 fresh, .int .i64 k] w fun e w' => e = .returned (.bool true) ∧ Below w.heap.size w w' := by
  obtain ⟨ta, tc, ev⟩ := hv.len
  obtain ⟨n, hn⟩ : ∃ n, n = ts.length := ⟨_, rfl⟩
  rw [← hn] at h ev
  subst ev
  clear hv hn
  have HX := Lib.hid (blk_new w #[.bool a, .bool b, .bool c, .bool d, .bool s, .bool l, .bool o, .int .i64 m, .bool mn, .bool bt, .int .i64 r, .slice ta n tc] 36)
  have HB := Lib.hid (below_alloc (Below.refl _ w) (.cells #[.bool a, .bool b, .bool c, .bool d, .bool s, .bool l, .bool o, .int .i64 m, .bool mn, .bool bt, .int .i64 r, .slice ta n tc] 36))
  rcases h with h | ⟨h, h'⟩ | ⟨h1, h8, h⟩ | ⟨h1, h8, h', h⟩ | ⟨h1, h8, h', h'', h⟩ | ⟨h1, h8, h', h'', h0, h⟩
  · have i1 : (n : Int) < 1 := by omega
    go_enter Tryd.func8, Tryd.ntmps8
    (try dsimp only [List.append])
    go_wp2_with fail
    (with_reducible refine (small_true _).mono ?_)
    rintro e w1 ⟨rfl, hb⟩
    have HB1 := Lib.hid (below_call HB.out hb)
    have c11 := (HX.out.below hb).cell 11 rfl
    clear hb HX HB
    go_wp2_with fail
    go_ret
    exact ⟨rfl, HB1.out⟩
  · have i1 : ¬ (n : Int) < 1 := by omega
    have i2 : (8 : Int) < (n : Int) := by omega
    go_enter Tryd.func8, Tryd.ntmps8
    (try dsimp only [List.append])
    go_wp2_with fail
    (with_reducible refine (small_true _).mono ?_)
    rintro e w1 ⟨rfl, hb⟩
    have HB1 := Lib.hid (below_call HB.out hb)
    have c11 := (HX.out.below hb).cell 11 rfl
    clear hb HX HB
    go_wp2_with fail
    go_ret
    exact ⟨rfl, HB1.out⟩
  · have i1 : ¬ (n : Int) < 1 := by omega
    have i2 : ¬ (8 : Int) < (n : Int) := by omega
    go_enter Tryd.func8, Tryd.ntmps8
    (try dsimp only [List.append])
    go_wp2_with fail
    (with_reducible refine (small_true _).mono ?_)
    rintro e w1 ⟨rfl, hb⟩
    have HB1 := Lib.hid (below_call HB.out hb)
    have c11 := (HX.out.below hb).cell 11 rfl
    clear hb HX HB
    go_wp2_with fail
    go_ret
    exact ⟨rfl, HB1.out⟩
  · have i1 : ¬ (n : Int) < 1 := by omega
    have i2 : ¬ (8 : Int) < (n : Int) := by omega
    have i3 : ¬ fresh < 1 := by omega
    go_enter Tryd.func8, Tryd.ntmps8
    (try dsimp only [List.append])
    go_wp2_with fail
    (with_reducible refine (small_true _).mono ?_)
    rintro e w1 ⟨rfl, hb⟩
    have HB1 := Lib.hid (below_call HB.out hb)
    have c11 := (HX.out.below hb).cell 11 rfl
    clear hb HX HB
    go_wp2_with fail
    go_ret
    exact ⟨rfl, HB1.out⟩
  · have i1 : ¬ (n : Int) < 1 := by omega
    have i2 : ¬ (8 : Int) < (n : Int) := by omega
    have i3 : ¬ fresh < 1 := by omega
    have i4 : ¬ 300 < fresh := by omega
    go_enter Tryd.func8, Tryd.ntmps8
    (try dsimp only [List.append])
    go_wp2_with fail
    (with_reducible refine (small_true _).mono ?_)
    rintro e w1 ⟨rfl, hb⟩
    have HB1 := Lib.hid (below_call HB.out hb)
    have c11 := (HX.out.below hb).cell 11 rfl
    clear hb HX HB
    go_wp2_with fail
    go_ret
    exact ⟨rfl, HB1.out⟩
  · have i1 : ¬ (n : Int) < 1 := by omega
    have i2 : ¬ (8 : Int) < (n : Int) := by omega
    have i3 : ¬ fresh < 1 := by omega
    have i4 : ¬ 300 < fresh := by omega
    have i5 : ¬ k < 0 := by omega
    go_enter Tryd.func8, Tryd.ntmps8
    (try dsimp only [List.append])
    go_wp2_with fail
    (with_reducible refine (small_true _).mono ?_)
    rintro e w1 ⟨rfl, hb⟩
    have HB1 := Lib.hid (below_call HB.out hb)
    have c11 := (HX.out.below hb).cell 11 rfl
    clear hb HX HB
    go_wp2_with fail
    go_ret
    exact ⟨rfl, HB1.out⟩
theorem lost_any (a b c d s l o : Bool) (m : Int) (mn bt : Bool) (r : Int) (tv : Value) (ts : List Ct) (fresh k : Int) (w : World) (hv : Els RCt 5 w tv ts) :
    Calls Tryd.prog 8 #[.agg #[.bool a, .bool b, .bool c, .bool d, .bool s, .bool l, .bool o, .int .i64 m, .bool mn, .bool bt, .int .i64 r, tv], .int .i64 fresh, .int .i64 k] w fun e w' => e = .returned (.bool true) ∧ Below w.heap.size w w' := by
  by_cases h : ts.length < 1 ∨ (1 ≤ ts.length ∧ 8 < ts.length) ∨ (1 ≤ ts.length ∧ ts.length ≤ 8 ∧ fresh < 1) ∨ (1 ≤ ts.length ∧ ts.length ≤ 8 ∧ 1 ≤ fresh ∧ 300 < fresh) ∨ (1 ≤ ts.length ∧ ts.length ≤ 8 ∧ 1 ≤ fresh ∧ fresh ≤ 300 ∧ k < 0) ∨ (1 ≤ ts.length ∧ ts.length ≤ 8 ∧ 1 ≤ fresh ∧ fresh ≤ 300 ∧ 0 ≤ k ∧ fresh < k)
  · exact lost_out a b c d s l o m mn bt r tv ts fresh k w hv h
  · obtain ⟨F, rfl⟩ : ∃ F : Nat, fresh = (F : Int) := ⟨fresh.toNat, by omega⟩
    obtain ⟨kk, rfl⟩ : ∃ kk : Nat, k = (kk : Int) := ⟨k.toNat, by omega⟩
    exact lost_main a b c d s l o m mn bt r tv ts F kk w hv (by omega) (by omega) (by omega) (by omega) (by omega)
end Go.Proofs.YtolfdfbhignniaaDoor
