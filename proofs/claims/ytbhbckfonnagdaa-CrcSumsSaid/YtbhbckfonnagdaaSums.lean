/-
  The walk of crossbucklaw02.CrcSums: true, whatever it is given.
-/
import Derived.Test.YtbhbckfonnagdaaBursts
import Derived.Deep.RegionWith
import Derived.Deep.DeepCutAuto
namespace Go.Proofs.Ytbhbckfonnagdaa
open Go.RowKit

def txt2 (xs : List (BitVec 8)) : ByteArray := strOfNums (xs.map fun x => (x.toNat : Int))
theorem txt2_run (xs : List (BitVec 8)) (w : World) (v : Value) (h : Byts w v xs) : (convert 23 9 v).run Try.prog w = .ok (.string (txt2 xs)) w := strNums xs w v h

theorem byts_splice {w : World} {g n cap : Nat} {cur : List Value} {xs : List (BitVec 8)} (h : w.heap[g]? = some (.cells (splice cur 0 (xs.map cel)).toArray 5 (0, 0))) (hn : xs.length = n) (hc : n ≤ cap) : Byts w (.slice (some ⟨g, 0, none⟩) n cap) xs := by
  subst hn
  refine .inr ⟨g, 0, cap, rfl, hc, fun j x hx => ?_⟩
  have hj : j < xs.length := by
    rcases Nat.lt_or_ge j xs.length with h1 | h1
    · exact h1
    · rw [List.getElem?_eq_none h1] at hx; cases hx
  rw [Nat.zero_add, cell_of_row _ _ _ _ _ _ h]
  rw [List.getElem?_eq_getElem hj] at hx
  simp [splice, List.getElem?_append, hj, Option.some.inj hx]

theorem byts_src {w : World} {a : Option Addr} {n c : Nat} {xs : List (BitVec 8)} (h : Byts w (.slice a n c) xs) (h0 : 0 < (xs.map cel).length) : ∃ ad, a = some ad ∧ ∀ (j : Nat) x, (xs.map cel)[j]? = some x → w.cell? (ad.add j) = some x := by
  rcases h with ⟨rfl, _⟩ | ⟨g, o, cap, hv, hc, h⟩
  · simp at h0
  · simp only [Value.slice.injEq] at hv
    refine ⟨⟨g, o, none⟩, hv.1, fun j x hx => ?_⟩
    rw [List.getElem?_map] at hx
    cases hy : xs[j]? with
    | none => rw [hy] at hx; cases hx
    | some y => rw [hy] at hx; cases hx; rw [plain_add]; exact h j y hy

set_option maxHeartbeats 4000000 in
set_option maxRecDepth 100000 in
theorem sums_main (s : BitVec 16) (v u : Value) (xs ys : List (BitVec 8)) (n : Nat) (w : World) (hv : Byts w v xs) (hu : Byts w u ys) (hx : xs.length = n) (hn : n ≤ 1000) (hy : ys.length ≤ 1000) :
    Calls Try.prog 3 #[.int .u16 (s.toNat : Int), v, u] w fun e w' => e = .returned (.bool true) ∧ Below w.heap.size w w' := by
  obtain ⟨av, cv, ev⟩ := hv.len
  obtain ⟨au, cu, eu⟩ := hu.len
  rw [hx] at ev
  obtain ⟨M, hM, _, hmk⟩ := run_make_u8 (n + 8) (by omega) n (by omega)
  have HS := Lib.hid (small_true w)
  have HV := Lib.hid hv
  have HU := Lib.hid hu
  have HX := Lib.hid hx
  have HMS := Lib.hid hM
  have HL := Lib.hid (show (sealed xs).length = n + 2 by unfold sealed; simp [hx])
  have HXL := Lib.hid (show xs.length ≤ 1000000 by omega)
  have HXM := Lib.hid (show xs.length ≤ maxLen by unfold maxLen; omega)
  have HYL := Lib.hid (show ys.length ≤ 1000000 by omega)
  rw [show ((n + 8 : Nat) : Int) = (n : Int) + 8 by simp] at hmk
  clear hv hu hx hM
  subst ev eu
  go_enter Try.func3, Try.ntmps3
  go_wp2_with fail
  (with_reducible refine HS.out.mono ?_)
  rintro e w1 ⟨rfl, hb⟩
  have HB := Lib.hid hb
  have HV1 := Lib.hid (HV.out.below hb)
  have HU1 := Lib.hid (HU.out.below hb)
  clear hb HS HV HU
  have HB2 := Lib.hid ((Below.refl w1.heap.size w1).alloc (Nat.le_refl _) (.cells M 5))
  have HG := Lib.hid (show (w1.alloc (.cells M 5)).heap[w1.heap.size]? = some (.cells M.toList.toArray 5 (0, 0)) by have := heap_alloc_new w1 (.cells M 5); simpa using this)
  have HN1 := Lib.hid (show (xs.map cel).length = Nat.min n n by rw [List.length_map, HX.out]; simp [Nat.min_def])
  have HN2 := Lib.hid (show 0 + (xs.map cel).length ≤ M.toList.length by rw [List.length_map, HX.out, Array.length_toList, HMS.out]; omega)
  have HSP : Hid (0 < (xs.map cel).length → ∃ ad, av = some ad ∧ ∀ (j : Nat) x, (xs.map cel)[j]? = some x → (w1.alloc (.cells M 5)).cell? (ad.add j) = some x) := byts_src (HV1.out.below HB2.out)
  go_wp2_with ((refine wpList_copy_splice (o := ⟨some 34, _, _, _, _, _⟩) rfl _ _ 23 23 rfl 5 Try.underlying23 szU8 _ _ _ _ _ _ rfl rfl w1.heap.size 0 M.toList 5 HG.out (xs.map cel) HN1.out (fun h => ⟨rfl, HSP.out h⟩) HN2.out (cel_one xs) w1.heap.size w1 HB2.out (Nat.le_refl _) ?_; intro w2 hg2 hb2))
  have HSPA := Lib.hid (byts_splice (cap := n + 8) hg2.out HX.out (by omega))
  have HV2 := Lib.hid (HV1.out.below hb2)
  have HU2 := Lib.hid (HU1.out.below hb2)
  have HB3 := Lib.hid (below_call HB.out hb2)
  clear hg2 hb2 HSP HN1 HN2 HG HB2 hmk HMS HV1 HU1 HB
  (with_reducible refine (seal_any _ xs _ HSPA.out HXL.out).mono ?_)
  rintro e w3 ⟨r, rfl, hown, hb⟩
  obtain ⟨g, cap, rfl, hcap, hBg⟩ := hown.form (by rw [HL.out]; omega)
  have HG := Lib.hid hBg
  have HO := Lib.hid hown
  have HBS := Lib.hid hb
  rw [HL.out] at HO hcap ⊢
  clear hown hb hBg
  go_upto_region 7 with fail
  go_cut [10] (fun s10 wx => s10 = .bool true ∧ Below w3.heap.size w3 wx)
  case first =>
    have HD := Lib.hid ((Below.refl w3.heap.size w3).drew)
    have HV3 := Lib.hid ((HV2.out.below HBS.out).below HD.out)
    have HO3 := Lib.hid (Own.byts HO.out)
    have HO4 := Lib.hid (HO3.out.below HD.out)
    have c1 := txt2_run (sealed xs) _ _ HO4.out
    go_region_with (first | (go_at_call 11; (with_reducible refine (rseal_any _ xs _ HV3.out HXL.out).mono ?_); rintro e w5 ⟨r5, rfl, hown, hb⟩; have HC := Lib.hid (below_call HD.out hb); have hcv := txt2_run _ _ _ hown.byts; have hcu := txt2_run _ _ _ (HO4.out.below hb); clear hown hb))
    all_goals (go_wp2_with fail; go_meet; exact ⟨by simp, HC.out⟩)
  case rest =>
    obtain ⟨rfl, hb⟩ := hcut
    have HOC := Lib.hid (HO.out.below hb)
    have HBC := Lib.hid (below_call HBS.out hb)
    clear hb HO HBS
    go_wp2_with fail
    go_loopw [11] (fun i wr => ∃ (k : Nat) (zs : List (BitVec 8)), k ≤ n + 2 ∧ i = .int .i64 k ∧ zs.length = n + 2 ∧ Own wr w2.heap.size (.slice (some ⟨g, 0, none⟩) (n + 2) cap) zs ∧ Below w2.heap.size w2 wr) (fun i _ => n + 2 - (intOf i).toNat)
    case atStart => exact ⟨0, _, by omega, rfl, HL.out, HOC.out, HBC.out⟩
    case round =>
      obtain ⟨k, zs, hk, rfl, hz, hr, hb⟩ := hrel
      have HZ := Lib.hid hz
      have HRW := Lib.hid hr
      have HBW := Lib.hid hb
      clear hz hr hb
      by_cases hlt : k < n + 2
      · obtain ⟨z, hzk⟩ : ∃ z, zs[k]? = some z := ⟨_, List.getElem?_eq_getElem (by rw [HZ.out]; exact hlt)⟩
        have h1 := HRW.out.cell HZ.out.symm _ z hzk
        have h2 := HRW.out.frozen HZ.out.symm k
        have hltI : (k : Int) < (n : Int) + 2 := by omega
        have HR2 := Lib.hid (HRW.out.set_ HZ.out.symm k 7#8)
        have HB4 := Lib.hid (HBW.out.setCell (p := ⟨g, k, none⟩) HG.out (.int .u8 7))
        clear hzk
        go_wp2
        go_roundw
        case rel => exact ⟨k + 1, zs.set k 7#8, by omega, by go_num, by rw [List.length_set]; exact HZ.out, HR2.out, HB4.out⟩
        case measure => simp [intOf]; omega
      · have HVW := Lib.hid (HV2.out.below HBW.out)
        have HUW := Lib.hid (HU2.out.below HBW.out)
        have HSW := Lib.hid (HSPA.out.below HBW.out)
        have HBT := Lib.hid (below_call HB3.out HBW.out)
        clear HOC HBC HRW HV2 HU2 HSPA HB3 HBW HZ
        generalize wr = wo at *
        cases ho : opens ys with
        | true =>
          have HO := Lib.hid ho
          clear ho
          go_wp2_with fail
          (with_reducible refine (open_t _ ys _ HUW.out HYL.out HO.out).mono ?_)
          rintro e w5 ⟨x, rfl, hown, hb⟩
          have HX5 := Lib.hid hown.byts
          have HV5 := Lib.hid (HVW.out.below hb)
          have HU5 := Lib.hid (HUW.out.below hb)
          have HS5 := Lib.hid (HSW.out.below hb)
          have HB5 := Lib.hid (below_call HBT.out hb)
          obtain ⟨ax, cx, ex⟩ := hown.byts.len
          clear hown hb HVW HUW HSW HBT
          subst ex
          go_wp2_with fail
          (with_reducible refine (ropen_t _ ys _ HU5.out HYL.out HO.out).mono ?_)
          rintro e w6 ⟨y, rfl, hown, hb⟩
          have c1 := txt2_run _ _ _ (HX5.out.below hb)
          have c2 := txt2_run _ _ _ hown.byts
          have c3 := txt2_run _ _ _ (HV5.out.below hb)
          have c4 := txt2_run _ _ _ (HS5.out.below hb)
          have HV6 := Lib.hid (HV5.out.below hb)
          have HB6 := Lib.hid (below_call HB5.out hb)
          obtain ⟨ay, cy, ey⟩ := hown.byts.len
          clear hown hb HV5 HU5 HS5 HX5 HB5
          subst ey
          have HSM := Lib.hid (sum_any _ xs _ HV6.out HXM.out)
          have HRM := Lib.hid (rsum_any _ xs _ HV6.out HXM.out)
          have HAM := Lib.hid (add_any s _ xs _ HV6.out HXM.out)
          have HRA := Lib.hid (radd_any s _ xs _ HV6.out HXM.out)
          generalize crcSum xs = s1 at *
          generalize crcAdd s xs = s2 at *
          generalize (front ys).length = nf at *
          have q1 : ((s1.toNat : Int) == (s1.toNat : Int)) = true := by simp
          have q2 : ((s2.toNat : Int) == (s2.toNat : Int)) = true := by simp
          go_wp2_with fail
          (with_reducible refine HSM.out.mono ?_)
          rintro e w7 ⟨rfl, rfl⟩
          go_wp2_with fail
          (with_reducible refine HRM.out.mono ?_)
          rintro e w7 ⟨rfl, rfl⟩
          go_wp2_with fail
          (with_reducible refine HAM.out.mono ?_)
          rintro e w7 ⟨rfl, rfl⟩
          go_wp2_with fail
          (with_reducible refine HRA.out.mono ?_)
          rintro e w7 ⟨rfl, rfl⟩
          go_wp2_with fail
          go_ret
          exact ⟨by simp, HB6.out⟩
        | false =>
          have HO := Lib.hid ho
          clear ho
          go_wp2_with fail
          (with_reducible refine (open_f _ ys _ HUW.out HYL.out HO.out).mono ?_)
          rintro e w5 ⟨rfl, hb⟩
          have HV5 := Lib.hid (HVW.out.below hb)
          have HU5 := Lib.hid (HUW.out.below hb)
          have HS5 := Lib.hid (HSW.out.below hb)
          have HB5 := Lib.hid (below_call HBT.out hb)
          clear hb HVW HUW HSW HBT
          go_wp2_with fail
          (with_reducible refine (ropen_f _ ys _ HU5.out HYL.out HO.out).mono ?_)
          rintro e w6 ⟨rfl, hb⟩
          have c1 := txt2_run _ _ _ (byts_nil w6)
          have c3 := txt2_run _ _ _ (HV5.out.below hb)
          have c4 := txt2_run _ _ _ (HS5.out.below hb)
          have HV6 := Lib.hid (HV5.out.below hb)
          have HB6 := Lib.hid (below_call HB5.out hb)
          clear hb HV5 HU5 HS5 HB5
          have HSM := Lib.hid (sum_any _ xs _ HV6.out HXM.out)
          have HRM := Lib.hid (rsum_any _ xs _ HV6.out HXM.out)
          have HAM := Lib.hid (add_any s _ xs _ HV6.out HXM.out)
          have HRA := Lib.hid (radd_any s _ xs _ HV6.out HXM.out)
          generalize crcSum xs = s1 at *
          generalize crcAdd s xs = s2 at *
          have q1 : ((s1.toNat : Int) == (s1.toNat : Int)) = true := by simp
          have q2 : ((s2.toNat : Int) == (s2.toNat : Int)) = true := by simp
          go_wp2_with fail
          (with_reducible refine HSM.out.mono ?_)
          rintro e w7 ⟨rfl, rfl⟩
          go_wp2_with fail
          (with_reducible refine HRM.out.mono ?_)
          rintro e w7 ⟨rfl, rfl⟩
          go_wp2_with fail
          (with_reducible refine HAM.out.mono ?_)
          rintro e w7 ⟨rfl, rfl⟩
          go_wp2_with fail
          (with_reducible refine HRA.out.mono ?_)
          rintro e w7 ⟨rfl, rfl⟩
          go_wp2_with fail
          go_ret
          exact ⟨by simp, HB6.out⟩

theorem sums_any (s : BitVec 16) (v u : Value) (xs ys : List (BitVec 8)) (w : World) (hv : Byts w v xs) (hu : Byts w u ys) (hm : xs.length ≤ maxLen) (hm2 : ys.length ≤ maxLen) :
    Calls Try.prog 3 #[.int .u16 (s.toNat : Int), v, u] w fun e w' => e = .returned (.bool true) ∧ Below w.heap.size w w' := by
  by_cases hmain : xs.length ≤ 1000 ∧ ys.length ≤ 1000
  · exact sums_main s v u xs ys xs.length w hv hu rfl hmain.1 hmain.2
  · obtain ⟨av, cv, ev⟩ := hv.len
    obtain ⟨au, cu, eu⟩ := hu.len
    have HS := Lib.hid (small_true w)
    clear hv hu
    subst ev eu
    unfold maxLen at hm hm2
    generalize xs.length = n at *
    generalize ys.length = m at *
    have hc : 1000 < n ∨ (n ≤ 1000 ∧ 1000 < m) := by omega
    clear hmain
    rcases hc with hc | ⟨hc, hd⟩
    all_goals
      go_enter Try.func3, Try.ntmps3
      go_wp2_with fail
      (with_reducible refine HS.out.mono ?_)
      rintro e w1 ⟨rfl, hb⟩
      go_wp2_with fail
      go_ret
      exact ⟨rfl, hb⟩
end Go.Proofs.Ytbhbckfonnagdaa
