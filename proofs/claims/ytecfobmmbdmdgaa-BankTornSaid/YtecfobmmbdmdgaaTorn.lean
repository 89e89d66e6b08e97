/-
  The walk of crossbucklaw16.BankTorn: true, whatever it is given.
-/
import Derived.Test.YtecfobmmbdmdgaaSmall
import Derived.Test.YtecfobmmbdmdgaaCut
namespace Go.Proofs.Ytecfobmmbdmdgaa
open Go.RowKit

/-- What is found where the first c bytes of a second record were written over blank ones. -/
theorem torn_last (s c k : Nat) (xs ys : List (BitVec 8)) (hx : 1 ≤ xs.length ∧ xs.length ≤ 40) (hy : 1 ≤ ys.length ∧ ys.length ≤ 40) (hs : s + 2 ≤ 4294967295) (hc : c < ys.length + 8) (hk : ys.length + 8 ≤ c + k) :
    (bnotes (pr s xs ++ (pr (s + 1) ys).take c ++ List.replicate k 255#8)).getLast? = some ⟨s, xs, xs.length + 8⟩ := by
  have h := bnotes_flat s [xs] ((pr (s + 1) ys).take c ++ List.replicate k 255#8) (by simpa using hx) (by simp; omega) (bone_torn (s + 1) c k ys hy.1 hy.2 hc hk)
  simp only [flat, List.append_nil] at h
  rw [List.append_assoc, h]
  simp [nts]
theorem whole_last (s c k : Nat) (xs ys : List (BitVec 8)) (hx : 1 ≤ xs.length ∧ xs.length ≤ 40) (hy : 1 ≤ ys.length ∧ ys.length ≤ 40) (hs : s + 2 ≤ 4294967295) (hc : c = ys.length + 8) :
    (bnotes (pr s xs ++ (pr (s + 1) ys).take c ++ List.replicate k 255#8)).getLast? = some ⟨s + 1, ys, xs.length + 8 + (ys.length + 8)⟩ := by
  have h := bnotes_flat s [xs, ys] (List.replicate k 255#8) (by intro d hd; simp at hd; rcases hd with rfl | rfl; exact hx; exact hy) (by simp; omega) (bone_blank k)
  simp only [flat, List.append_nil] at h
  rw [List.take_of_length_le (by rw [len_pr]; omega), h]
  simp [nts]
theorem u32_next (s : BitVec 32) (h : s.toNat ≤ 4294967266) : (s + 1#32).toNat = s.toNat + 1 := by
  rw [BitVec.toNat_add]
  have : (1#32 : BitVec 32).toNat = 1 := rfl
  rw [this]
  omega

set_option maxRecDepth 10000 in
set_option maxHeartbeats 4000000 in
theorem torn_any (s : BitVec 32) (u : Value) (xs : List (BitVec 8)) (v : Value) (ys : List (BitVec 8)) (cut blanks : Int) (w : World) (hu : Byts w u xs) (hv : Byts w v ys) (hci : -9223372036854775808 ≤ cut ∧ cut ≤ 9223372036854775807) (hbi : -9223372036854775808 ≤ blanks ∧ blanks ≤ 9223372036854775807) :
    Calls Try.prog 6 #[.int .u32 (s.toNat : Int), u, v, .int .i64 cut, .int .i64 blanks] w fun e w' => e = .returned (.bool true) ∧ Below w.heap.size w w' := by
  obtain ⟨au, cu, eu⟩ := hu.len
  obtain ⟨av, cv, ev⟩ := hv.len
  have HU := Lib.hid hu
  have HV := Lib.hid hv
  clear hu hv
  subst eu ev
  go_enter Try.func6, Try.ntmps6
  go_wp2_with fail
  (with_reducible refine (small_true _).mono ?_)
  rintro e w1 ⟨rfl, hb⟩
  have HB1 := Lib.hid hb
  have HU1 := Lib.hid (HU.out.below hb)
  have HV1 := Lib.hid (HV.out.below hb)
  clear hb HU HV
  by_cases g0 : 40 < xs.length
  · have g0q : decide ((40 : Int) < (xs.length : Int)) = true := by simp; omega
    clear g0
    go_wp2_with fail
    go_ret
    exact ⟨rfl, HB1.out⟩
  have g0q : decide ((40 : Int) < (xs.length : Int)) = false := by simp; omega
  by_cases g1 : 40 < ys.length
  · have g1q : decide ((40 : Int) < (ys.length : Int)) = true := by simp; omega
    clear g1
    go_wp2_with fail
    go_ret
    exact ⟨rfl, HB1.out⟩
  have g1q : decide ((40 : Int) < (ys.length : Int)) = false := by simp; omega
  by_cases g2 : cut < 0
  · have g2q : decide (cut < 0) = true := by simp; omega
    clear g2
    go_wp2_with fail
    go_ret
    exact ⟨rfl, HB1.out⟩
  have g2q : decide (cut < 0) = false := by simp; omega
  by_cases g3 : blanks < 0
  · have g3q : decide (blanks < 0) = true := by simp; omega
    clear g3
    go_wp2_with fail
    go_ret
    exact ⟨rfl, HB1.out⟩
  have g3q : decide (blanks < 0) = false := by simp; omega
  by_cases g4 : 300 < blanks
  · have g4q : decide (300 < blanks) = true := by simp; omega
    clear g4
    go_wp2_with fail
    go_ret
    exact ⟨rfl, HB1.out⟩
  have g4q : decide (300 < blanks) = false := by simp; omega
  by_cases g5 : 4294967266 < s.toNat
  · have g5q : decide ((4294967266 : Int) < (s.toNat : Int)) = true := by simp; omega
    clear g5
    go_wp2_with fail
    go_ret
    exact ⟨rfl, HB1.out⟩
  have g5q : decide ((4294967266 : Int) < (s.toNat : Int)) = false := by simp; omega
  obtain ⟨c, rfl⟩ : ∃ c : Nat, cut = (c : Int) := ⟨cut.toNat, by omega⟩
  obtain ⟨bl, rfl⟩ : ∃ bl : Nat, blanks = (bl : Int) := ⟨blanks.toNat, by omega⟩
  have hbl : bl ≤ 300 := by omega
  obtain ⟨tt, htt⟩ : ∃ tt : BitVec 32, tt = s + 1#32 := ⟨_, rfl⟩
  have hsn : tt.toNat = s.toNat + 1 := by rw [htt]; exact u32_next s (by omega)
  have hw1 : IntKind.u32.wrap ((s.toNat : Int) + 1) = (tt.toNat : Int) := by rw [hsn]; simp [IntKind.wrap, IntKind.bits, IntKind.signed]; omega
  have HSN := Lib.hid hsn
  have HS := Lib.hid (show s.toNat + 2 ≤ 4294967295 by omega)
  have HG0 := Lib.hid (show xs.length ≤ 40 by omega)
  have HG1 := Lib.hid (show ys.length ≤ 40 by omega)
  have hcb : (c : Int) ≤ 9223372036854775807 := hci.2
  clear hsn htt g0 g1 g2 g3 g4 g5 hci hbi
  by_cases hx0 : xs.length = 0
  · have HP := Lib.hid (print_no (s.toNat : Int) _ xs w1 HU1.out (.inl hx0))
    by_cases hy0 : ys.length = 0
    · have HQ := Lib.hid (print_no (tt.toNat : Int) _ ys w1 HV1.out (.inl hy0))
      clear hx0 hy0
      go_wp2_with fail
      (with_reducible refine HP.out.mono ?_)
      rintro e w' ⟨rfl, rfl⟩
      go_wp2_with fail
      (with_reducible refine HQ.out.mono ?_)
      rintro e w' ⟨rfl, rfl⟩
      go_wp2_with fail
      go_ret
      exact ⟨rfl, HB1.out⟩
    · have HQ := Lib.hid (print_yes tt _ ys w1 HV1.out (by omega) HG1.out)
      clear hx0 hy0
      go_wp2_with fail
      (with_reducible refine HP.out.mono ?_)
      rintro e w' ⟨rfl, rfl⟩
      go_wp2_with fail
      (with_reducible refine HQ.out.mono ?_)
      rintro e w2 ⟨r2, rfl, hown, hb⟩
      have HB2 := Lib.hid (below_call HB1.out hb)
      clear hown hb HB1
      go_wp2_with fail
      go_ret
      exact ⟨rfl, HB2.out⟩
  have HXL := Lib.hid (show 1 ≤ xs.length ∧ xs.length ≤ 40 from ⟨by omega, HG0.out⟩)
  have HP := Lib.hid (print_yes s _ xs w1 HU1.out HXL.out.1 HXL.out.2)
  clear hx0
  go_wp2_with fail
  (with_reducible refine HP.out.mono ?_)
  rintro e w2 ⟨ra, rfl, hown, hb⟩
  obtain ⟨ga, ka, ea, _, _⟩ := hown.form (by rw [len_pr]; omega)
  obtain ⟨la, hla⟩ : ∃ la, la = xs.length + 8 := ⟨_, rfl⟩
  rw [len_pr, ← hla] at ea
  subst ea
  have HLA := Lib.hid hla
  have HA2 := Lib.hid hown.byts
  have HB2 := Lib.hid (below_call HB1.out hb)
  have HU2 := Lib.hid (HU1.out.below hb)
  have HV2 := Lib.hid (HV1.out.below hb)
  have hlab : la ≤ 48 := by have := HG0.out; omega
  clear hown hb HP HB1 HU1 HV1 hla
  by_cases hy0 : ys.length = 0
  · have HQ := Lib.hid (print_no (tt.toNat : Int) _ ys w2 HV2.out (.inl hy0))
    clear hy0
    go_wp2_with fail
    (with_reducible refine HQ.out.mono ?_)
    rintro e w' ⟨rfl, rfl⟩
    go_wp2_with fail
    go_ret
    exact ⟨rfl, HB2.out⟩
  have HYL := Lib.hid (show 1 ≤ ys.length ∧ ys.length ≤ 40 from ⟨by omega, HG1.out⟩)
  have hq := print_yes tt _ ys w2 HV2.out HYL.out.1 HYL.out.2
  rw [show pr tt.toNat ys = pr (s.toNat + 1) ys by rw [HSN.out]] at hq
  have HQ := Lib.hid hq
  clear hy0 hq
  go_wp2_with fail
  (with_reducible refine HQ.out.mono ?_)
  rintro e w3 ⟨rb, rfl, hown, hb⟩
  obtain ⟨gb, kb, eb, hkb, _⟩ := hown.form (by rw [len_pr]; omega)
  obtain ⟨lb, hlb⟩ : ∃ lb, lb = ys.length + 8 := ⟨_, rfl⟩
  rw [len_pr, ← hlb] at eb
  subst eb
  have HLB := Lib.hid hlb
  have hlbb : lb ≤ 48 := by have := HG1.out; omega
  have HA3 := Lib.hid (HA2.out.below hb)
  have HC3 := Lib.hid hown.byts
  have HB3 := Lib.hid (below_call HB2.out hb)
  have HU3 := Lib.hid (HU2.out.below hb)
  have HV3 := Lib.hid (HV2.out.below hb)
  clear hown hb HQ HA2 HB2 HU2 HV2 hlb hkb
  by_cases hcl : lb < c
  · have q1 : decide ((lb : Int) < (c : Int)) = true := by simp; omega
    have q2 : decide (lb < c) = true := by simp; omega
    clear hcl
    go_wp2_with fail
    go_ret
    exact ⟨rfl, HB3.out⟩
  have q1 : decide (lb < c) = false := by simp; omega
  have q1' : ¬ ((lb : Int) < (c : Int)) := by omega
  obtain ⟨vc, hrun, hvc⟩ := cutL HC3.out c (by rw [len_pr, ← HLB.out]; omega)
  have HVC := Lib.hid hvc
  have HO := Lib.hid (own_lit w3 w3.heap.size [] (Nat.le_refl _) (by unfold maxLen; simp))
  have HBL := Lib.hid (below_alloc (Below.refl _ w3) (.cells #[] 5))
  have HA4 := Lib.hid (HA3.out.below HBL.out)
  have HLL := Lib.hid (show ([] : List (BitVec 8)).length + (pr s.toNat xs).length ≤ 140737488355328 by rw [len_pr]; have := HG0.out; simp; omega)
  have HLM := Lib.hid (show ([] ++ pr s.toNat xs).length + ((pr (s.toNat + 1) ys).take c).length ≤ 140737488355328 by have := HG0.out; have := HG1.out; simp [len_pr]; omega)
  have hsz := HBL.out.size
  have tok1 : True := trivial
  obtain ⟨T, hT⟩ : ∃ T : Nat, T = bl + lb := ⟨_, rfl⟩
  obtain ⟨K, hK⟩ : ∃ K : Nat, K = T - c := ⟨_, rfl⟩
  have e1 : IntKind.i64.wrap ((bl : Int) + (lb : Int)) = (T : Int) := by rw [IntWalk.i64_in _ (by omega)]; omega
  have e2 : IntKind.i64.wrap ((T : Int) - (c : Int)) = (K : Int) := by rw [IntWalk.i64_in _ (by omega)]; omega
  have HK := Lib.hid (show lb ≤ c + K by omega)
  have hKb : K ≤ 1000 := by omega
  have HCL := Lib.hid (show c ≤ lb by omega)
  clear hcl hvc hT hK
  go_wp2_with (first
    | (at_builtin; have _t := tok1; refine wpList_app rfl _ _ rfl w3.heap.size _ [] rfl HO.out _ _ rfl HA4.out HLL.out hsz ?_; intro v4 w4 hown4 hg4; have HO4 := Lib.hid hown4; have HB4 := Lib.hid (HO.out.grown HBL.out hg4); have HVC4 := Lib.hid (HVC.out.below HB4.out); have hsz4 := HB4.out.size; clear hown4 hg4 tok1 _t HO HBL hsz HLL HA4)
    | (at_builtin; refine wpList_app rfl _ _ rfl w3.heap.size _ _ rfl HO4.out _ _ rfl HVC4.out HLM.out hsz4 ?_; intro v5 w5 hown5 hg5; have HO5 := Lib.hid hown5; have HB5 := Lib.hid (HO4.out.grown HB4.out hg5); clear hown5 hg5 HO4 HB4 HVC4 hsz4 HLM))
  clear hrun
  have HO6 := Lib.hid (show Own w5 w3.heap.size v5 (pr s.toNat xs ++ (pr (s.toNat + 1) ys).take c ++ List.replicate 0 255#8) by simpa using HO5.out)
  clear HO5 HVC
  go_loopw [16, 17] (fun all i wr => ∃ k : Nat, k ≤ K ∧ i = .int .i64 k ∧ Own wr w3.heap.size all (pr s.toNat xs ++ (pr (s.toNat + 1) ys).take c ++ List.replicate k 255#8) ∧ Below w3.heap.size w3 wr) (fun _ i _ => K - (intOf i).toNat)
  case atStart => exact ⟨0, by omega, rfl, HO6.out, HB5.out⟩
  case round =>
    obtain ⟨k, hk, rfl, ho, hb⟩ := hrel
    have HOW := Lib.hid ho
    have HBW := Lib.hid hb
    clear ho hb HO6 HB5
    by_cases hlt : k < K
    · have hki : decide ((k : Int) < (K : Int)) = true := by simp; omega
      have hki2 : decide (k < K) = true := by simp; omega
      have HLN := Lib.hid (show (pr s.toNat xs ++ (pr (s.toNat + 1) ys).take c ++ List.replicate k 255#8).length + ([255#8] : List (BitVec 8)).length ≤ 140737488355328 by have := HG0.out; have := HG1.out; simp [len_pr]; omega)
      have hz1 := HBW.out.size
      go_wp2_with (at_builtin; refine wpList_app rfl _ _ rfl w3.heap.size _ _ rfl (HOW.out.alloc _) _ [255#8] rfl (lit_byts wr #[.int .u8 255] 1 (0, 0) [255#8] rfl rfl) HLN.out (le_alloc hz1 _) ?_; intro v7 w7 hown7 hg7; have HO7 := Lib.hid hown7; have HB7 := Lib.hid ((HOW.out.alloc _).grown (below_alloc HBW.out _) hg7); clear hown7 hg7 HOW HBW hz1)
      go_roundw
      case rel => exact ⟨k + 1, by omega, by go_num, by rw [List.replicate_succ', ← List.append_assoc]; exact HO7.out, HB7.out⟩
      case measure => simp [intOf]; omega
    · obtain rfl : k = K := by omega
      have hkn : decide ((k : Int) < (k : Int)) = false := by simp
      have HLS := Lib.hid (last_any _ _ wr HOW.out.byts (by have := HG0.out; have := HG1.out; simp [len_pr]; omega))
      go_wp2_with fail
      (with_reducible refine HLS.out.mono ?_)
      rintro e w8 ⟨s8, a8, k8, c8, p8, ok8, rfl, ht, hb⟩
      have HU8 := Lib.hid (HU3.out.below (HBW.out.trans (hb.mono HBW.out.size)))
      have HV8 := Lib.hid (HV3.out.below (HBW.out.trans (hb.mono HBW.out.size)))
      have HB8 := Lib.hid (below_call (below_call HB3.out HBW.out) hb)
      have HX8 := Lib.hid (blk_new w8 #[.int .u32 s8, .slice a8 k8 c8, .int .i64 p8] 33)
      have hba := below_alloc (Below.refl _ w8) (.cells #[.int .u32 s8, .slice a8 k8 c8, .int .i64 p8] 33)
      have HU9 := Lib.hid (HU8.out.below hba)
      have HV9 := Lib.hid (HV8.out.below hba)
      have HB9 := Lib.hid (below_call HB8.out hba)
      have HT9 := Lib.hid (ht.below hba)
      clear ht hb hba HLS HU8 HV8 HB8 HOW HBW HU3 HV3 HA3 HC3 HB3
      by_cases hct : c < lb
      · rw [torn_last s.toNat c k xs ys HXL.out HYL.out HS.out (by rw [← HLB.out]; exact hct) (by rw [← HLB.out]; exact HK.out)] at HT9
        obtain ⟨rfl, y, hy, rfl, hyv, rfl, hyo⟩ := HT9.out.resolve_left (fun h => by cases h.1)
        simp only [Option.some.injEq, NV.nt, Nt.mk.injEq] at hy
        obtain ⟨hys, hyd, hye⟩ := hy
        rw [← hyd] at hyo
        have hyb := hyo.byts
        rw [← hyv] at hyb
        have HYB := Lib.hid hyb
        have es : (y.s : Int) = (s.toNat : Int) := by rw [← hys]
        have ee : (y.e : Int) = (la : Int) := by rw [← hye]; have := HLA.out; have := HLB.out; omega
        rw [es, ee] at HX8 HB9 HU9 HV9 HYB
        rw [es, ee]
        clear hys hyd hye hyo hyb hyv HT9 es ee
        obtain ⟨c0, c1, c2⟩ := HX8.out.three
        have h1 := txt_run _ _ _ HYB.out
        have h2 := txt_run _ _ _ HU9.out
        have h3 := txt_run _ _ _ HV9.out
        have h4 := txt_same xs
        have f1 : ((s.toNat : Int) == (s.toNat : Int)) = true := by simp
        have f2 : ((la : Int) == (la : Int)) = true := by simp
        have f3 : ((s.toNat : Int) == (tt.toNat : Int)) = false := by rw [HSN.out]; simp; omega
        have f4 : decide ((c : Int) < (lb : Int)) = true := by simp; omega
        have f5 : decide (c < lb) = true := by simp; omega
        go_wp2_with fail
        go_ret
        exact ⟨rfl, HB9.out⟩
      · obtain rfl : c = lb := by have := HCL.out; omega
        rw [whole_last s.toNat c k xs ys HXL.out HYL.out HS.out HLB.out] at HT9
        obtain ⟨rfl, y, hy, rfl, hyv, rfl, hyo⟩ := HT9.out.resolve_left (fun h => by cases h.1)
        simp only [Option.some.injEq, NV.nt, Nt.mk.injEq] at hy
        obtain ⟨hys, hyd, hye⟩ := hy
        rw [← hyd] at hyo
        have hyb := hyo.byts
        rw [← hyv] at hyb
        have HYB := Lib.hid hyb
        have es : (y.s : Int) = (tt.toNat : Int) := by rw [← hys]; rw [HSN.out]
        have ee : (y.e : Int) = (la : Int) + (c : Int) := by rw [← hye]; have := HLA.out; have := HLB.out; omega
        rw [es, ee] at HX8 HB9 HU9 HV9 HYB
        rw [es, ee]
        clear hys hyd hye hyo hyb hyv HT9 es ee
        obtain ⟨c0, c1, c2⟩ := HX8.out.three
        have h1 := txt_run _ _ _ HYB.out
        have h2 := txt_run _ _ _ HU9.out
        have h3 := txt_run _ _ _ HV9.out
        have h4 := txt_same ys
        have f1 : ((tt.toNat : Int) == (s.toNat : Int)) = false := by rw [HSN.out]; simp; omega
        have f2 : ((tt.toNat : Int) == (tt.toNat : Int)) = true := by simp
        have f3 : ((la : Int) + (c : Int) == (la : Int) + (c : Int)) = true := by simp
        have f6 : IntKind.i64.wrap ((la : Int) + (c : Int)) = (la : Int) + (c : Int) := IntWalk.i64_in _ (by omega)
        have f4 : decide ((c : Int) < (c : Int)) = false := by simp
        have f5 : ((c : Int) == (c : Int)) = true := by simp
        go_wp2_with fail
        go_ret
        exact ⟨rfl, HB9.out⟩

end Go.Proofs.Ytecfobmmbdmdgaa
