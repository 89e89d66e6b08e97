/-
  The walk of crossbucklaw17.JournalKeeps: true, whatever it is given.
-/
import Derived.Test.YtekackglcapppaaDoorSmall
import Derived.Test.YtekackglcapppaaDoorElb

namespace Go.Proofs.YtekackglcapppaaDoor
open Go.RowKit

/-- Between two rounds: q records; the last one's bytes are those of the value vl. -/
def KeepsI (w wr : World) (s B hh b m q : Nat) (vl : Value) : Prop :=
  ∃ S j, MineS w wr s B hh S ∧ MineJ w wr s B hh b j ∧ Fine S j m ∧ j.s = q ∧ Byts w vl j.d ∧ ((q = 0 ∧ j.is = false) ∨ (0 < q ∧ j.is = true))
set_option maxHeartbeats 8000000 in
set_option maxRecDepth 10000 in
theorem keeps_any (size : Int) (hsz : -9223372036854775808 ≤ size ∧ size ≤ 9223372036854775807) (v : Value) (ls : List (List (BitVec 8))) (w : World) (hv : Els RB 1 w v ls) :
    Calls Tryd.prog 4 #[.int .i64 size, v] w fun e w' => e = .returned (.bool true) ∧ Below w.heap.size w w' := by
  obtain ⟨ra, rc, ev⟩ := hv.len
  have HV := Lib.hid hv
  clear hv
  subst ev
  obtain ⟨n, hn⟩ : ∃ n, n = ls.length := ⟨_, rfl⟩
  have HN := Lib.hid hn
  rw [← hn] at HV ⊢
  clear hn
  have HSM := Lib.hid (small_true w)
  obtain ⟨m, hm⟩ : ∃ m : Nat, (m : Int) = min (max size 0) 65536 := ⟨(min (max size 0) 65536).toNat, by omega⟩
  have HM0 := Lib.hid hm
  clear hm hsz
  go_enter Tryd.func4, Tryd.ntmps4
  go_wp2_with fail
  (with_reducible refine HSM.out.mono ?_)
  rintro e w1 ⟨rfl, hb⟩
  have HNEW := Lib.hid (new_S size m HM0.out hb)
  clear HSM hb
  go_wp2_with fail
  (with_reducible refine HNEW.out.mono ?_)
  rintro e w2 ⟨s, B, rfl, hM, _⟩
  have HM := Lib.hid hM
  clear hM HNEW
  by_cases g0 : 600 < size
  · have g0q : decide (600 < size) = true := by simp; omega
    clear g0
    go_wp2_with fail
    go_ret
    exact ⟨rfl, HM.out.bel⟩
  have g0q : decide (600 < size) = false := by simp; omega
  by_cases g1 : 60 < n
  · have g1q : decide ((60 : Int) < (n : Int)) = true := by simp; omega
    clear g1
    go_wp2_with fail
    go_ret
    exact ⟨rfl, HM.out.bel⟩
  have g1q : decide ((60 : Int) < (n : Int)) = false := by simp; omega
  have g1q' : decide (60 < n) = false := by simp; omega
  have HMB := Lib.hid (show m ≤ 600 ∧ (m : Int) = max size 0 by have := HM0.out; omega)
  have HNB := Lib.hid (show n ≤ 60 by omega)
  have HF0 := Lib.hid (Fine.new m)
  have HO := Lib.hid HM.out.open_
  rw [HF0.out.opn] at HO
  clear g0 g1 HM0
  go_wp2_with fail
  (with_reducible refine HO.out.mono ?_)
  rintro e w3 ⟨b, rfl, hJ, hb⟩
  have HI0 : Hid (KeepsI w w3 s B (m / 2) b m 0 (.slice none 0 0)) := Lib.hid ⟨_, _, HM.out.below hb, hJ, HF0.out, rfl, byts_nil w, .inl ⟨rfl, rfl⟩⟩
  obtain ⟨hh, hhe⟩ : ∃ hh, hh = m / 2 := ⟨_, rfl⟩
  have HH := Lib.hid hhe
  rw [← hhe] at HI0
  have m1 : ∀ (ts : Array TypeId) (t : TypeId) (w : World), (Builtin.max_ ts t #[.int .i64 size, .int .i64 0]).run Tryd.prog w = .ok (.int .i64 (m : Int)) w := fun ts t w => by
    rw [run_max_int2, show (if size < (0 : Int) then (0 : Int) else size) = (m : Int) by have := HMB.out; split <;> omega]
  have td : (m : Int).tdiv 2 = (hh : Int) := by rw [Int.tdiv_eq_ediv_of_nonneg (by omega)]; omega
  have tw : IntKind.i64.wrap (hh : Int) = (hh : Int) := by have := HMB.out; rw [IntKind.wrap_i64]; omega
  clear HO HM HF0 hJ hb g0q g1q g1q' hhe
  go_wp2_with fail
  go_loopw [8, 9, 10] (fun s8 s9 i wr => ∃ (k q : Nat) (a : Option Addr) (l c : Nat), k ≤ n ∧ q ≤ k ∧ i = .int .i64 (k : Int) ∧ s8 = .int .u32 (q : Int) ∧ s9 = .slice a l c ∧ Hid (KeepsI w wr s B hh b m q (.slice a l c))) (fun _ _ i _ => n - (intOf i).toNat)
  case atStart => exact ⟨0, 0, none, 0, 0, by omega, by omega, rfl, rfl, rfl, HI0⟩
  case round =>
    clear HI0
    obtain ⟨k, q, a, l, c, hk, hq, rfl, rfl, rfl, HI⟩ := hrel
    obtain ⟨S, j, hM, hJ, hf, hjs, hvl, hji⟩ := HI.out
    rcases Nat.lt_or_ge k n with hlt | hge
    · obtain ⟨d, hd⟩ : ∃ d, ls[k]? = some d := ⟨_, List.getElem?_eq_getElem (by rw [← HN.out]; exact hlt)⟩
      obtain ⟨gr, kr, er, hrb⟩ := HV.out.at_ hd
      subst er
      obtain ⟨⟨da, dc, hc0, hdb⟩, _⟩ := hrb
      rw [Nat.mul_one] at hc0
      obtain ⟨dn, hdn⟩ : ∃ dn, dn = d.length := ⟨_, rfl⟩
      rw [← hdn] at hc0 hdb
      have HC0 := Lib.hid hc0
      have HD := Lib.hid hdb
      have HDN := Lib.hid hdn
      have hc := below_cell hM.bel hc0
      have hki : (k : Int) < (n : Int) := by omega
      have hk0 : (0 : Int) ≤ (k : Int) := by omega
      have hkb : (k : Int) ≤ 60 := by have := HNB.out; omega
      have hQL : q ≤ 60 := by have := HNB.out; omega
      have HQL := Lib.hid hQL
      clear hc0 hdb hd hdn hQL
      by_cases d1 : dn = 0
      · rcases hji with ⟨hq0, hji⟩ | ⟨hq0, hji⟩
        · have gq : decide ((0 : Int) < (q : Int)) = false := by simp; omega
          have gq' : decide (0 < q) = false := by simp; omega
          have HQ := Lib.hid hq0
          clear hq0
          have f1 : decide ((1 : Int) ≤ (dn : Int)) = false := by simp; omega
          have f1' : decide (1 ≤ dn) = false := by simp; omega
          have f1'' : decide (0 < dn) = false := by simp; omega
          have HDZ := Lib.hid d1
          clear d1
          have HA := Lib.hid (hM.append hJ _ d (hJ.old hM HD.out) 1 (hf.no (by have := HDZ.out; have := HDN.out; unfold jcode; rw [if_pos (by omega)]) (by decide)))
          have HF := Lib.hid hf
          have HJS := Lib.hid hjs
          have HVL := Lib.hid hvl
          have HIS := Lib.hid hji
          clear hM hJ hf hjs hvl hji HI
          go_wp2_with fail
          (with_reducible refine HA.out.mono ?_)
          rintro e w4 ⟨u, rfl, he, hM, hJ, hkk⟩
          obtain ⟨gu, rfl⟩ := he.some (by decide)
          have HM4 := Lib.hid hM
          have HJ4 := Lib.hid hJ
          have hc4 := below_cell hM.bel HC0.out
          clear HA he hM hJ hkk hc

          have HL := Lib.hid HJ4.out.last
          rw [HIS.out] at HL
          go_wp2_with fail
          (with_reducible refine HL.out.mono ?_)
          rintro e w5 ⟨v5, rfl, ho, hb⟩
          obtain ⟨a5, c5, e5⟩ := ho.byts.len
          obtain ⟨l5, hl5⟩ : ∃ l5, l5 = (j.d).length := ⟨_, rfl⟩
          rw [← hl5] at e5
          subst e5
          have HM5 := Lib.hid (HM4.out.below hb)
          have HJ5 := Lib.hid (HJ4.out.below hb)
          have tv := txt_run _ _ _ ho.byts
          have tl := txt_run _ w5 _ (HVL.out.below HM5.out.bel)
          generalize txt (j.d) = TT at tv tl
          have tt : (TT.toList == TT.toList) = true := by simp
          have HSQ := Lib.hid (HJ5.out.seq q HJS.out)
          clear HL HM4 HJ4 ho hb hl5
          go_wp2_with fail
          (with_reducible refine HSQ.out.mono ?_)
          rintro e w' ⟨rfl, rfl⟩
          clear tv tl tt
          go_wp2_with fail
          go_roundw
          case rel => exact ⟨k + 1, q, a, l, c, by omega, by omega, by go_num, rfl, rfl, Lib.hid ⟨S, j, HM5.out, HJ5.out, HF.out, HJS.out, HVL.out, .inl ⟨HQ.out, HIS.out⟩⟩⟩
          case measure => simp [intOf]; omega
        · have gq : decide ((0 : Int) < (q : Int)) = true := by simp; omega
          have gq' : decide (0 < q) = true := by simp; omega
          have HQ := Lib.hid hq0
          clear hq0
          have f1 : decide ((1 : Int) ≤ (dn : Int)) = false := by simp; omega
          have f1' : decide (1 ≤ dn) = false := by simp; omega
          have f1'' : decide (0 < dn) = false := by simp; omega
          have HDZ := Lib.hid d1
          clear d1
          have HA := Lib.hid (hM.append hJ _ d (hJ.old hM HD.out) 1 (hf.no (by have := HDZ.out; have := HDN.out; unfold jcode; rw [if_pos (by omega)]) (by decide)))
          have HF := Lib.hid hf
          have HJS := Lib.hid hjs
          have HVL := Lib.hid hvl
          have HIS := Lib.hid hji
          clear hM hJ hf hjs hvl hji HI
          go_wp2_with fail
          (with_reducible refine HA.out.mono ?_)
          rintro e w4 ⟨u, rfl, he, hM, hJ, hkk⟩
          obtain ⟨gu, rfl⟩ := he.some (by decide)
          have HM4 := Lib.hid hM
          have HJ4 := Lib.hid hJ
          have hc4 := below_cell hM.bel HC0.out
          clear HA he hM hJ hkk hc

          have HL := Lib.hid HJ4.out.last
          rw [HIS.out] at HL
          go_wp2_with fail
          (with_reducible refine HL.out.mono ?_)
          rintro e w5 ⟨v5, rfl, ho, hb⟩
          obtain ⟨a5, c5, e5⟩ := ho.byts.len
          obtain ⟨l5, hl5⟩ : ∃ l5, l5 = (j.d).length := ⟨_, rfl⟩
          rw [← hl5] at e5
          subst e5
          have HM5 := Lib.hid (HM4.out.below hb)
          have HJ5 := Lib.hid (HJ4.out.below hb)
          have tv := txt_run _ _ _ ho.byts
          have tl := txt_run _ w5 _ (HVL.out.below HM5.out.bel)
          generalize txt (j.d) = TT at tv tl
          have tt : (TT.toList == TT.toList) = true := by simp
          have HSQ := Lib.hid (HJ5.out.seq q HJS.out)
          clear HL HM4 HJ4 ho hb hl5
          go_wp2_with fail
          (with_reducible refine HSQ.out.mono ?_)
          rintro e w' ⟨rfl, rfl⟩
          clear tv tl tt
          go_wp2_with fail
          go_roundw
          case rel => exact ⟨k + 1, q, a, l, c, by omega, by omega, by go_num, rfl, rfl, Lib.hid ⟨S, j, HM5.out, HJ5.out, HF.out, HJS.out, HVL.out, .inr ⟨HQ.out, HIS.out⟩⟩⟩
          case measure => simp [intOf]; omega
      by_cases d2 : 40 < dn
      · rcases hji with ⟨hq0, hji⟩ | ⟨hq0, hji⟩
        · have gq : decide ((0 : Int) < (q : Int)) = false := by simp; omega
          have gq' : decide (0 < q) = false := by simp; omega
          have HQ := Lib.hid hq0
          clear hq0
          have f1 : decide ((1 : Int) ≤ (dn : Int)) = true := by simp; omega
          have f1' : decide (1 ≤ dn) = true := by simp; omega
          have f1'' : decide (0 < dn) = true := by simp; omega
          have f2 : decide ((dn : Int) ≤ 40) = false := by simp; omega
          have f2' : decide (dn ≤ 40) = false := by simp; omega
          have HDZ := Lib.hid d2
          clear d1 d2
          have HA := Lib.hid (hM.append hJ _ d (hJ.old hM HD.out) 1 (hf.no (by have := HDZ.out; have := HDN.out; unfold jcode; rw [if_pos (by omega)]) (by decide)))
          have HF := Lib.hid hf
          have HJS := Lib.hid hjs
          have HVL := Lib.hid hvl
          have HIS := Lib.hid hji
          clear hM hJ hf hjs hvl hji HI
          go_wp2_with fail
          (with_reducible refine HA.out.mono ?_)
          rintro e w4 ⟨u, rfl, he, hM, hJ, hkk⟩
          obtain ⟨gu, rfl⟩ := he.some (by decide)
          have HM4 := Lib.hid hM
          have HJ4 := Lib.hid hJ
          have hc4 := below_cell hM.bel HC0.out
          clear HA he hM hJ hkk hc

          have HL := Lib.hid HJ4.out.last
          rw [HIS.out] at HL
          go_wp2_with fail
          (with_reducible refine HL.out.mono ?_)
          rintro e w5 ⟨v5, rfl, ho, hb⟩
          obtain ⟨a5, c5, e5⟩ := ho.byts.len
          obtain ⟨l5, hl5⟩ : ∃ l5, l5 = (j.d).length := ⟨_, rfl⟩
          rw [← hl5] at e5
          subst e5
          have HM5 := Lib.hid (HM4.out.below hb)
          have HJ5 := Lib.hid (HJ4.out.below hb)
          have tv := txt_run _ _ _ ho.byts
          have tl := txt_run _ w5 _ (HVL.out.below HM5.out.bel)
          generalize txt (j.d) = TT at tv tl
          have tt : (TT.toList == TT.toList) = true := by simp
          have HSQ := Lib.hid (HJ5.out.seq q HJS.out)
          clear HL HM4 HJ4 ho hb hl5
          go_wp2_with fail
          (with_reducible refine HSQ.out.mono ?_)
          rintro e w' ⟨rfl, rfl⟩
          clear tv tl tt
          go_wp2_with fail
          go_roundw
          case rel => exact ⟨k + 1, q, a, l, c, by omega, by omega, by go_num, rfl, rfl, Lib.hid ⟨S, j, HM5.out, HJ5.out, HF.out, HJS.out, HVL.out, .inl ⟨HQ.out, HIS.out⟩⟩⟩
          case measure => simp [intOf]; omega
        · have gq : decide ((0 : Int) < (q : Int)) = true := by simp; omega
          have gq' : decide (0 < q) = true := by simp; omega
          have HQ := Lib.hid hq0
          clear hq0
          have f1 : decide ((1 : Int) ≤ (dn : Int)) = true := by simp; omega
          have f1' : decide (1 ≤ dn) = true := by simp; omega
          have f1'' : decide (0 < dn) = true := by simp; omega
          have f2 : decide ((dn : Int) ≤ 40) = false := by simp; omega
          have f2' : decide (dn ≤ 40) = false := by simp; omega
          have HDZ := Lib.hid d2
          clear d1 d2
          have HA := Lib.hid (hM.append hJ _ d (hJ.old hM HD.out) 1 (hf.no (by have := HDZ.out; have := HDN.out; unfold jcode; rw [if_pos (by omega)]) (by decide)))
          have HF := Lib.hid hf
          have HJS := Lib.hid hjs
          have HVL := Lib.hid hvl
          have HIS := Lib.hid hji
          clear hM hJ hf hjs hvl hji HI
          go_wp2_with fail
          (with_reducible refine HA.out.mono ?_)
          rintro e w4 ⟨u, rfl, he, hM, hJ, hkk⟩
          obtain ⟨gu, rfl⟩ := he.some (by decide)
          have HM4 := Lib.hid hM
          have HJ4 := Lib.hid hJ
          have hc4 := below_cell hM.bel HC0.out
          clear HA he hM hJ hkk hc

          have HL := Lib.hid HJ4.out.last
          rw [HIS.out] at HL
          go_wp2_with fail
          (with_reducible refine HL.out.mono ?_)
          rintro e w5 ⟨v5, rfl, ho, hb⟩
          obtain ⟨a5, c5, e5⟩ := ho.byts.len
          obtain ⟨l5, hl5⟩ : ∃ l5, l5 = (j.d).length := ⟨_, rfl⟩
          rw [← hl5] at e5
          subst e5
          have HM5 := Lib.hid (HM4.out.below hb)
          have HJ5 := Lib.hid (HJ4.out.below hb)
          have tv := txt_run _ _ _ ho.byts
          have tl := txt_run _ w5 _ (HVL.out.below HM5.out.bel)
          generalize txt (j.d) = TT at tv tl
          have tt : (TT.toList == TT.toList) = true := by simp
          have HSQ := Lib.hid (HJ5.out.seq q HJS.out)
          clear HL HM4 HJ4 ho hb hl5
          go_wp2_with fail
          (with_reducible refine HSQ.out.mono ?_)
          rintro e w' ⟨rfl, rfl⟩
          clear tv tl tt
          go_wp2_with fail
          go_roundw
          case rel => exact ⟨k + 1, q, a, l, c, by omega, by omega, by go_num, rfl, rfl, Lib.hid ⟨S, j, HM5.out, HJ5.out, HF.out, HJS.out, HVL.out, .inr ⟨HQ.out, HIS.out⟩⟩⟩
          case measure => simp [intOf]; omega
      by_cases d3 : hh < dn + 8
      · rcases hji with ⟨hq0, hji⟩ | ⟨hq0, hji⟩
        · have gq : decide ((0 : Int) < (q : Int)) = false := by simp; omega
          have gq' : decide (0 < q) = false := by simp; omega
          have HQ := Lib.hid hq0
          clear hq0
          have f1 : decide ((1 : Int) ≤ (dn : Int)) = true := by simp; omega
          have f1' : decide (1 ≤ dn) = true := by simp; omega
          have f1'' : decide (0 < dn) = true := by simp; omega
          have f2 : decide ((dn : Int) ≤ 40) = true := by simp; omega
          have f2' : decide (dn ≤ 40) = true := by simp; omega
          obtain ⟨t, ht⟩ : ∃ t, t = dn + 8 := ⟨_, rfl⟩
          have f3 : IntKind.i64.wrap ((dn : Int) + 8) = (t : Int) := by rw [IntKind.wrap_i64]; omega
          have f4 : decide ((t : Int) ≤ (hh : Int)) = false := by simp; omega
          have f4' : decide (t ≤ hh) = false := by simp; omega
          have HDZ := Lib.hid (show 1 ≤ dn ∧ dn ≤ 40 by omega)
          have HT := Lib.hid (show hh < dn + 8 by omega)
          clear d1 d2 d3 ht
          have HA := Lib.hid (hM.append hJ _ d (hJ.old hM HD.out) 5 (hf.no (by have := HDZ.out; have := HDN.out; have := HT.out; have := HH.out; unfold jcode; rw [if_neg (by omega), if_pos (by omega)]) (by decide)))
          have HF := Lib.hid hf
          have HJS := Lib.hid hjs
          have HVL := Lib.hid hvl
          have HIS := Lib.hid hji
          clear hM hJ hf hjs hvl hji HI
          go_wp2_with fail
          (with_reducible refine HA.out.mono ?_)
          rintro e w4 ⟨u, rfl, he, hM, hJ, hkk⟩
          obtain ⟨gu, rfl⟩ := he.some (by decide)
          have HM4 := Lib.hid hM
          have HJ4 := Lib.hid hJ
          have hc4 := below_cell hM.bel HC0.out
          clear HA he hM hJ hkk hc

          have HL := Lib.hid HJ4.out.last
          rw [HIS.out] at HL
          go_wp2_with fail
          (with_reducible refine HL.out.mono ?_)
          rintro e w5 ⟨v5, rfl, ho, hb⟩
          obtain ⟨a5, c5, e5⟩ := ho.byts.len
          obtain ⟨l5, hl5⟩ : ∃ l5, l5 = (j.d).length := ⟨_, rfl⟩
          rw [← hl5] at e5
          subst e5
          have HM5 := Lib.hid (HM4.out.below hb)
          have HJ5 := Lib.hid (HJ4.out.below hb)
          have tv := txt_run _ _ _ ho.byts
          have tl := txt_run _ w5 _ (HVL.out.below HM5.out.bel)
          generalize txt (j.d) = TT at tv tl
          have tt : (TT.toList == TT.toList) = true := by simp
          have HSQ := Lib.hid (HJ5.out.seq q HJS.out)
          clear HL HM4 HJ4 ho hb hl5
          go_wp2_with fail
          (with_reducible refine HSQ.out.mono ?_)
          rintro e w' ⟨rfl, rfl⟩
          clear tv tl tt
          go_wp2_with fail
          go_roundw
          case rel => exact ⟨k + 1, q, a, l, c, by omega, by omega, by go_num, rfl, rfl, Lib.hid ⟨S, j, HM5.out, HJ5.out, HF.out, HJS.out, HVL.out, .inl ⟨HQ.out, HIS.out⟩⟩⟩
          case measure => simp [intOf]; omega
        · have gq : decide ((0 : Int) < (q : Int)) = true := by simp; omega
          have gq' : decide (0 < q) = true := by simp; omega
          have HQ := Lib.hid hq0
          clear hq0
          have f1 : decide ((1 : Int) ≤ (dn : Int)) = true := by simp; omega
          have f1' : decide (1 ≤ dn) = true := by simp; omega
          have f1'' : decide (0 < dn) = true := by simp; omega
          have f2 : decide ((dn : Int) ≤ 40) = true := by simp; omega
          have f2' : decide (dn ≤ 40) = true := by simp; omega
          obtain ⟨t, ht⟩ : ∃ t, t = dn + 8 := ⟨_, rfl⟩
          have f3 : IntKind.i64.wrap ((dn : Int) + 8) = (t : Int) := by rw [IntKind.wrap_i64]; omega
          have f4 : decide ((t : Int) ≤ (hh : Int)) = false := by simp; omega
          have f4' : decide (t ≤ hh) = false := by simp; omega
          have HDZ := Lib.hid (show 1 ≤ dn ∧ dn ≤ 40 by omega)
          have HT := Lib.hid (show hh < dn + 8 by omega)
          clear d1 d2 d3 ht
          have HA := Lib.hid (hM.append hJ _ d (hJ.old hM HD.out) 5 (hf.no (by have := HDZ.out; have := HDN.out; have := HT.out; have := HH.out; unfold jcode; rw [if_neg (by omega), if_pos (by omega)]) (by decide)))
          have HF := Lib.hid hf
          have HJS := Lib.hid hjs
          have HVL := Lib.hid hvl
          have HIS := Lib.hid hji
          clear hM hJ hf hjs hvl hji HI
          go_wp2_with fail
          (with_reducible refine HA.out.mono ?_)
          rintro e w4 ⟨u, rfl, he, hM, hJ, hkk⟩
          obtain ⟨gu, rfl⟩ := he.some (by decide)
          have HM4 := Lib.hid hM
          have HJ4 := Lib.hid hJ
          have hc4 := below_cell hM.bel HC0.out
          clear HA he hM hJ hkk hc

          have HL := Lib.hid HJ4.out.last
          rw [HIS.out] at HL
          go_wp2_with fail
          (with_reducible refine HL.out.mono ?_)
          rintro e w5 ⟨v5, rfl, ho, hb⟩
          obtain ⟨a5, c5, e5⟩ := ho.byts.len
          obtain ⟨l5, hl5⟩ : ∃ l5, l5 = (j.d).length := ⟨_, rfl⟩
          rw [← hl5] at e5
          subst e5
          have HM5 := Lib.hid (HM4.out.below hb)
          have HJ5 := Lib.hid (HJ4.out.below hb)
          have tv := txt_run _ _ _ ho.byts
          have tl := txt_run _ w5 _ (HVL.out.below HM5.out.bel)
          generalize txt (j.d) = TT at tv tl
          have tt : (TT.toList == TT.toList) = true := by simp
          have HSQ := Lib.hid (HJ5.out.seq q HJS.out)
          clear HL HM4 HJ4 ho hb hl5
          go_wp2_with fail
          (with_reducible refine HSQ.out.mono ?_)
          rintro e w' ⟨rfl, rfl⟩
          clear tv tl tt
          go_wp2_with fail
          go_roundw
          case rel => exact ⟨k + 1, q, a, l, c, by omega, by omega, by go_num, rfl, rfl, Lib.hid ⟨S, j, HM5.out, HJ5.out, HF.out, HJS.out, HVL.out, .inr ⟨HQ.out, HIS.out⟩⟩⟩
          case measure => simp [intOf]; omega
      have f1 : decide ((1 : Int) ≤ (dn : Int)) = true := by simp; omega
      have f1' : decide (1 ≤ dn) = true := by simp; omega
      have f1'' : decide (0 < dn) = true := by simp; omega
      have f2 : decide ((dn : Int) ≤ 40) = true := by simp; omega
      have f2' : decide (dn ≤ 40) = true := by simp; omega
      obtain ⟨t, ht⟩ : ∃ t, t = dn + 8 := ⟨_, rfl⟩
      have f3 : IntKind.i64.wrap ((dn : Int) + 8) = (t : Int) := by rw [IntKind.wrap_i64]; omega
      have f4 : decide ((t : Int) ≤ (hh : Int)) = true := by simp; omega
      have f4' : decide (t ≤ hh) = true := by simp; omega
      have HDZ := Lib.hid (show 1 ≤ dn ∧ dn ≤ 40 by omega)
      have HT := Lib.hid (show dn + 8 ≤ hh by omega)
      clear d1 d2 d3 ht
      obtain ⟨S', k', e', hp, hf'⟩ := hf.ok (d := d) (by have := HDZ.out; have := HDN.out; have := HT.out; have := HH.out; have := HQL.out; unfold jcode; rw [if_neg (by omega), if_neg (by omega)])
      have HA := Lib.hid (hM.append hJ _ d (hJ.old hM HD.out) 0 hp)
      have HF := Lib.hid hf'
      obtain ⟨q1, hq1⟩ : ∃ q1, q1 = q + 1 := ⟨_, rfl⟩
      have hqw : IntKind.u32.wrap ((q : Int) + 1) = (q1 : Int) := by have := HQL.out; rw [IntKind.wrap_u32]; omega
      have gq : decide ((0 : Int) < (q1 : Int)) = true := by simp; omega
      have gq' : decide (0 < q1) = true := by simp; omega
      obtain ⟨js, hjs1⟩ : ∃ js, js = j.s + 1 := ⟨_, rfl⟩
      rw [← hjs1] at HA HF
      have HJS : Hid (js = q1) := Lib.hid (by omega)
      have HQ := Lib.hid (show 0 < q1 by omega)
      have HVL := Lib.hid HD.out
      have HQ1 := Lib.hid hq1
      clear hM hJ hf hjs hvl hji HI hp hf' hjs1 hq1
      go_wp2_with fail
      (with_reducible refine HA.out.mono ?_)
      rintro e w4 ⟨u, rfl, he, hM, hJ, hkk⟩
      obtain rfl := he.nil
      have HM4 := Lib.hid hM
      have HJ4 := Lib.hid hJ
      have hc4 := below_cell hM.bel HC0.out
      clear HA he hM hJ hkk hc

      have HL := Lib.hid HJ4.out.last

      go_wp2_with fail
      (with_reducible refine HL.out.mono ?_)
      rintro e w5 ⟨v5, rfl, ho, hb⟩
      obtain ⟨a5, c5, e5⟩ := ho.byts.len
      obtain ⟨l5, hl5⟩ : ∃ l5, l5 = (d).length := ⟨_, rfl⟩
      rw [← hl5] at e5
      subst e5
      have HM5 := Lib.hid (HM4.out.below hb)
      have HJ5 := Lib.hid (HJ4.out.below hb)
      have tv := txt_run _ _ _ ho.byts
      have tl := txt_run _ w5 _ (HVL.out.below HM5.out.bel)
      generalize txt (d) = TT at tv tl
      have tt : (TT.toList == TT.toList) = true := by simp
      have HSQ := Lib.hid (HJ5.out.seq q1 HJS.out)
      clear HL HM4 HJ4 ho hb hl5
      go_wp2_with fail
      (with_reducible refine HSQ.out.mono ?_)
      rintro e w' ⟨rfl, rfl⟩
      clear tv tl tt
      go_wp2_with fail
      go_roundw
      case rel => exact ⟨k + 1, q1, da, dn, dc, by omega, by have := HQ1.out; omega, by go_num, rfl, rfl, Lib.hid ⟨S', _, HM5.out, HJ5.out, HF.out, HJS.out, HVL.out, .inr ⟨HQ.out, rfl⟩⟩⟩
      case measure => simp [intOf]; omega
    · obtain rfl : k = n := by omega
      have HB := Lib.hid hM.bel
      clear hge hk hM hJ hf hjs hvl hji HI
      go_wp2_with fail
      go_ret
      exact ⟨rfl, HB.out⟩
end Go.Proofs.YtekackglcapppaaDoor
