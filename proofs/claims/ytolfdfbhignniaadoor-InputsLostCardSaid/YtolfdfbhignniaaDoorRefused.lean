/-
  The walk of crossbucklaw14.InputsRefused: true, whatever it is given.
-/
import Derived.Test.YtolfdfbhignniaaDoorSmall
import Derived.Test.YtolfdfbhignniaaDoorInTk
import Derived.Test.YtolfdfbhignniaaDoorBase

namespace Go.Proofs.YtolfdfbhignniaaDoor
open Go.RowKit

variable {w wr w2 : World} {b x F t : Nat} {f : Nat → Ch}
/-- One, with nothing besides. -/
abbrev Alone (w : World) (b x F t : Nat) (wr : World) (f : Nat → Ch) : Prop := One w b x F t (fun _ => True) wr f
theorem chs_alone (hb : w.heap.size ≤ b) (hx : x ≠ b) (ht : 1 ≤ t ∧ t ≤ 8) : Chs true 98 58 w b x F t (Alone w b x F t) := chs_one hb hx ht fun _ _ _ _ => trivial
/-- A row among the arguments, at whatever world behind. -/
theorem row_at {v : Value} {ls : List (List (List (BitVec 8)))} {a : Option Addr} {L c : Nat} (hv : Els RRows 1 w (.slice a L c) ls) {i : Nat} {ys : List (List (BitVec 8))} (hy : ls[i]? = some ys) :
    ∃ g o a1 c1, a = some ⟨g, o, none⟩ ∧ ys.length ≤ maxLen ∧ ∀ W, Below w.heap.size w W → W.cell? ⟨g, o + i, none⟩ = some (.slice a1 ys.length c1) ∧ Els RB 1 W (.slice a1 ys.length c1) ys := by
  have _ := v
  obtain ⟨g, o, ea, a1, c1, h1, h2, h3⟩ := hv.at_ hy
  rw [Nat.mul_one] at h1
  exact ⟨g, o, a1, c1, ea, h3, fun W hb => ⟨below_cell hb h1, h2.below fun _ _ _ hr => hr.below hb⟩⟩
theorem tells_len (F t : Nat) (f : Nat → Ch) : (tells F t f).ts.length = t := by simp [tells]

set_option maxHeartbeats 4000000 in
set_option maxRecDepth 10000 in
theorem refused_out (tracks fresh : Int) (v : Value) (ls : List (List (List (BitVec 8)))) (w : World) (hv : Els RRows 1 w v ls) (hl : ls.length ≤ maxLen) (u : Value) (bs : List (BitVec 8)) (hu : Byts w u bs) (hb : 500 < bs.length) :
    Calls Tryd.prog 6 #[.int .i64 tracks, .int .i64 fresh, v, u] w fun e w' => e = .returned (.bool true) ∧ Below w.heap.size w w' := by
  obtain ⟨F, hF⟩ := fresh_nat fresh
  obtain ⟨t, ht, _⟩ := tracks_nat tracks
  obtain ⟨au, cu, eu⟩ := hu.len
  obtain ⟨av, cv, ev⟩ := hv.len
  have HFE := Lib.hid (fun W (hb : Below w.heap.size w W) => few_any v ls W (hv.below fun _ _ _ hr => hr.below hb) hl)
  have HF := Lib.hid hF
  have HT := Lib.hid ht
  have q0 : decide ((500 : Int) < (bs.length : Int)) = true := by simp; omega
  clear hF ht hu hb hv hl
  subst eu ev
  go_enter Tryd.func6, Tryd.ntmps6
  go_wp2_with fail
  (with_reducible refine (small_true w).mono ?_)
  rintro e w1 ⟨rfl, hb⟩
  have HB := Lib.hid hb
  clear hb
  go_wp2_with fail
  (with_reducible refine (HFE.out w1 HB.out).mono ?_)
  rintro e w2 ⟨ok, rfl, hw⟩
  cases hw
  go_wp2_with fail
  (with_reducible refine (in_new tracks fresh F t HF.out HT.out HB.out).mono ?_)
  rintro e w2 ⟨x, rfl, b, _, _, hl, _⟩
  have HL := Lib.hid hl.bel
  clear hl
  cases ok with
  | true => go_wp2_with fail; go_ret; exact ⟨rfl, HL.out⟩
  | false => go_wp2_with fail; go_ret; exact ⟨rfl, HL.out⟩
set_option maxHeartbeats 8000000 in
set_option maxRecDepth 10000 in
theorem refused_main (tracks fresh : Int) (v : Value) (ls : List (List (List (BitVec 8)))) (w : World) (hv : Els RRows 1 w v ls) (hl : ls.length ≤ maxLen) (u : Value) (bs : List (BitVec 8)) (hu : Byts w u bs) (hbs : bs.length ≤ 500) :
    Calls Tryd.prog 6 #[.int .i64 tracks, .int .i64 fresh, v, u] w fun e w' => e = .returned (.bool true) ∧ Below w.heap.size w w' := by
  obtain ⟨F, hF⟩ := fresh_nat fresh
  obtain ⟨t, ht, ht1⟩ := tracks_nat tracks
  obtain ⟨au, cu, eu⟩ := hu.len
  obtain ⟨a0, c0, ev⟩ := hv.len
  have HFE := Lib.hid (fun W (hb : Below w.heap.size w W) => few_any v ls W (hv.below fun _ _ _ hr => hr.below hb) hl)
  obtain ⟨L, HL⟩ : ∃ L, Hid (L = ls.length) := ⟨_, Lib.hid rfl⟩
  rw [← HL.out] at ev hl
  have hl : L ≤ 9223372036854775807 := hl
  have HLL := Lib.hid hl
  have HF := Lib.hid hF
  have HT := Lib.hid ht
  have HT1 := Lib.hid ht1
  have HV := Lib.hid hv
  have HU := Lib.hid hu
  have HBS := Lib.hid (show bs.length ≤ 140737488351232 by omega)
  have q0 : decide ((500 : Int) < (bs.length : Int)) = false := by simp; omega
  obtain ⟨nb, hnb⟩ : ∃ nb, nb = bs.length := ⟨_, rfl⟩
  rw [← hnb] at q0 eu
  clear hF ht ht1 hu hbs hv hl hnb
  subst eu ev
  go_enter Tryd.func6, Tryd.ntmps6
  go_wp2_with fail
  (with_reducible refine (small_true w).mono ?_)
  rintro e w1 ⟨rfl, hb⟩
  have HB := Lib.hid hb
  clear hb
  go_wp2_with fail
  (with_reducible refine (HFE.out w1 HB.out).mono ?_)
  rintro e w2 ⟨ok, rfl, hw⟩
  cases hw
  go_wp2_with fail
  (with_reducible refine (in_new tracks fresh F t HF.out HT.out HB.out).mono ?_)
  rintro e w2 ⟨x, rfl, b, hxb, hwb, hl2, hx, _⟩
  have HC := Lib.hid (chs_alone (F := F) hwb hxb HT1.out)
  have HI := Lib.hid (show Alone w b x F t w2 (fun _ => noCh) from ⟨hl2, hx, trivial⟩)
  clear hxb hwb hl2 hx HB HFE
  cases ok with
  | false => go_wp2_with fail; go_ret; exact ⟨rfl, HC.out.bel _ _ HI.out⟩
  | true =>
    go_wp2_with fail
    go_loopw [12] (fun u12 wx => ∃ (i : Nat) (f : Nat → Ch), i ≤ L ∧ u12 = .int .i64 (i : Int) ∧ Hid (Alone w b x F t wx f)) (fun u12 _ => L - (intOf u12).toNat)
    case atStart => exact ⟨0, _, by omega, rfl, HI⟩
    case round =>
      obtain ⟨i, f, hi, rfl, HIr⟩ := hrel
      clear HI
      by_cases hlt : i < L
      · have hlz : (i : Int) < (L : Int) := by omega
        have hi0 : (0 : Int) ≤ (i : Int) := by omega
        obtain ⟨ys, hy⟩ : ∃ ys, ls[i]? = some ys := ⟨_, List.getElem?_eq_getElem (by rw [← HL.out]; exact hlt)⟩
        obtain ⟨g, o, a1, c1, ea, hm, hr⟩ := row_at (v := .nilIface) HV.out hy
        subst ea
        have hcell := (hr _ (HC.out.bel _ _ HIr.out)).1
        obtain ⟨⟨f2, n2⟩, hst⟩ : ∃ p, stp14 F f ys = p := ⟨_, rfl⟩
        have HST := Lib.hid (in_step HC.out HIr.out _ ys (fun wr f h => (hr wr (HC.out.bel _ _ h)).2) hm f2 n2 hst)
        obtain ⟨M, hM⟩ : ∃ M, M = ys.length := ⟨_, rfl⟩
        rw [← hM] at hcell HST
        have hw12 : IntKind.i64.wrap ((i : Int) + 1) = (i : Int) + 1 := by have := HLL.out; rw [IntKind.wrap_i64]; omega
        clear hy hm hr hst hM
        go_wp2_with fail
        (with_reducible refine HST.out.mono ?_)
        rintro e w5 ⟨rfl, hii, _⟩
        have HI5 := Lib.hid hii
        clear hii
        go_wp2_with fail
        go_roundw
        case rel => exact ⟨i + 1, f2, by omega, by go_num, HI5⟩
        case measure => simp [intOf]; omega
      · have hlz : (L : Int) ≤ (i : Int) := by omega
        obtain ⟨⟨a, b', c, d, s, l, o, m, mn, bt, r, ts⟩, hD⟩ : ∃ D, tells F t f = D := ⟨_, rfl⟩
        have HD := Lib.hid hD
        have HTL := Lib.hid (show ts.length ≤ 1000 by have := tells_len F t f; rw [hD] at this; simp only at this; have := HT1.out; omega)
        clear hD hi hlt
        go_wp2_with fail
        (with_reducible refine (in_now HC.out HIr.out _ _ _ _ _ _ _ _ _ _ _ _ HD.out).mono ?_)
        rintro e w3 ⟨v, rfl, hc, hb⟩
        obtain ⟨a1, c1, ev⟩ := hc.1.len
        obtain ⟨n, hn⟩ : ∃ n, n = ts.length := ⟨_, rfl⟩
        rw [← hn] at ev
        subst ev
        have HK := Lib.hid (kept_new #[.bool a, .bool b', .bool c, .bool d, .bool s, .bool l, .bool o, .int .i64 m, .bool mn, .bool bt, .int .i64 r, .slice a1 n c1] hc (HC.out.blt HIr.out).1 (Nat.lt_of_lt_of_le (HC.out.blt HIr.out).1 hb.size))
        have hbb := below_alloc hb (.cells #[.bool a, .bool b', .bool c, .bool d, .bool s, .bool l, .bool o, .int .i64 m, .bool mn, .bool bt, .int .i64 r, .slice a1 n c1] 36)
        have HI3 := Lib.hid (HC.out.still HIr.out hbb)
        have HU3 := Lib.hid (HU.out.below (HC.out.bel _ _ HI3.out))
        clear hc hb hbb hn HIr
        go_upto_region 11 with fail
        generalize w3.heap.size = g0 at *
        generalize w3.alloc (.cells #[.bool a, .bool b', .bool c, .bool d, .bool s, .bool l, .bool o, .int .i64 m, .bool mn, .bool bt, .int .i64 r, .slice a1 n c1] 36) = w4 at *
        have HTK := Lib.hid (in_take HC.out HI3.out _ bs HU3.out HBS.out)
        by_cases hk : icode F f bs = 0
        · rw [hk] at HTK
          clear hk HD HTL
          go_wp2_with fail
          (with_reducible refine HTK.out.mono ?_)
          rintro e w5 ⟨e5, rfl, he, hii, hkk⟩
          obtain rfl := he.nil
          have HI5 := Lib.hid hii
          clear he hii hkk HTK HK HI3
          obtain ⟨⟨A, B, C, D, S, L', O, M, MN, BT, R, TS⟩, hD⟩ : ∃ D, tells F t (itaken F f bs) = D := ⟨_, rfl⟩
          have HD := Lib.hid hD
          clear hD
          go_wp2_with fail
          (with_reducible refine (in_now HC.out HI5.out _ _ _ _ _ _ _ _ _ _ _ _ HD.out).mono ?_)
          rintro e w6 ⟨v, rfl, hc, hb⟩
          obtain ⟨a2, c2, ev⟩ := hc.1.len
          subst ev
          have HB6 := Lib.hid (HC.out.bel _ _ (HC.out.still HI5.out (below_alloc hb (.cells #[.bool A, .bool B, .bool C, .bool D, .bool S, .bool L', .bool O, .int .i64 M, .bool MN, .bool BT, .int .i64 R, .slice a2 TS.length c2] 36))))
          clear hc hb
          go_wp2_with fail
          go_ret
          exact ⟨rfl, HB6.out⟩
        · obtain ⟨hf, h99⟩ := icode_off (F := F) (f := f) (b := bs) hk
          rw [hf] at HTK
          obtain ⟨kk, HKK⟩ : ∃ kk, Hid (kk = icode F f bs) := ⟨_, Lib.hid rfl⟩
          rw [← HKK.out] at HTK hk h99
          have HK0 := Lib.hid hk
          have k0 : (kk != 0) = true := by simpa using hk
          have k1 : (kk != 99) = true := by simpa using h99
          clear hk h99 hf HKK
          go_wp2_with fail
          (with_reducible refine HTK.out.mono ?_)
          rintro e w5 ⟨e5, rfl, he, hii, hkk⟩
          obtain ⟨g5, rfl, hg⟩ := he.not HK0.out
          have HI5 := Lib.hid hii
          have HG5 := Lib.hid hg
          have HK5 := Lib.hid (HK.out.keep hkk)
          clear he hii hkk hg HTK HK HI3
          go_wp2_with fail
          (with_reducible refine (in_now HC.out HI5.out _ _ _ _ _ _ _ _ _ _ _ _ HD.out).mono ?_)
          rintro e w6 ⟨v, rfl, hc, hb⟩
          obtain ⟨a2, c2, ev⟩ := hc.1.len
          obtain ⟨n2, hn2⟩ : ∃ n, n = ts.length := ⟨_, rfl⟩
          rw [← hn2] at ev
          subst ev
          have hbb := below_alloc hb (.cells #[.bool a, .bool b', .bool c, .bool d, .bool s, .bool l, .bool o, .int .i64 m, .bool mn, .bool bt, .int .i64 r, .slice a2 n2 c2] 36)
          have HX6 := Lib.hid (blk_new w6 #[.bool a, .bool b', .bool c, .bool d, .bool s, .bool l, .bool o, .int .i64 m, .bool mn, .bool bt, .int .i64 r, .slice a2 n2 c2] 36)
          have HK6 := Lib.hid (HK5.out.below hbb)
          have HG6 := Lib.hid (below_cell hbb HG5.out)
          have HB6 := Lib.hid (HC.out.bel _ _ (HC.out.still HI5.out hbb))
          have HE6 := Lib.hid (hc.1.below fun _ _ _ hr => hr.below (below_alloc (Below.refl _ w6) (.cells #[.bool a, .bool b', .bool c, .bool d, .bool s, .bool l, .bool o, .int .i64 m, .bool mn, .bool bt, .int .i64 r, .slice a2 n2 c2] 36)))
          clear hc hb hbb hn2 HI5 HK5 HG5
          go_upto_region 13 with fail
          generalize w6.heap.size = g6 at *
          generalize w6.alloc (.cells #[.bool a, .bool b', .bool c, .bool d, .bool s, .bool l, .bool o, .int .i64 m, .bool mn, .bool bt, .int .i64 r, .slice a2 n2 c2] 36) = w7 at *
          obtain ⟨d0, d1, d2, d3, d4, d5, d6, d7, d8, d9, d10, d11⟩ := cells12 HK6.out.blk
          obtain ⟨e0, e1, e2, e3, e4, e5, e6, e7, e8, e9, e10, e11⟩ := cells12 HX6.out
          have HS := Lib.hid (same_to a b' c d s l o m mn bt r (.slice a1 n c1) (.slice a2 n2 c2) ts w7 HK6.out.els HE6.out HTL.out)
          go_wp2_with fail
          (with_reducible refine HS.out.mono ?_)
          rintro e w8 ⟨rfl, hb⟩
          have HB8 := Lib.hid (below_call HB6.out hb)
          have HG8 := Lib.hid (below_cell hb HG6.out)
          clear hb
          go_wp2_with fail
          (with_reducible refine (code_place g5 kk _ HG8.out).mono ?_)
          rintro e w9 ⟨rfl, hw⟩
          cases hw
          go_wp2_with fail
          (with_reducible refine (code_place g5 kk _ HG8.out).mono ?_)
          rintro e w9 ⟨rfl, hw⟩
          cases hw
          go_wp2_with fail
          go_ret
          exact ⟨rfl, HB8.out⟩
theorem refused_any (tracks fresh : Int) (v : Value) (ls : List (List (List (BitVec 8)))) (w : World) (hv : Els RRows 1 w v ls) (hl : ls.length ≤ maxLen) (u : Value) (bs : List (BitVec 8)) (hu : Byts w u bs) :
    Calls Tryd.prog 6 #[.int .i64 tracks, .int .i64 fresh, v, u] w fun e w' => e = .returned (.bool true) ∧ Below w.heap.size w w' := by
  by_cases h : bs.length ≤ 500
  · exact refused_main tracks fresh v ls w hv hl u bs hu h
  · exact refused_out tracks fresh v ls w hv hl u bs hu (by omega)
end Go.Proofs.YtolfdfbhignniaaDoor
