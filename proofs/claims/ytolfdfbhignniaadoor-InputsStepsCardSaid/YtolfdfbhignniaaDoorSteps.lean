/-
  The walk of crossbucklaw14.InputsSteps: true, whatever it is given.
-/
import Derived.Test.YtolfdfbhignniaaDoorTakes

namespace Go.Proofs.YtolfdfbhignniaaDoor
open Go.RowKit

set_option maxHeartbeats 8000000 in
set_option maxRecDepth 10000 in
theorem steps_any (tracks fresh : Int) (v : Value) (ls : List (List (List (BitVec 8)))) (w : World) (hv : Els RRows 1 w v ls) (hl : ls.length ≤ maxLen) :
    Calls Tryd.prog 3 #[.int .i64 tracks, .int .i64 fresh, v] w fun e w' => e = .returned (.bool true) ∧ Below w.heap.size w w' := by
  obtain ⟨F, hF⟩ := fresh_nat fresh
  obtain ⟨t, ht, ht1⟩ := tracks_nat tracks
  obtain ⟨a0, c0, ev⟩ := hv.len
  obtain ⟨L, HL⟩ : ∃ L, Hid (L = ls.length) := ⟨_, Lib.hid rfl⟩
  rw [← HL.out] at ev
  subst ev
  have HFE := Lib.hid (fun W (hb : Below w.heap.size w W) => few_any _ ls W (hv.below fun _ _ _ hr => hr.below hb) hl)
  have hl : L ≤ 9223372036854775807 := by rw [HL.out]; exact hl
  have HLL := Lib.hid hl
  have HF := Lib.hid hF
  have HT := Lib.hid ht
  have HT1 := Lib.hid ht1
  have HV := Lib.hid hv
  clear hF ht ht1 hv hl
  go_enter Tryd.func3, Tryd.ntmps3
  (try dsimp only [List.append])
  go_wp2_with fail
  (with_reducible refine (small_true w).mono ?_)
  rintro e w1 ⟨rfl, hb⟩
  have HB := Lib.hid hb
  have HFW := Lib.hid (HFE.out w1 hb)
  clear hb HFE
  go_wp2_with fail
  (with_reducible refine HFW.out.mono ?_)
  rintro e w2 ⟨ok, rfl, hw⟩
  cases hw
  clear HFW
  go_wp2_with fail
  (with_reducible refine (in_new tracks fresh F t HF.out HT.out HB.out).mono ?_)
  rintro e w2 ⟨x, rfl, b, hxb, hwb, hl2, hx, _⟩
  have HXB := Lib.hid hxb
  have HWB := Lib.hid hwb
  have HL2 := Lib.hid hl2
  have HX := Lib.hid hx
  clear hxb hwb hl2 hx HB
  cases ok with
  | false => go_wp2_with fail; go_ret; exact ⟨rfl, HL2.out.bel⟩
  | true =>
    go_wp2_with fail
    (with_reducible refine (rin_new tracks fresh HF.out HT.out HL2.out HX.out HXB.out).mono ?_)
    rintro e w3 ⟨y, rfl, b', hxb', hyb, hyb', hwb', h2⟩
    have HC1 := Lib.hid (fun f' => chs_fst (F := F) (b' := b') HWB.out HXB.out hyb HT1.out f')
    have HC2 := Lib.hid (fun f => chs_snd (F := F) (b := b) hwb' hxb' hyb' HT1.out f)
    have HI := Lib.hid h2
    clear hxb' hyb hyb' hwb' h2 HL2 HX HXB HWB
    go_wp2_with fail
    go_loopw [11] (fun u11 wx => ∃ (i : Nat) (f : Nat → Ch), i ≤ L ∧ u11 = .int .i64 (i : Int) ∧ Hid (Two w b x b' y F t wx f f)) (fun u11 _ => L - (intOf u11).toNat)
    case atStart => exact ⟨0, _, by omega, rfl, HI⟩
    case round =>
      obtain ⟨i, f, hi, rfl, HIr⟩ := hrel
      clear HI
      by_cases hlt : i < L
      · have hlz : (i : Int) < (L : Int) := by omega
        have hi0 : (0 : Int) ≤ (i : Int) := by omega
        obtain ⟨ys, hy⟩ : ∃ ys, ls[i]? = some ys := ⟨_, List.getElem?_eq_getElem (by rw [← HL.out]; exact hlt)⟩
        obtain ⟨g, o, ya, yc, ea, hm, hr⟩ := row_at (v := .nilIface) HV.out hy
        subst ea
        have HR := Lib.hid hr
        obtain ⟨⟨f2, k2⟩, hst⟩ : ∃ p, stp14 F f ys = p := ⟨_, rfl⟩
        have hI1 : Two w b x b' y F t wr.drew f f := (HC1.out f).still HIr.out (bel_drew wr)
        have HA1 := Lib.hid (in_step (HC1.out f) hI1 _ ys (fun wr f h => (hr wr h.1.bel).2) hm f2 k2 hst)
        have HA2 := Lib.hid (fun W (hW : Two w b x b' y F t W f2 f) => rin_step (HC2.out f2) hW _ ys (fun wr f h => (hr wr h.1.bel).2) hm f2 k2 hst)
        obtain ⟨n, hn⟩ : ∃ n, n = ys.length := ⟨_, rfl⟩
        rw [← hn] at HR HA1 HA2
        clear hy hm hr hn hst hI1
        have z1 := (HR.out wr HIr.out.1.bel).1
        have qk : ((k2 : Int) != (k2 : Int)) = false := by simp
        have hw11 : IntKind.i64.wrap ((i : Int) + 1) = (i : Int) + 1 := by have := HLL.out; rw [IntKind.wrap_i64]; omega
        obtain ⟨⟨a, bb, c, d, s, l, oo, m, mn, bt, r, ts⟩, hD⟩ : ∃ D, tells F t f2 = D := ⟨_, rfl⟩
        have HD := Lib.hid hD
        have HTL := Lib.hid (show ts.length ≤ 1000 by have := tells_len F t f2; rw [hD] at this; simp only at this; have := HT1.out; omega)
        clear hD
        obtain ⟨q, hq⟩ : ∃ q, q = ts.length := ⟨_, rfl⟩
        have HQ := Lib.hid hq
        clear hq
        go_wp2_with fail
        go_region_held3 (fun w' => w'.cell? ⟨g, o + i, none⟩ = some (.slice ya n yc))
          (first | exact z1 | exact HK5.out | exact HK6.out | exact HK7.out | exact HK8.out | exact HK9.out)
          (first
            | (go_at_call 13; (with_reducible refine HA1.out.mono ?_); rintro e w5 ⟨rfl, hii, _⟩
               have HI5 := Lib.hid hii
               have HK5 := Lib.hid (HR.out w5 hii.1.bel).1
               have HA3 := Lib.hid (HA2.out w5 hii)
               clear hii)
            | (go_at_call 14; (with_reducible refine HA3.out.mono ?_); rintro e w6 ⟨rfl, hii, _⟩
               have HI6 := Lib.hid hii
               have HK6 := Lib.hid (HR.out w6 hii.1.bel).1
               have HN1 := Lib.hid (in_now (HC1.out f2) hii _ _ _ _ _ _ _ _ _ _ _ _ HD.out)
               clear hii)
            | (go_at_call 16; (with_reducible refine HN1.out.mono ?_); rintro e w7 ⟨v1, rfl, hc, hb⟩
               obtain ⟨a1, c1, ev⟩ := hc.1.len
               rw [← HQ.out] at ev
               have HE7 := Lib.hid hc.1
               have HI7 := Lib.hid ((HC1.out f2).still HI6.out hb)
               have HK7 := Lib.hid (HR.out w7 HI7.out.1.bel).1
               have HN2 := Lib.hid (rin_now (HC2.out f2) HI7.out _ _ _ _ _ _ _ _ _ _ _ _ HD.out)
               clear hc hb
               subst ev)
            | (go_at_call 17; (with_reducible refine HN2.out.mono ?_); rintro e w8 ⟨v2, rfl, hc, hb⟩
               obtain ⟨a2, c2, ev⟩ := hc.1.len
               rw [← HQ.out] at ev
               subst ev
               have HI8 := Lib.hid ((HC1.out f2).still HI7.out hb)
               have HK8 := Lib.hid (HR.out w8 HI8.out.1.bel).1
               have HS := Lib.hid (same_to a bb c d s l oo m mn bt r (.slice a1 q c1) (.slice a2 q c2) ts w8 (HE7.out.below fun _ _ _ hr => hr.below hb) hc.1 HTL.out)
               clear hc hb)
            | (go_at_call 15; (with_reducible refine HS.out.mono ?_); rintro e w9 ⟨rfl, hb⟩
               have HI9 := Lib.hid ((HC1.out f2).still HI8.out hb)
               have HK9 := Lib.hid (HR.out w9 HI9.out.1.bel).1
               clear hb))
        clear z1 HA1 HA2 HA3 HK5 HK6 HK7 HK8 HK9 HI5 HI6 HI7 HI8 HN1 HN2 HE7 HS HIr
        go_wp2_with fail
        go_roundw
        case rel => exact ⟨i + 1, f2, by omega, by go_num, HI9⟩
        case measure => simp [intOf]; omega
      · have hlz : (L : Int) ≤ (i : Int) := by omega
        obtain ⟨⟨a, bb, c, d, s, l, o, m, mn, bt, r, ts⟩, hD⟩ : ∃ D, tells F t f = D := ⟨_, rfl⟩
        have HD := Lib.hid hD
        have HTL := Lib.hid (show ts.length ≤ 1000 by have := tells_len F t f; rw [hD] at this; simp only at this; have := HT1.out; omega)
        clear hD hi hlt
        have HN1 := Lib.hid (in_now (HC1.out f) HIr.out _ _ _ _ _ _ _ _ _ _ _ _ HD.out)
        have HN2 := Lib.hid (fun W (hW : Below wr.heap.size wr W) => rin_now (HC2.out f) ((HC2.out f).still HIr.out hW) _ _ _ _ _ _ _ _ _ _ _ _ HD.out)
        have HB := Lib.hid HIr.out.1.bel
        clear HC1 HC2 HIr HD
        go_wp2_with fail
        (with_reducible refine HN1.out.mono ?_)
        rintro e w3 ⟨v1, rfl, hc, hb⟩
        obtain ⟨a1, c1, ev⟩ := hc.1.len
        subst ev
        have HE1 := Lib.hid hc.1
        have HNW := Lib.hid (HN2.out w3 hb)
        have HB3 := Lib.hid (below_call HB.out hb)
        clear hc hb HN1 HN2 HB
        go_wp2_with fail
        (with_reducible refine HNW.out.mono ?_)
        rintro e w4 ⟨v2, rfl, hc, hb⟩
        obtain ⟨a2, c2, ev⟩ := hc.1.len
        subst ev
        have HS := Lib.hid (same_to a bb c d s l o m mn bt r _ _ ts w4 (HE1.out.below fun _ _ _ hr => hr.below hb) hc.1 HTL.out)
        have HB4 := Lib.hid (below_call HB3.out hb)
        clear hc hb HE1 HNW HB3
        go_wp2_with fail
        (with_reducible refine HS.out.mono ?_)
        rintro e w5 ⟨rfl, hb⟩
        have HB5 := Lib.hid (below_call HB4.out hb)
        clear hb
        go_wp2_with fail
        go_ret
        exact ⟨rfl, HB5.out⟩
end Go.Proofs.YtolfdfbhignniaaDoor
