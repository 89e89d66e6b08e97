/-
  The walk of crossbucklaw14.InputsTakes: true, whatever it is given.
-/
import Derived.Deep.RegionHeld3
import Derived.Test.YtolfdfbhignniaaDoorRefused
import Derived.Test.YtolfdfbhignniaaDoorInRnow

namespace Go.Proofs.YtolfdfbhignniaaDoor
open Go.RowKit

theorem row_one {w : World} {v : Value} {a : Option Addr} {L c : Nat} {ls : List (List (BitVec 8))} (hv : Els RB 1 w (.slice a L c) ls) (hl : ls.length ≤ maxLen) (he : L = ls.length) : Els RRows 1 (w.alloc (.cells #[.slice a L c] 30)) (.slice (some ⟨w.heap.size, 0, none⟩) 1 1) [ls] := by
  have _ := v
  subst he
  refine ⟨_, 1, rfl, fun j y hy => ⟨_, _, rfl, ?_⟩⟩
  rcases j with _ | j
  · cases hy
    exact ⟨a, c, (blk_new w #[.slice a ls.length c] 30).cell 0 rfl, hv.below fun _ _ _ hr => hr.below (below_alloc (Below.refl _ w) _), hl⟩
  · cases hy
/-- Bytes among the arguments, at whatever world behind. -/
theorem byts_at {w : World} {ls : List (List (BitVec 8))} {a : Option Addr} {L c : Nat} (hv : Els RB 1 w (.slice a L c) ls) {i : Nat} {y : List (BitVec 8)} (hy : ls[i]? = some y) :
    ∃ g o a1 c1, a = some ⟨g, o, none⟩ ∧ y.length ≤ 140737488351232 ∧ ∀ W, Below w.heap.size w W → W.cell? ⟨g, o + i, none⟩ = some (.slice a1 y.length c1) ∧ Byts W (.slice a1 y.length c1) y := by
  obtain ⟨g, o, ea, ⟨a1, c1, h1, h2⟩, h3⟩ := hv.at_ hy
  rw [Nat.mul_one] at h1
  exact ⟨g, o, a1, c1, ea, h3, fun W hb => ⟨below_cell hb h1, h2.below hb⟩⟩

set_option maxHeartbeats 8000000 in
set_option maxRecDepth 10000 in
theorem takes_any (tracks fresh : Int) (v : Value) (ls : List (List (BitVec 8))) (w : World) (hv : Els RB 1 w v ls) (hl : ls.length ≤ maxLen) :
    Calls Tryd.prog 4 #[.int .i64 tracks, .int .i64 fresh, v] w fun e w' => e = .returned (.bool true) ∧ Below w.heap.size w w' := by
  obtain ⟨F, hF⟩ := fresh_nat fresh
  obtain ⟨t, ht, ht1⟩ := tracks_nat tracks
  obtain ⟨a0, c0, ev⟩ := hv.len
  obtain ⟨L, HL⟩ : ∃ L, Hid (L = ls.length) := ⟨_, Lib.hid rfl⟩
  rw [← HL.out] at ev
  subst ev
  have HFE := Lib.hid (fun W (hb : Below w.heap.size w W) => few_any _ [ls] (W.alloc (.cells #[.slice a0 L c0] 30)) (row_one (v := .nilIface) (hv.below fun _ _ _ hr => hr.below hb) hl HL.out) (by simp [maxLen]))
  have hl : L ≤ 9223372036854775807 := by rw [HL.out]; exact hl
  have HLL := Lib.hid hl
  have HF := Lib.hid hF
  have HT := Lib.hid ht
  have HT1 := Lib.hid ht1
  have HV := Lib.hid hv
  clear hF ht ht1 hv hl
  go_enter Tryd.func4, Tryd.ntmps4
  (try dsimp only [List.append])
  go_wp2_with fail
  (with_reducible refine (small_true w).mono ?_)
  rintro e w1 ⟨rfl, hb⟩
  have HB := Lib.hid (below_alloc hb (.cells #[.slice a0 L c0] 30))
  have HFW := Lib.hid (HFE.out w1 hb)
  clear hb HFE
  go_wp2_with fail
  (with_reducible refine HFW.out.mono ?_)
  rintro e w2 ⟨ok, rfl, hw⟩
  cases hw
  clear HFW
  go_wp2_with fail
  (with_reducible refine (in_new tracks fresh F t HF.out HT.out HB.out).mono ?_)
  rintro e w2 ⟨x, rfl, b, hxb, hwb, hl2, hx, _⟩
  have HXB := Lib.hid hxb
  have HWB := Lib.hid hwb
  have HL2 := Lib.hid hl2
  have HX := Lib.hid hx
  clear hxb hwb hl2 hx HB
  cases ok with
  | false => go_wp2_with fail; go_ret; exact ⟨rfl, HL2.out.bel⟩
  | true =>
    go_wp2_with fail
    (with_reducible refine (rin_new tracks fresh HF.out HT.out HL2.out HX.out HXB.out).mono ?_)
    rintro e w3 ⟨y, rfl, b', hxb', hyb, hyb', hwb', h2⟩
    have HC1 := Lib.hid (fun f' => chs_fst (F := F) (b' := b') HWB.out HXB.out hyb HT1.out f')
    have HC2 := Lib.hid (fun f => chs_snd (F := F) (b := b) hwb' hxb' hyb' HT1.out f)
    have HI := Lib.hid h2
    clear hxb' hyb hyb' hwb' h2 HL2 HX HXB HWB
    go_wp2_with fail
    go_loopw [11] (fun u11 wx => ∃ (i : Nat) (f : Nat → Ch), i ≤ L ∧ u11 = .int .i64 (i : Int) ∧ Hid (Two w b x b' y F t wx f f)) (fun u11 _ => L - (intOf u11).toNat)
    case atStart => exact ⟨0, _, by omega, rfl, HI⟩
    case round =>
      obtain ⟨i, f, hi, rfl, HIr⟩ := hrel
      clear HI
      by_cases hlt : i < L
      · have hlz : (i : Int) < (L : Int) := by omega
        have hi0 : (0 : Int) ≤ (i : Int) := by omega
        obtain ⟨ys, hy⟩ : ∃ ys, ls[i]? = some ys := ⟨_, List.getElem?_eq_getElem (by rw [← HL.out]; exact hlt)⟩
        obtain ⟨g, o, ya, yc, ea, hm, hr⟩ := byts_at HV.out hy
        subst ea
        have HM := Lib.hid hm
        have HR := Lib.hid hr
        obtain ⟨n, hn⟩ : ∃ n, n = ys.length := ⟨_, rfl⟩
        rw [← hn] at HR
        clear hy hm hr hn
        have z1 := (HR.out wr HIr.out.1.bel).1
        obtain ⟨kk, HKK⟩ : ∃ kk, Hid (kk = icode F f ys) := ⟨_, Lib.hid rfl⟩
        obtain ⟨f2, HF2⟩ : ∃ f2, Hid (f2 = itaken F f ys) := ⟨_, Lib.hid rfl⟩
        have hI1 : Two w b x b' y F t wr.drew f f := (HC1.out f).still HIr.out (bel_drew wr)
        have HA1 := in_take (HC1.out f) hI1 _ ys (HR.out _ hI1.1.bel).2 HM.out
        rw [← HKK.out, ← HF2.out] at HA1
        have HA1 := Lib.hid HA1
        have HA2 := Lib.hid (fun W (hW : Two w b x b' y F t W f2 f) => rin_take (HC2.out f2) hW _ ys (HR.out _ hW.1.bel).2 HM.out)
        rw [← HKK.out, ← HF2.out] at HA2
        have qk : (kk != kk) = false := by simp
        have hw11 : IntKind.i64.wrap ((i : Int) + 1) = (i : Int) + 1 := by have := HLL.out; rw [IntKind.wrap_i64]; omega
        clear hI1
        go_wp2_with fail
        go_region_held3 (fun w' => w'.cell? ⟨g, o + i, none⟩ = some (.slice ya n yc))
          (first | exact z1 | exact HK5.out | exact HK6.out)
          (first
            | (go_at_call 19; (with_reducible refine HA1.out.mono ?_); rintro e w5 ⟨e5, rfl, he, hii, _⟩
               have HI5 := Lib.hid hii; have HE5 := Lib.hid he
               have HK5 := Lib.hid (HR.out w5 hii.1.bel).1
               have HA3 := Lib.hid (HA2.out w5 hii)
               clear he hii)
            | (go_at_call 18; (with_reducible refine (code_err HE5.out).mono ?_); rintro e w6 ⟨rfl, rfl⟩)
            | (go_at_call 20; (with_reducible refine HA3.out.mono ?_); rintro e w6 ⟨rfl, hii, _⟩
               have HI6 := Lib.hid hii
               have HK6 := Lib.hid (HR.out w6 hii.1.bel).1
               clear hii))
        clear z1 HA1 HA2 HA3 HK5 HK6 HI5 HE5 HIr
        go_wp2_with fail
        go_roundw
        case rel => exact ⟨i + 1, f2, by omega, by go_num, HI6⟩
        case measure => simp [intOf]; omega
      · have hlz : (L : Int) ≤ (i : Int) := by omega
        obtain ⟨⟨a, bb, c, d, s, l, o, m, mn, bt, r, ts⟩, hD⟩ : ∃ D, tells F t f = D := ⟨_, rfl⟩
        have HD := Lib.hid hD
        have HTL := Lib.hid (show ts.length ≤ 1000 by have := tells_len F t f; rw [hD] at this; simp only at this; have := HT1.out; omega)
        clear hD hi hlt
        have HN1 := Lib.hid (in_now (HC1.out f) HIr.out _ _ _ _ _ _ _ _ _ _ _ _ HD.out)
        have HN2 := Lib.hid (fun W (hW : Below wr.heap.size wr W) => rin_now (HC2.out f) ((HC2.out f).still HIr.out hW) _ _ _ _ _ _ _ _ _ _ _ _ HD.out)
        have HB := Lib.hid HIr.out.1.bel
        clear HC1 HC2 HIr HD
        go_wp2_with fail
        (with_reducible refine HN1.out.mono ?_)
        rintro e w3 ⟨v1, rfl, hc, hb⟩
        obtain ⟨a1, c1, ev⟩ := hc.1.len
        subst ev
        have HE1 := Lib.hid hc.1
        have HNW := Lib.hid (HN2.out w3 hb)
        have HB3 := Lib.hid (below_call HB.out hb)
        clear hc hb HN1 HN2 HB
        go_wp2_with fail
        (with_reducible refine HNW.out.mono ?_)
        rintro e w4 ⟨v2, rfl, hc, hb⟩
        obtain ⟨a2, c2, ev⟩ := hc.1.len
        subst ev
        have HS := Lib.hid (same_to a bb c d s l o m mn bt r _ _ ts w4 (HE1.out.below fun _ _ _ hr => hr.below hb) hc.1 HTL.out)
        have HB4 := Lib.hid (below_call HB3.out hb)
        clear hc hb HE1 HNW HB3
        go_wp2_with fail
        (with_reducible refine HS.out.mono ?_)
        rintro e w5 ⟨rfl, hb⟩
        have HB5 := Lib.hid (below_call HB4.out hb)
        clear hb
        go_wp2_with fail
        go_ret
        exact ⟨rfl, HB5.out⟩
end Go.Proofs.YtolfdfbhignniaaDoor
