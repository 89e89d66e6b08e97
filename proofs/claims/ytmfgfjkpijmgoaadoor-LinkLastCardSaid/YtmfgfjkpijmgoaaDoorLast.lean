/-
  The walk of crossbucklaw07.LinkLast: true, whatever it is given.
-/
import Derived.Test.YtmfgfjkpijmgoaaDoorSmall
import Derived.Test.YtmfgfjkpijmgoaaDoorAged
import Derived.Test.YtmfgfjkpijmgoaaDoorArgs
import Derived.Test.YtmfgfjkpijmgoaaDoorTxt
import Derived.Deep.RegionHeld3
import Derived.IntWalk
namespace Go.Proofs.YtmfgfjkpijmgoaaDoor
open Go.RowKit

set_option maxHeartbeats 2000000 in
set_option maxRecDepth 10000 in
theorem last_out (fresh ch seq : Int) (v : Value) (rows : List (List (BitVec 8))) (w : World) (hv : Els RByts 1 w v rows) (hbad : ch < 0 ∨ 15 < ch ∨ 300 < rows.length) :
    Calls Tryd.prog 8 #[.int .i64 fresh, .int .i64 ch, .int .i64 seq, v] w fun e w' => e = .returned (.bool true) ∧ Below w.heap.size w w' := by
  obtain ⟨F, hF⟩ := fresh_nat fresh
  have HF := Lib.hid hF
  have HBAD := Lib.hid hbad
  obtain ⟨a0, c0, rfl⟩ := hv.len
  clear hF hbad hv
  go_enter Tryd.func8, Tryd.ntmps8
  go_wp2_with fail
  (with_reducible refine (small_true w).mono ?_)
  rintro e w1 ⟨rfl, hb⟩
  have HB := Lib.hid hb
  clear hb
  go_wp2_with fail
  (with_reducible refine (ln_new fresh F HF.out HB.out).mono ?_)
  rintro e w2 ⟨b, rfl, hl⟩
  have HL := Lib.hid hl
  clear hl
  by_cases c0 : ch < 0
  · have q0 : decide (ch < 0) = true := decide_eq_true c0
    clear c0
    go_wp2_with fail
    go_ret
    exact ⟨rfl, HL.out.bel⟩
  · have q0 : decide (ch < 0) = false := decide_eq_false c0
    by_cases c1 : 15 < ch
    · have q1 : decide (15 < ch) = true := decide_eq_true c1
      clear c0 c1
      go_wp2_with fail
      go_ret
      exact ⟨rfl, HL.out.bel⟩
    · have q1 : decide (15 < ch) = false := decide_eq_false c1
      have q2 : decide (300 < (rows.length : Int)) = true := by have := HBAD.out; simp; omega
      clear c0 c1
      go_wp2_with fail
      go_ret
      exact ⟨rfl, HL.out.bel⟩
/-- Behind i telegrams, each the next one of its number. -/
def Chain (k : Nat) (seq : Int) (f : Nat → Ch) (i : Nat) : Prop := (i = 0 ∧ f = fun _ => noCh) ∨ ∃ xs, 0 < i ∧ f = one k ⟨true, (seq + i - 1) % 256, 0, xs⟩
theorem chain_take {F k : Nat} (hk : k < 16) {seq : Int} {f : Nat → Ch} {i : Nat} (h : Chain k seq f i) (xs : List (BitVec 8)) (hx : xs.length ≤ 16) (z : Int) (hz : z = (seq + i) % 256) :
    tcode F (fun j => older F (f j)) (k : Int) z xs.length = 0 ∧ taken F (fun j => older F (f j)) (k : Int) z xs = one k ⟨true, z, 0, xs⟩ := by
  have hfit : Fit (k : Int) z xs.length := by unfold Fit; omega
  rcases h with ⟨rfl, rfl⟩ | ⟨ys, h0, rfl⟩
  · rw [older_none]
    have e : tcode F (fun _ => noCh) (k : Int) z xs.length = 0 := by
      unfold tcode
      rw [if_neg (by simpa using hfit), if_neg (by rw [show isF F noCh = false from rfl]; simp)]
    refine ⟨e, ?_⟩
    unfold taken
    rw [e, if_pos rfl]
    simp [one]
  · rw [older_one, ← aged_zero F, older_aged]
    have e : tcode F (one k (aged F ((seq + i - 1) % 256) ys (0 + 1))) (k : Int) z xs.length = 0 := by
      unfold tcode
      rw [if_neg (by simpa using hfit), if_neg]
      intro h
      have h2 := h.2
      rw [show ((k : Int).toNat) = k by simp, show one k (aged F ((seq + i - 1) % 256) ys (0 + 1)) k = aged F ((seq + i - 1) % 256) ys (0 + 1) from upd_same _ _ _] at h2
      unfold follows aged at h2
      simp only [decide_eq_false_iff_not] at h2
      omega
    refine ⟨e, ?_⟩
    unfold taken
    rw [e, if_pos rfl, show ((k : Int).toNat) = k by simp, one_again]
theorem and255 (x : Int) : bits .and .i64 (wrap64 x) 255 = x % 256 := by
  show IntKind.i64.wrap ((BitVec.ofInt 64 (wrap64 x) &&& BitVec.ofInt 64 255).toNat : Int) = _
  have h1 : (BitVec.ofInt 64 (wrap64 x) &&& BitVec.ofInt 64 255).toNat = (BitVec.ofInt 64 (wrap64 x)).toNat % 256 := by
    rw [BitVec.toNat_and]
    exact Nat.and_two_pow_sub_one_eq_mod _ 8
  rw [h1, BitVec.toNat_ofInt, IntKind.wrap_i64]
  unfold wrap64
  simp
  omega
set_option maxHeartbeats 4000000 in
set_option maxRecDepth 10000 in
theorem last_main (fresh seq : Int) (k : Nat) (v : Value) (rows : List (List (BitVec 8))) (w : World) (hv : Els RByts 1 w v rows) (hk : k < 16) (hl : rows.length ≤ 300) :
    Calls Tryd.prog 8 #[.int .i64 fresh, .int .i64 (k : Int), .int .i64 seq, v] w fun e w' => e = .returned (.bool true) ∧ Below w.heap.size w w' := by
  obtain ⟨F, hF⟩ := fresh_nat fresh
  have HF := Lib.hid hF
  obtain ⟨L, HL0⟩ : ∃ L, Hid (L = rows.length) := ⟨_, Lib.hid rfl⟩
  obtain ⟨a0, c0, ev⟩ := hv.len
  rw [← HL0.out] at ev hl
  have HV := Lib.hid hv
  have q0 : decide ((k : Int) < 0) = false := by simp
  have q1 : decide ((15 : Int) < (k : Int)) = false := by simp; omega
  have q2 : decide ((300 : Int) < (L : Int)) = false := by simp; omega
  have HK := Lib.hid hk
  have hF1 : 1 ≤ F := by omega
  have HF1 := Lib.hid hF1
  clear hF hv hk hF1
  subst ev
  go_enter Tryd.func8, Tryd.ntmps8
  go_wp2_with fail
  (with_reducible refine (small_true w).mono ?_)
  rintro e w1 ⟨rfl, hb⟩
  have HB := Lib.hid hb
  clear hb
  go_wp2_with fail
  (with_reducible refine (ln_new fresh F HF.out HB.out).mono ?_)
  rintro e w2 ⟨b, rfl, hl2⟩
  have HL := Lib.hid hl2
  clear hl2
  go_wp2_with fail
  go_loopw [11] (fun u11 wr => ∃ (i : Nat) (f : Nat → Ch), i ≤ L ∧ u11 = .int .i64 (i : Int) ∧ Hid (Ln w wr b F f) ∧ Hid (Chain k seq f i)) (fun u11 _ => L - (intOf u11).toNat)
  case atStart => exact ⟨0, _, by omega, rfl, HL, Lib.hid (.inl ⟨rfl, rfl⟩)⟩
  case round =>
    obtain ⟨i, f, hi, rfl, HLr, HCr⟩ := hrel
    clear HL
    by_cases hlt : i < L
    · have hlz : (i : Int) < (L : Int) := by omega
      have hi0 : (0 : Int) ≤ (i : Int) := by omega
      obtain ⟨row, hrow⟩ : ∃ y, rows[i]? = some y := ⟨_, List.getElem?_eq_getElem (by rw [← HL0.out]; exact hlt)⟩
      have HR := Lib.hid hrow
      obtain ⟨g, o, ea, hr⟩ := HV.out.at_ hrow
      subst ea
      rw [Nat.mul_one] at hr
      have HRB := Lib.hid hr
      obtain ⟨ra, rc, x0, _⟩ := hr.below HLr.out.bel
      clear hrow hr
      by_cases hx : row.length ≤ 16
      · have q3 : decide ((16 : Int) < (row.length : Int)) = false := by simp; omega
        have HX := Lib.hid hx
        clear hx
        go_wp2_with fail
        (with_reducible refine (ln_tick HLr.out).mono ?_)
        rintro e w3 ⟨rfl, hl3, _⟩
        have HL3 := Lib.hid hl3
        clear hl3 HLr x0
        obtain ⟨ra2, rc2, x0, hrb⟩ := HRB.out.below HL3.out.bel
        have HRB3 := Lib.hid hrb
        clear hrb
        go_wp2_with fail
        obtain ⟨z, hz⟩ : ∃ z : Int, z = (seq + i) % 256 := ⟨_, rfl⟩
        have hbz := and255 (seq + i)
        rw [← hz] at hbz
        have HZ := Lib.hid hz
        rw [hbz]
        have HBZ := Lib.hid hbz
        clear hz hbz
        obtain ⟨t1, t2⟩ := chain_take (F := F) HK.out HCr.out row HX.out z HZ.out
        have HT1 := Lib.hid t1
        have HT2 := Lib.hid t2
        clear t1 t2
        (with_reducible refine (ln_take HL3.out (k : Int) z _ row HRB3.out).mono ?_)
        rintro e w4 ⟨e4, rfl, he, hl4, _⟩
        rw [HT1.out] at he
        rw [HT2.out] at hl4
        have HE := he.nil
        subst HE
        have HL4 := Lib.hid hl4
        have HP := Lib.hid (show (⟨true, z, 0, row⟩ : Ch) = peek (one k ⟨true, z, 0, row⟩) (k : Int) from (peek_one k HK.out _ _ rfl).symm)
        clear he hl4 HL3 HT1 HT2 x0 HRB3 HCr
        go_wp2_with fail
        (with_reducible refine (ln_fresh HL4.out (k : Int) _ HP.out true (by simp [isF])).mono ?_)
        rintro e w5 ⟨r5, rfl, ho, hl5, _⟩
        obtain ⟨a5, c5, er⟩ := ho.byts.len
        have HO5 := Lib.hid ho.byts
        have HL5 := Lib.hid hl5
        clear ho hl5 HL4
        obtain ⟨ra3, rc3, x0, hrb⟩ := HRB.out.below HL5.out.bel
        have HRB5 := Lib.hid hrb
        have ct := txt_run _ _ _ HO5.out
        have cr := txt_run _ _ _ HRB5.out
        clear hrb
        have HA1 := Lib.hid (ln_at (HL5.out.still (bel_drew _)) (k : Int) _ HP.out)
        have fa := field_age
        have fs := field_seq
        have qt : ((txt row).toList != (txt row).toList) = false := by simp
        have qz : (z != bits .and .i64 (IntKind.i64.wrap (seq + i)) 255) = false := by rw [IntWalk.i64_left, HBZ.out]; simp
        subst er
        go_wp2_with fail
        go_region_held3 (fun w' => w'.cell? ⟨g, o + i, none⟩ = some (.slice ra3 row.length rc3) ∧ (convert 28 9 (.slice a5 row.length c5)).run Tryd.prog w' = .ok (.string (txt row)) w' ∧ (convert 28 9 (.slice ra3 row.length rc3)).run Tryd.prog w' = .ok (.string (txt row)) w')
          (first | exact ⟨x0, txt_run _ _ _ (HO5.out.below (bel_drew _)), txt_run _ _ _ (HRB5.out.below (bel_drew _))⟩ | exact HK6.out | exact HK7.out)
          (first
            | (go_at_call 20; (with_reducible refine HA1.out.mono ?_); rintro e w6 ⟨r6, rfl, _, hl6, hb⟩
               have HL6 := Lib.hid hl6; have HRB6 := Lib.hid (HRB5.out.below (below_call (bel_drew _) hb)); have HO6 := Lib.hid (HO5.out.below (below_call (bel_drew _) hb))
               have HK6 := Lib.hid (show w6.cell? ⟨g, o + i, none⟩ = some (.slice ra3 row.length rc3) ∧ (convert 28 9 (.slice a5 row.length c5)).run Tryd.prog w6 = .ok (.string (txt row)) w6 ∧ (convert 28 9 (.slice ra3 row.length rc3)).run Tryd.prog w6 = .ok (.string (txt row)) w6 from ⟨below_cell (below_call (bel_drew _) hb) x0, txt_run _ _ _ HO6.out, txt_run _ _ _ HRB6.out⟩)
               clear hl6 hb)
            | (go_at_call 20; (with_reducible refine (ln_at HL6.out (k : Int) _ HP.out).mono ?_); rintro e w7 ⟨r7, rfl, _, hl7, hb⟩
               have HL7 := Lib.hid hl7; have HRB7 := Lib.hid (HRB6.out.below hb); have HO7 := Lib.hid (HO6.out.below hb)
               have HK7 := Lib.hid (show w7.cell? ⟨g, o + i, none⟩ = some (.slice ra3 row.length rc3) ∧ (convert 28 9 (.slice a5 row.length c5)).run Tryd.prog w7 = .ok (.string (txt row)) w7 ∧ (convert 28 9 (.slice ra3 row.length rc3)).run Tryd.prog w7 = .ok (.string (txt row)) w7 from ⟨below_cell hb HK6.out.1, txt_run _ _ _ HO7.out, txt_run _ _ _ HRB7.out⟩)
               clear hl7 hb))
        go_wp2_with fail
        go_roundw
        case rel =>
          refine ⟨i + 1, one k ⟨true, z, 0, row⟩, by omega, by go_num, HL7, Lib.hid (.inr ⟨row, by omega, ?_⟩)⟩
          rw [HZ.out, show (seq + ((i + 1 : Nat) : Int) - 1) = seq + i by omega]
        case measure => simp [intOf]; omega
      · have q3 : decide ((16 : Int) < (row.length : Int)) = true := by simp; omega
        clear hx
        go_wp2_with fail
        go_ret
        exact ⟨rfl, HLr.out.bel⟩
    · go_wp2
      go_ret
      exact ⟨rfl, HLr.out.bel⟩
theorem last_any (fresh ch seq : Int) (v : Value) (rows : List (List (BitVec 8))) (w : World) (hv : Els RByts 1 w v rows) :
    Calls Tryd.prog 8 #[.int .i64 fresh, .int .i64 ch, .int .i64 seq, v] w fun e w' => e = .returned (.bool true) ∧ Below w.heap.size w w' := by
  by_cases h : ch < 0 ∨ 15 < ch ∨ 300 < rows.length
  · exact last_out fresh ch seq v rows w hv h
  · obtain ⟨k, rfl⟩ : ∃ k : Nat, ch = (k : Int) := ⟨ch.toNat, by omega⟩
    exact last_main fresh seq k v rows w hv (by omega) (by omega)
end Go.Proofs.YtmfgfjkpijmgoaaDoor
