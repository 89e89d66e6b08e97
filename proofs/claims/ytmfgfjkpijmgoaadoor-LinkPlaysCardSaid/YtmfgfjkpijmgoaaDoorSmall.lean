/-
  The small case of every law of layer 7: true.
-/
import Derived.Test.YtmfgfjkpijmgoaaDoorLnk
namespace Go.Proofs.YtmfgfjkpijmgoaaDoor
open Go.RowKit

theorem small_math : ∃ f1 f2 f3 f4 : Nat → Ch, tcode 2 (fun _ => noCh) 3 5 ([9#8] : List (BitVec 8)).length = 0 ∧ taken 2 (fun _ => noCh) 3 5 [9#8] = f1 ∧ tcode 2 f1 3 5 ([] : List (BitVec 8)).length = 4 ∧ taken 2 f1 3 5 [] = f1 ∧
    (fun k => older 2 (older 2 (f1 k))) = f2 ∧ peek f2 3 = ⟨true, 5, 2, [9#8]⟩ ∧ (fun k => older 2 (f2 k)) = f3 ∧ isF 2 (peek f3 3) = false ∧ tcode 2 f3 3 5 ([] : List (BitVec 8)).length = 0 ∧ taken 2 f3 3 5 [] = f4 ∧ tcode 2 f4 16 0 ([] : List (BitVec 8)).length = 1 ∧ taken 2 f4 16 0 [] = f4 ∧ (peek f4 4).had = false := by
  refine ⟨_, _, _, _, by decide, rfl, by decide, rfl, rfl, rfl, rfl, by decide, by decide, rfl, by decide, rfl, by decide⟩
set_option maxHeartbeats 4000000 in
set_option maxRecDepth 10000 in
theorem small_true (w : World) : Calls Tryd.prog 9 #[] w fun e w' => e = .returned (.bool true) ∧ Below w.heap.size w w' := by
  obtain ⟨f1, f2, f3, f4, m1, m2, m3, m4, m5, m6, m7, m8, m9, m10, m11, m12, m13⟩ := small_math
  have M1 := Lib.hid m1
  have M2 := Lib.hid m2
  have M3 := Lib.hid m3
  have M4 := Lib.hid m4
  have M5 := Lib.hid m5
  have M6 := Lib.hid m6
  have M7 := Lib.hid m7
  have M8 := Lib.hid m8
  have M9 := Lib.hid m9
  have M10 := Lib.hid m10
  have M11 := Lib.hid m11
  have M12 := Lib.hid m12
  have M13 := Lib.hid m13
  clear m1 m2 m3 m4 m5 m6 m7 m8 m9 m10 m11 m12 m13
  go_enter Tryd.func9, Tryd.ntmps9
  go_wp2_with fail
  (with_reducible refine (ln_new 2 2 (by decide) (Below.refl _ w)).mono ?_)
  rintro e w1 ⟨b, rfl, hl⟩
  have HL1 := Lib.hid (hl.still (below_alloc (Below.refl _ w1) (.cells #[.int .u8 9] 5)))
  have HD := Lib.hid (lit_byts w1 #[.int .u8 9] 1 (0, 0) [9#8] rfl rfl)
  clear hl
  go_wp2_with fail
  (with_reducible refine (ln_take HL1.out 3 5 _ [9#8] HD.out).mono ?_)
  rintro e w2 ⟨e2, rfl, he, hl, _⟩
  rw [M1.out] at he
  have HE := he.nil
  subst HE
  rw [M2.out] at hl
  have HL2 := Lib.hid hl
  clear hl he HL1 HD
  go_wp2_with fail
  (with_reducible refine (ln_take HL2.out 3 5 _ [] (byts_nil _)).mono ?_)
  rintro e w3 ⟨e3, rfl, he, hl, _⟩
  rw [M3.out] at he
  rw [M4.out] at hl
  obtain ⟨g3, rfl, hc⟩ := he.not (by decide)
  have HL3 := Lib.hid hl
  have HC3 := Lib.hid hc
  clear hl he hc HL2
  go_wp2_with fail
  (with_reducible refine (ln_tick HL3.out).mono ?_)
  rintro e w4 ⟨rfl, hl, hk⟩
  have HL4 := Lib.hid hl
  have HC4 := Lib.hid (hk.cell HC3.out (HL3.out.ne HC3.out))
  clear hl hk HC3 HL3
  go_wp2_with fail
  (with_reducible refine (ln_tick HL4.out).mono ?_)
  rintro e w5 ⟨rfl, hl, hk⟩
  rw [M5.out] at hl
  have HL5 := Lib.hid hl
  have HC5 := Lib.hid (hk.cell HC4.out (HL4.out.ne HC4.out))
  clear hl hk HL4 HC4
  go_wp2_with fail
  (with_reducible refine (ln_fresh HL5.out 3 ⟨true, 5, 2, [9#8]⟩ M6.out.symm true (by decide)).mono ?_)
  rintro e w6 ⟨r6, rfl, ho, hl, hb⟩
  obtain ⟨a6, c6, er⟩ := ho.byts.len
  have HR6 := Lib.hid ho.far
  have HLO := Lib.hid HL5.out.blt
  have HL6 := Lib.hid hl
  have HC6 := Lib.hid (below_cell hb HC5.out)
  clear ho hl hb HL5 HC5
  subst er
  rw [show ([9#8] : List (BitVec 8)).length = 1 from rfl] at HR6 ⊢
  go_wp2_with fail
  (with_reducible refine (ln_at HL6.out 3 ⟨true, 5, 2, [9#8]⟩ M6.out.symm).mono ?_)
  rintro e w7 ⟨r7, rfl, ho, hl, hb⟩
  obtain ⟨a7, c7, er⟩ := ho.byts.len
  have hb7 := below_alloc hb (.cells #[.bool true, .int .i64 5, .int .i64 ((2 : Nat) : Int), r7] 43)
  have HLb := Lib.hid (show b < w7.heap.size from hl.blt)
  have HX7 := Lib.hid (blk_new w7 #[.bool true, .int .i64 5, .int .i64 ((2 : Nat) : Int), r7] 43)
  have HR7 := Lib.hid (HR6.out.below hb7)
  have HL7 := Lib.hid (hl.still (below_alloc (Below.refl _ w7) (.cells #[.bool true, .int .i64 5, .int .i64 ((2 : Nat) : Int), r7] 43)))
  have HC7 := Lib.hid (below_cell hb7 HC6.out)
  clear ho hl hb hb7 HL6 HC6 HR6
  subst er
  rw [show ([9#8] : List (BitVec 8)).length = 1 from rfl, show ((2 : Nat) : Int) = 2 from rfl] at HX7 HL7
  go_wp2_with fail
  (with_reducible refine (ln_tick HL7.out).mono ?_)
  rintro e w8 ⟨rfl, hl, hk⟩
  rw [M7.out] at hl
  have HL8 := Lib.hid hl
  have HC8 := Lib.hid (hk.cell HC7.out (HL7.out.ne HC7.out))
  have HR8 := Lib.hid (HR7.out.keep hk (fun g hg => by rw [hg]; exact HLO.out))
  have HN := Lib.hid (show w7.heap.size ≠ b by have := HLb.out; omega)
  have HX8 := Lib.hid (HX7.out.keep hk HN.out)
  clear hl hk HL7 HC7 HR7 HX7
  go_wp2_with fail
  (with_reducible refine (ln_fresh HL8.out 3 (peek f3 3) rfl false M8.out.symm).mono ?_)
  rintro e w9 ⟨r9, rfl, ho, hl, hb⟩
  have HL9 := Lib.hid hl
  have HC9 := Lib.hid (below_cell hb HC8.out)
  have HR9 := Lib.hid (HR8.out.below hb)
  have HX9 := Lib.hid (HX8.out.below hb)
  clear ho hl hb HL8 HC8 HR8 HX8
  go_wp2_with fail
  (with_reducible refine (ln_take HL9.out 3 5 _ [] (byts_nil _)).mono ?_)
  rintro e w10 ⟨e10, rfl, he, hl, hk⟩
  rw [M9.out] at he
  rw [M10.out] at hl
  have HE := he.nil
  subst HE
  have HL10 := Lib.hid hl
  have HC10 := Lib.hid (hk.cell HC9.out (HL9.out.ne HC9.out))
  have HR10 := Lib.hid (HR9.out.keep hk (fun g hg => by rw [hg]; exact HLO.out))
  have HX10 := Lib.hid (HX9.out.keep hk HN.out)
  clear hl hk he HL9 HC9 HR9 HX9
  go_wp2_with fail
  (with_reducible refine (ln_take HL10.out 16 0 _ [] (byts_nil _)).mono ?_)
  rintro e w11 ⟨e11, rfl, he, hl, hk⟩
  rw [M11.out] at he
  rw [M12.out] at hl
  obtain ⟨g11, rfl, hc⟩ := he.not (by decide)
  have HL11 := Lib.hid hl
  have HC11 := Lib.hid (hk.cell HC10.out (HL10.out.ne HC10.out))
  have HR11 := Lib.hid (HR10.out.keep hk (fun g hg => by rw [hg]; exact HLO.out))
  have HX11 := Lib.hid (HX10.out.keep hk HN.out)
  have HD11 := Lib.hid hc
  clear hl hk he hc HL10 HC10 HR10 HX10
  have c1 := txt_run _ _ _ HR11.out.1
  rw [show txt [9#8] = ⟨#[9]⟩ from rfl] at c1
  obtain ⟨x0, x1, x2, x3⟩ := HX11.out.four
  go_wp2_with fail
  (with_reducible refine (code_place g3 4 _ HC11.out).mono ?_)
  rintro e w12 ⟨rfl, hw⟩
  cases hw
  go_wp2_with fail
  (with_reducible refine (code_place g11 1 _ HD11.out).mono ?_)
  rintro e w12 ⟨rfl, hw⟩
  cases hw
  go_wp2_with fail
  (with_reducible refine (ln_at HL11.out 4 (peek f4 4) rfl).mono ?_)
  rintro e w12 ⟨r12, rfl, ho, hl, hb⟩
  rw [M13.out]
  have HB12 := Lib.hid hl.bel
  have fh := field_had
  clear ho hl hb
  go_wp2_with fail
  go_ret
  exact ⟨rfl, HB12.out⟩
end Go.Proofs.YtmfgfjkpijmgoaaDoor
