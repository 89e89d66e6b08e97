/-
  The law's small case comes out right.
-/
import Derived.Test.YthjpacdhaeoecaaDoorSmall
import Derived.Test.YthjpacdhaeoecaaDoorCfRdec
namespace Go.Proofs.YthjpacdhaeoecaaDoor
open Go.RowKit

theorem ok25 : OkC (fun _ => 5) (ones 2) := ones_ok.2 (by omega)
theorem bytes25 : (sealed (cbytes (fun _ => 5) (ones 2))).length = 54 := by
  unfold sealed
  rw [List.length_append, cbytes_length, ones_length]
  rfl
theorem nil_code : dcode [] = 3 := by
  unfold dcode
  rw [if_neg (by decide)]
theorem xb1 : dcode (sealed [88#8, 66#8, 49#8, 0#8]) = 2 := by
  unfold dcode dbody
  rw [if_pos (opens_sealed _), front_sealed, if_neg]
  rintro ⟨_, h⟩
  revert h
  unfold Full
  rw [rdN_at (x := 0#8) rfl]
  decide
theorem xb1_lit (w : World) : Byts (w.alloc (.cells #[.int .u8 88, .int .u8 66, .int .u8 49, .int .u8 0] 5 (4, 5))) (.slice (some ⟨w.heap.size, 0, none⟩) 4 4) [88#8, 66#8, 49#8, 0#8] := lit_byts w #[.int .u8 88, .int .u8 66, .int .u8 49, .int .u8 0] 4 (4, 5) _ rfl rfl
theorem bad10 : ¬ OkC (fun _ => 0) (ones 1) := fun h => by have := ones_ok.1 h; omega
theorem bad00 : ¬ OkC (fun _ => 0) [] := fun h => by have := h.1; simp [OkN] at this

/-- Of bytes that are no crossing's. -/
theorem dec_bad (v : Value) (xs : List (BitVec 8)) (code : Int) (hcode : code = dcode xs) (h0 : code ≠ 0) (w : World) (hv : Byts w v xs) (hl : xs.length ≤ 1000) :
    Calls Tryd.prog 12 #[v] w fun e w' => ∃ a c g, e = .returned (.tuple #[.agg (cft (.slice a 0 c) 0), .iface 71 (.pointer (some ⟨g, 0, none⟩))]) ∧ w'.cell? ⟨g, 1, none⟩ = some (.int .i64 code) ∧ Below w.heap.size w w' := by
  refine (dec_any v xs code _ _ hcode rfl rfl w hv hl).mono ?_
  rintro e w' ⟨a, c, r, he, _, hr, hb⟩
  obtain ⟨g, rfl, hg⟩ := hr.not h0
  obtain ⟨z1, z2⟩ := zdec (xs := xs) (by rw [← hcode]; exact h0) (.slice a 0 c)
  refine ⟨a, c, g, ?_, hg, hb⟩
  rw [he, z2, List.length_nil, z1]
  rfl
/-- The blocks and lines of a crossing. -/
def Cx (w : World) (b : Nat) (v : Value) (T : Nat → Int) (ls : List Ln) : Prop := Blk w b (cfc v T) 26 ∧ Els RLn 5 w v ls
theorem Cx.blk {w : World} {b : Nat} {v : Value} {T : Nat → Int} {ls : List Ln} (h : Cx w b v T ls) : Blk w b (cfc v T) 26 := h.1
theorem Cx.els {w : World} {b : Nat} {v : Value} {T : Nat → Int} {ls : List Ln} (h : Cx w b v T ls) : Els RLn 5 w v ls := h.2
theorem Cx.below {w w' : World} {b : Nat} {v : Value} {T : Nat → Int} {ls : List Ln} (h : Cx w b v T ls) (hb : Below w.heap.size w w') : Cx w' b v T ls := ⟨h.1.below hb, h.2.below (fun _ _ _ h => h.below hb)⟩

set_option maxHeartbeats 4000000 in
set_option maxRecDepth 10000 in
theorem small_true (w : World) : Calls Tryd.prog 9 #[] w fun e w' => e = .returned (.bool true) ∧ Below w.heap.size w w' := by
  obtain ⟨o1, o2, o3⟩ := dec_enc ok25
  have O1 := Lib.hid o1
  have O2 := Lib.hid o2
  have O3 := Lib.hid o3
  clear o1 o2 o3
  have HC1 : Hid (∀ w, Calls Tryd.prog 18 #[.int .i64 2, .int .i64 5] w fun e w' => ∃ a c, e = .returned (.agg (cft (.slice a 2 c) 5)) ∧ Els RLn 5 w' (.slice a 2 c) (ones 2) ∧ Below w.heap.size w w') := Lib.hid (fun w => crossing_any 2 (by decide) 5 w)
  have HC2 : Hid (∀ w, Calls Tryd.prog 18 #[.int .i64 1, .int .i64 0] w fun e w' => ∃ a c, e = .returned (.agg (cft (.slice a 1 c) 0)) ∧ Els RLn 5 w' (.slice a 1 c) (ones 1) ∧ Below w.heap.size w w') := Lib.hid (fun w => crossing_any 1 (by decide) 0 w)
  go_enter Tryd.func9, Tryd.ntmps9
  go_wp2_with fail
  (with_reducible refine (HC1.out _).mono ?_)
  rintro e w1 ⟨a1, c1, rfl, he1, hb⟩
  have HE1 := Lib.hid he1
  have HB1 := Lib.hid hb
  clear he1 hb
  have HK := Lib.hid (below_alloc (Below.refl _ w1) (.cells (cft (.slice a1 2 c1) 5) 26))
  have HX2 := Lib.hid (show Cx _ w1.heap.size (.slice a1 2 c1) (fun _ => 5) (ones 2) from ⟨blk_new w1 (cft (.slice a1 2 c1) 5) 26, HE1.out.below (fun _ _ _ h => h.below HK.out)⟩)
  have HB2 := Lib.hid (below_call HB1.out HK.out)
  have HENC := Lib.hid (fun w => enc_yes (.slice a1 2 c1) (fun _ => 5) (ones 2) ok25 w)
  unfold cfc at HENC
  dsimp only at HENC
  clear HE1 HB1 HK
  go_wp2_with fail
  (with_reducible refine (HENC.out _ HX2.out.els).mono ?_)
  rintro e w3 ⟨r3, rfl, hown, hb⟩
  obtain ⟨a3, c3, e3⟩ := hown.byts.len
  rw [bytes25] at e3
  subst e3
  have HR3 := Lib.hid hown.byts
  have HX3 := Lib.hid (HX2.out.below hb)
  have HB3 := Lib.hid (below_call HB2.out hb)
  clear hown hb HX2 HB2 HENC
  go_wp2_with fail
  (with_reducible refine (dec_any _ _ 0 _ (ones 2) O1.out.symm rfl O3.out.symm _ HR3.out (by rw [bytes25]; decide)).mono ?_)
  rintro e w4 ⟨a4, c4, r4, rfl, he, hr, hb⟩
  obtain rfl := hr.nil
  obtain ⟨T4, hT4⟩ : ∃ T, T = dT (sealed (cbytes (fun _ => 5) (ones 2))) := ⟨_, rfl⟩
  have HT4 := Lib.hid (show ∀ i, i < 10 → T4 i = 5 by rw [hT4]; exact O2.out)
  rw [← hT4]
  rw [show (ones 2).length = 2 from rfl] at he ⊢
  have HK := Lib.hid (below_alloc (Below.refl _ w4) (.cells (cfc (.slice a4 2 c4) T4) 26))
  have HY5 := Lib.hid (show Cx _ w4.heap.size (.slice a4 2 c4) T4 (ones 2) from ⟨blk_new w4 (cfc (.slice a4 2 c4) T4) 26, he.below (fun _ _ _ h => h.below HK.out)⟩)
  have HB5 := Lib.hid (below_call HB3.out (below_call hb HK.out))
  have HX5 := Lib.hid ((HX3.out.below hb).below HK.out)
  have HN := Lib.hid (byts_nil (w4.alloc (.cells (cfc (.slice a4 2 c4) T4) 26)))
  unfold cfc at HY5 HB5 HX5 HN ⊢
  clear hr hb he hT4 HX3 HB3 HK HR3
  go_wp2_with fail
  (with_reducible refine (dec_bad _ _ 3 nil_code.symm (by decide) _ HN.out (by simp)).mono ?_)
  rintro e w6 ⟨a6, c6, g6, rfl, hg, hb⟩
  obtain ⟨w7, hw7⟩ : ∃ w7, w7 = w6.alloc (.cells (cft (.slice a6 0 c6) 0) 26) := ⟨_, rfl⟩
  have e7 : w7.heap.size = w6.heap.size + 1 := by rw [hw7]; simp
  have HK7 := Lib.hid (show Below w6.heap.size w6 w7 by rw [hw7]; exact below_alloc (Below.refl _ w6) _)
  have hcv := conv_mark w7 #[.int .u8 88, .int .u8 66, .int .u8 49, .int .u8 0] 4
  have HL := Lib.hid (xb1_lit w7)
  have HK8 := Lib.hid (below_alloc (Below.refl _ w7) (.cells #[.int .u8 88, .int .u8 66, .int .u8 49, .int .u8 0] 5 (4, 5)))
  have HB8 := Lib.hid (below_call HB5.out (below_call hb (below_call HK7.out HK8.out)))
  have HX8 := Lib.hid (((HX5.out.below hb).below HK7.out).below HK8.out)
  have HY8 := Lib.hid (((HY5.out.below hb).below HK7.out).below HK8.out)
  have HG8 := Lib.hid (below_cell HK8.out (below_cell HK7.out hg))
  rw [e7] at hcv HL
  rw [hw7] at hcv HL HB8 HX8 HY8 HG8
  clear hw7 e7 HK7 HK8 hb hg HN HB5 HX5 HY5
  go_wp2_with fail
  (with_reducible refine (rseal_any _ _ _ HL.out (by simp)).mono ?_)
  rintro e w9 ⟨r9, rfl, hown, hb⟩
  have HR9 := Lib.hid hown.byts
  have HB9 := Lib.hid (below_call HB8.out hb)
  have HX9 := Lib.hid (HX8.out.below hb)
  have HY9 := Lib.hid (HY8.out.below hb)
  have HG9 := Lib.hid (below_cell hb HG8.out)
  clear hown hb hcv HL HB8 HX8 HY8 HG8
  go_wp2_with fail
  (with_reducible refine (dec_bad _ _ 2 xb1.symm (by decide) _ HR9.out (by decide)).mono ?_)
  rintro e w10 ⟨a10, c10, g10, rfl, hg, hb⟩
  have HK := Lib.hid (below_alloc (Below.refl _ w10) (.cells (cft (.slice a10 0 c10) 0) 26))
  have HB11 := Lib.hid (below_call HB9.out (below_call hb HK.out))
  have HX11 := Lib.hid ((HX9.out.below hb).below HK.out)
  have HY11 := Lib.hid ((HY9.out.below hb).below HK.out)
  have HG11 := Lib.hid (below_cell HK.out (below_cell hb HG9.out))
  have HH11 := Lib.hid (below_cell HK.out hg)
  clear hg hb HK HB9 HX9 HY9 HG9 HR9
  go_wp2_with fail
  (with_reducible refine (HC2.out _).mono ?_)
  rintro e w12 ⟨a12, c12, rfl, he, hb⟩
  have HK := Lib.hid (below_alloc (Below.refl _ w12) (.cells (cft (.slice a12 1 c12) 0) 26))
  have HZ13 := Lib.hid (show Cx _ w12.heap.size (.slice a12 1 c12) (fun _ => 0) (ones 1) from ⟨blk_new w12 (cft (.slice a12 1 c12) 0) 26, he.below (fun _ _ _ h => h.below HK.out)⟩)
  have HB13 := Lib.hid (below_call HB11.out (below_call hb HK.out))
  have HX13 := Lib.hid ((HX11.out.below hb).below HK.out)
  have HY13 := Lib.hid ((HY11.out.below hb).below HK.out)
  have HG13 := Lib.hid (below_cell HK.out (below_cell hb HG11.out))
  have HH13 := Lib.hid (below_cell HK.out (below_cell hb HH11.out))
  clear he hb HK HB11 HX11 HY11 HG11 HH11 HC1 HC2
  have HSM := Lib.hid (fun w h1 h2 => rsame_any (.slice a4 2 c4) (.slice a1 2 c1) T4 (fun _ => 5) (ones 2) (ones 2) true (by simp; exact HT4.out) w h1 h2 (by decide))
  unfold cfc at HSM
  dsimp only at HSM
  obtain ⟨c0, c1', c2, c3', c4', c5, c6', c7, c8, c9, c10'⟩ := Blk.eleven HX13.out.blk
  obtain ⟨d0, d1, d2, d3, d4, d5, d6, d7, d8, d9, d10⟩ := Blk.eleven HY13.out.blk
  go_wp2_with fail
  (with_reducible refine (HSM.out _ HY13.out.els HX13.out.els).mono ?_)
  rintro e w14 ⟨rfl, hb⟩
  have HB14 := Lib.hid (below_call HB13.out hb)
  have HX14 := Lib.hid (HX13.out.below hb)
  have HZ14 := Lib.hid (HZ13.out.below hb)
  have HG14 := Lib.hid (below_cell hb HG13.out)
  have HH14 := Lib.hid (below_cell hb HH13.out)
  clear hb HB13 HX13 HY13 HZ13 HG13 HH13 HSM c0 c1' c2 c3' c4' c5 c6' c7 c8 c9 c10' d0 d1 d2 d3 d4 d5 d6 d7 d8 d9 d10
  go_wp2_with fail
  (with_reducible refine (code_place g6 3 _ HG14.out).mono ?_)
  rintro e w15 ⟨rfl, rfl⟩
  go_wp2_with fail
  (with_reducible refine (code_place g10 2 _ HH14.out).mono ?_)
  rintro e w15 ⟨rfl, rfl⟩
  obtain ⟨d0, d1, d2, d3, d4, d5, d6, d7, d8, d9, d10⟩ := Blk.eleven HZ14.out.blk
  have HCB := Lib.hid (fun w h => check_any (.slice a12 1 c12) (fun _ => 0) (ones 1) 6 (if_neg bad10).symm w h)
  unfold cfc at HCB
  dsimp only at HCB
  go_wp2_with fail
  (with_reducible refine (HCB.out _ HZ14.out.els).mono ?_)
  rintro e w16 ⟨r16, rfl, hr, hb⟩
  obtain ⟨g16, rfl, hg⟩ := hr.not (by decide)
  have HB16 := Lib.hid (below_call HB14.out hb)
  have HX16 := Lib.hid (HX14.out.below hb)
  have HG16 := Lib.hid hg
  clear hr hb hg HB14 HX14 HZ14 HG14 HH14 HCB d0 d1 d2 d3 d4 d5 d6 d7 d8 d9 d10
  go_wp2_with fail
  (with_reducible refine (code_place g16 6 _ HG16.out).mono ?_)
  rintro e w17 ⟨rfl, rfl⟩
  obtain ⟨d0, d1, d2, d3, d4, d5, d6, d7, d8, d9, d10⟩ := Blk.eleven HX16.out.blk
  have HCG := Lib.hid (fun w h => check_any (.slice a1 2 c1) (fun _ => 5) (ones 2) 0 (if_pos ok25).symm w h)
  unfold cfc at HCG
  dsimp only at HCG
  go_wp2_with fail
  (with_reducible refine (HCG.out _ HX16.out.els).mono ?_)
  rintro e w18 ⟨r18, rfl, hr, hb⟩
  obtain rfl := hr.nil
  have HB18 := Lib.hid (below_call HB16.out hb)
  clear hr hb HB16 HX16 HG16 HCG d0 d1 d2 d3 d4 d5 d6 d7 d8 d9 d10
  have HCZ := Lib.hid (fun w => check_any (.slice none 0 0) (fun _ => 0) [] 6 (if_neg bad00).symm w (zels w))
  unfold cfc at HCZ
  dsimp only at HCZ
  go_wp2_with fail
  (with_reducible refine (HCZ.out _).mono ?_)
  rintro e w19 ⟨r19, rfl, hr, hb⟩
  obtain ⟨g19, rfl, hg⟩ := hr.not (by decide)
  have HB19 := Lib.hid (below_call HB18.out hb)
  clear hr hb hg HB18 HCZ
  go_wp2_with fail
  go_ret
  exact ⟨rfl, HB19.out⟩
end Go.Proofs.YthjpacdhaeoecaaDoor
