/-
  The walk of crossbucklaw06.FrameShort: true, whatever it is given.
-/
import Derived.Test.YtdgehinmkbhjlaaDoorAny
namespace Go.Proofs.YtdgehinmkbhjlaaDoor
open Go.RowKit

set_option maxHeartbeats 4000000 in
set_option maxRecDepth 10000 in
theorem short_long (c q : Int) (p : Int) (u v : Value) (xs more : List (BitVec 8)) (w : World) (hu : Byts w u xs) (hv : Byts w v more) (hl : 300 < xs.length ∨ 50 < more.length) :
    Calls Tryd.prog 6 #[.agg #[.int .i64 c, .int .i64 q, u], .int .i64 p, v] w fun e w' => e = .returned (.bool true) ∧ Below w.heap.size w w' := by
  have HLL := Lib.hid hl
  have HU := Lib.hid hu
  have HV := Lib.hid hv
  obtain ⟨au, cu, rfl⟩ := hu.len
  obtain ⟨av, cv, rfl⟩ := hv.len
  clear hu hv hl
  have HB := Lib.hid (below_alloc (Below.refl _ w) (.cells #[.int .i64 c, .int .i64 q, .slice au xs.length cu] 24))
  have HX := Lib.hid (box_new w c q (.slice au xs.length cu))
  go_enter Tryd.func6, Tryd.ntmps6
  go_wp2_with fail
  (with_reducible refine (small_true _).mono ?_)
  rintro e w1 ⟨rfl, hb⟩
  have HX1 := Lib.hid (HX.out.below hb)
  obtain ⟨e0, e1, e2⟩ := HX1.out.cells
  have HB1 := Lib.hid (below_call HB.out hb)
  have HU1 := Lib.hid (HU.out.below HB1.out)
  have HV1 := Lib.hid (HV.out.below HB1.out)
  clear hb HX HB HU HV
  by_cases h1 : 300 < xs.length
  · have q0 : decide ((300 : Int) < (xs.length : Int)) = true := decide_eq_true (by omega)
    clear h1
    go_wp2_with fail
    go_ret
    exact ⟨rfl, HB1.out⟩
  · have q0 : decide ((300 : Int) < (xs.length : Int)) = false := decide_eq_false (by omega)
    have q1 : decide ((50 : Int) < (more.length : Int)) = true := decide_eq_true (by have := HLL.out; omega)
    clear h1
    go_wp2_with fail
    go_ret
    exact ⟨rfl, HB1.out⟩

set_option maxHeartbeats 4000000 in
set_option maxRecDepth 10000 in
theorem short_nf (c q : Int) (p : Int) (u v : Value) (xs more : List (BitVec 8)) (w : World) (hu : Byts w u xs) (hv : Byts w v more) (hxl : xs.length ≤ 300) (hml : more.length ≤ 50) (hf : ¬ Fit c q xs.length) :
    Calls Tryd.prog 6 #[.agg #[.int .i64 c, .int .i64 q, u], .int .i64 p, v] w fun e w' => e = .returned (.bool true) ∧ Below w.heap.size w w' := by
  have q0 : decide ((300 : Int) < (xs.length : Int)) = false := decide_eq_false (by omega)
  have q1 : decide ((50 : Int) < (more.length : Int)) = false := decide_eq_false (by omega)
  have HF := Lib.hid hf
  have HU := Lib.hid hu
  have HV := Lib.hid hv
  obtain ⟨au, cu, rfl⟩ := hu.len
  obtain ⟨av, cv, rfl⟩ := hv.len
  clear hu hv hxl hml hf
  have HB := Lib.hid (below_alloc (Below.refl _ w) (.cells #[.int .i64 c, .int .i64 q, .slice au xs.length cu] 24))
  have HX := Lib.hid (box_new w c q (.slice au xs.length cu))
  go_enter Tryd.func6, Tryd.ntmps6
  go_wp2_with fail
  (with_reducible refine (small_true _).mono ?_)
  rintro e w1 ⟨rfl, hb⟩
  have HX1 := Lib.hid (HX.out.below hb)
  obtain ⟨e0, e1, e2⟩ := HX1.out.cells
  have HB1 := Lib.hid (below_call HB.out hb)
  have HU1 := Lib.hid (HU.out.below HB1.out)
  have HV1 := Lib.hid (HV.out.below HB1.out)
  clear hb HX HB HU HV
  go_wp2_with fail
  (with_reducible refine (enc_no _ _ _ _ _ HU1.out HF.out).mono ?_)
  rintro e w2 ⟨g, _, rfl, _, hb⟩
  have HB2 := Lib.hid (below_call HB1.out hb)
  clear hb e0 e1 e2 HU1 HB1
  go_wp2_with fail
  go_ret
  exact ⟨rfl, HB2.out⟩

set_option maxHeartbeats 4000000 in
set_option maxRecDepth 10000 in
theorem short_out (x y : BitVec 8) (p : Int) (u v : Value) (xs more : List (BitVec 8)) (w : World) (hu : Byts w u xs) (hv : Byts w v more) (hx : x.toNat ≤ 15) (hxl : xs.length ≤ 16) (hml : more.length ≤ 50) (hp : p < 0 ∨ (xs.length : Int) + 5 ≤ p) :
    Calls Tryd.prog 6 #[.agg #[.int .i64 (x.toNat : Int), .int .i64 (y.toNat : Int), u], .int .i64 p, v] w fun e w' => e = .returned (.bool true) ∧ Below w.heap.size w w' := by
  have q0 : decide ((300 : Int) < (xs.length : Int)) = false := decide_eq_false (by omega)
  have q1 : decide ((50 : Int) < (more.length : Int)) = false := decide_eq_false (by omega)
  have HF1 := Lib.hid hx
  have HF2 := Lib.hid hxl
  obtain ⟨n, hn⟩ : ∃ n, n = xs.length + 5 := ⟨_, rfl⟩
  have HN := Lib.hid ((length_sealed x y xs).trans hn.symm)
  have HP := Lib.hid (show p < 0 ∨ (n : Int) ≤ p by omega)
  have HU := Lib.hid hu
  have HV := Lib.hid hv
  obtain ⟨au, cu, rfl⟩ := hu.len
  obtain ⟨av, cv, rfl⟩ := hv.len
  clear hu hv hx hxl hml hp hn
  have HB := Lib.hid (below_alloc (Below.refl _ w) (.cells #[.int .i64 (x.toNat : Int), .int .i64 (y.toNat : Int), .slice au xs.length cu] 24))
  have HX := Lib.hid (box_new w (x.toNat : Int) (y.toNat : Int) (.slice au xs.length cu))
  go_enter Tryd.func6, Tryd.ntmps6
  go_wp2_with fail
  (with_reducible refine (small_true _).mono ?_)
  rintro e w1 ⟨rfl, hb⟩
  have HX1 := Lib.hid (HX.out.below hb)
  obtain ⟨e0, e1, e2⟩ := HX1.out.cells
  have HB1 := Lib.hid (below_call HB.out hb)
  have HU1 := Lib.hid (HU.out.below HB1.out)
  have HV1 := Lib.hid (HV.out.below HB1.out)
  clear hb HX HB HU HV
  go_wp2_with fail
  (with_reducible refine (enc_yes _ _ _ _ _ HU1.out HF1.out HF2.out).mono ?_)
  rintro e w2 ⟨r, rfl, hown, hb⟩
  obtain ⟨ar, cr, rfl⟩ := hown.byts.len
  rw [HN.out]
  have HB2 := Lib.hid (below_call HB1.out hb)
  clear hb hown e0 e1 e2 HU1 HB1
  by_cases h : p < 0
  · have q3 : decide (p < 0) = true := decide_eq_true h
    clear h
    go_wp2_with fail
    go_ret
    exact ⟨rfl, HB2.out⟩
  · have q3 : decide (p < 0) = false := decide_eq_false h
    have q4 : decide ((n : Int) ≤ p) = true := decide_eq_true (by have := HP.out; omega)
    clear h
    go_wp2_with fail
    go_ret
    exact ⟨rfl, HB2.out⟩

set_option maxHeartbeats 4000000 in
set_option maxRecDepth 10000 in
theorem short_nn (x y : BitVec 8) (p : Nat) (u v : Value) (xs more : List (BitVec 8)) (w : World) (hu : Byts w u xs) (hv : Byts w v more) (hx : x.toNat ≤ 15) (hxl : xs.length ≤ 16) (hml : more.length ≤ 50) (hp : p < xs.length + 5) (hd1 : ∀ u w, Byts w u ((sealed (frm x y xs)).take p) → Calls Tryd.prog 12 #[u] w fun e w' => ∃ g, e = .returned (.tuple #[.agg #[.int .i64 0, .int .i64 0, .slice none 0 0], .iface 50 (.pointer (some ⟨g, 0, none⟩))]) ∧ Below w.heap.size w w') (hd2 : ∀ u w, Byts w u (sealed (frm x y xs) ++ more) → Calls Tryd.prog 12 #[u] w fun e w' => ∃ g, e = .returned (.tuple #[.agg #[.int .i64 0, .int .i64 0, .slice none 0 0], .iface 50 (.pointer (some ⟨g, 0, none⟩))]) ∧ Below w.heap.size w w') :
    Calls Tryd.prog 6 #[.agg #[.int .i64 (x.toNat : Int), .int .i64 (y.toNat : Int), u], .int .i64 (p : Int), v] w fun e w' => e = .returned (.bool true) ∧ Below w.heap.size w w' := by
  have q0 : decide ((300 : Int) < (xs.length : Int)) = false := decide_eq_false (by omega)
  have q1 : decide ((50 : Int) < (more.length : Int)) = false := decide_eq_false (by omega)
  have HF1 := Lib.hid hx
  have HF2 := Lib.hid hxl
  obtain ⟨n, hn⟩ : ∃ n, n = xs.length + 5 := ⟨_, rfl⟩
  have HN := Lib.hid ((length_sealed x y xs).trans hn.symm)
  have hn40 : n ≤ 40 := by omega
  have hpn : p < n := by omega
  have q3 : decide ((p : Int) < 0) = false := decide_eq_false (by omega)
  have q4 : decide ((n : Int) ≤ (p : Int)) = false := decide_eq_false (by omega)
  have HD1 := Lib.hid hd1
  have HD2 := Lib.hid hd2
  have HML := Lib.hid hml
  have HU := Lib.hid hu
  have HV := Lib.hid hv
  obtain ⟨au, cu, rfl⟩ := hu.len
  obtain ⟨av, cv, rfl⟩ := hv.len
  clear hu hv hx hxl hml hp hn hd1 hd2
  have HB := Lib.hid (below_alloc (Below.refl _ w) (.cells #[.int .i64 (x.toNat : Int), .int .i64 (y.toNat : Int), .slice au xs.length cu] 24))
  have HX := Lib.hid (box_new w (x.toNat : Int) (y.toNat : Int) (.slice au xs.length cu))
  go_enter Tryd.func6, Tryd.ntmps6
  go_wp2_with fail
  (with_reducible refine (small_true _).mono ?_)
  rintro e w1 ⟨rfl, hb⟩
  have HX1 := Lib.hid (HX.out.below hb)
  obtain ⟨e0, e1, e2⟩ := HX1.out.cells
  have HB1 := Lib.hid (below_call HB.out hb)
  have HU1 := Lib.hid (HU.out.below HB1.out)
  have HV1 := Lib.hid (HV.out.below HB1.out)
  clear hb HX HB HU HV
  go_wp2_with fail
  (with_reducible refine (enc_yes _ _ _ _ _ HU1.out HF1.out HF2.out).mono ?_)
  rintro e w2 ⟨r, rfl, hown, hb⟩
  obtain ⟨g, cap, rfl, hcap, hBg⟩ := hown.form (by rw [HN.out]; omega)
  have HX2 := Lib.hid (HX1.out.below hb)
  have HB2 := Lib.hid (below_call HB1.out hb)
  have HU2 := Lib.hid (HU1.out.below hb)
  have HV2 := Lib.hid (HV1.out.below hb)
  have HR2 := Lib.hid hown.byts
  have HT2 := Lib.hid (Byts.take (g := g) (o := 0) (cap := cap) (fun j z hz => by rw [Nat.zero_add]; exact hown.cell rfl j z hz) hcap p (by rw [HN.out]; omega))
  rw [HN.out] at hcap HR2 ⊢
  have hcn : p ≤ cap := by omega
  have hpn2 : p ≤ n := by omega
  clear hb hown hBg e0 e1 e2 HX1 HB1 HU1 HV1
  generalize sealed (frm x y xs) = X at *
  go_wp2_with fail
  (with_reducible refine (HD1.out _ _ HT2.out).mono ?_)
  rintro e w3 ⟨g3, rfl, hb⟩
  have hal := below_alloc (Below.refl _ w3) (.cells #[.int .i64 0, .int .i64 0, .slice none 0 0] 24)
  have hb' := below_call hb hal
  have HX3 := Lib.hid (HX2.out.below hb')
  have HB3 := Lib.hid (below_call HB2.out hb')
  have HU3 := Lib.hid (HU2.out.below hb')
  have HV3 := Lib.hid (HV2.out.below hb')
  have HR3 := Lib.hid (HR2.out.below hb')
  clear hb hb' hal HX2 HB2 HU2 HV2 HR2 HT2 HD1 hcn hpn2
  go_upto_region 8 with fail
  generalize hwa : w3.alloc (.cells #[.int .i64 0, .int .i64 0, .slice none 0 0] 24) = wa at *
  have HO := Lib.hid (own_lit wa wa.heap.size [] (Nat.le_refl _) (by unfold maxLen; simp))
  have HBa := Lib.hid (below_alloc (Below.refl _ wa) (.cells #[] 5))
  have HRa := Lib.hid (HR3.out.below HBa.out)
  have hsz := HBa.out.size
  have tok1 : True := trivial
  have HL1 := Lib.hid (show ([] : List (BitVec 8)).length + X.length ≤ 140737488355328 by rw [HN.out]; simp; omega)
  have HL2 := Lib.hid (show ([] ++ X).length + more.length ≤ 140737488355328 by have := HML.out; rw [List.nil_append, HN.out]; omega)
  go_wp2_with (first
    | (at_builtin; have _t := tok1; refine wpList_app rfl _ _ rfl wa.heap.size _ [] rfl HO.out _ X rfl HRa.out HL1.out hsz ?_; intro v1 wb hown1 hg1; have HO1 := Lib.hid hown1; have HBb := Lib.hid (HO.out.grown HBa.out hg1); have HVb := Lib.hid (HV3.out.below HBb.out); have hsz1 := HBb.out.size; clear hown1 hg1 tok1 _t HO HBa HRa hsz)
    | (at_builtin; refine wpList_app rfl _ _ rfl wa.heap.size _ _ rfl HO1.out _ more rfl HVb.out HL2.out hsz1 ?_; intro v2 wc hown2 hg2; have HO2 := Lib.hid hown2; have HBc := Lib.hid (HO1.out.grown HBb.out hg2); clear hown2 hg2 HO1 HBb HVb hsz1))
  rw [List.nil_append] at HO2
  (with_reducible refine (HD2.out _ _ HO2.out.byts).mono ?_)
  rintro e w4 ⟨g4, rfl, hb⟩
  have hal := below_alloc (Below.refl _ w4) (.cells #[.int .i64 0, .int .i64 0, .slice none 0 0] 24)
  have hb' := below_call (below_call HBc.out hb) hal
  have HX4 := Lib.hid (HX3.out.below hb')
  have HB4 := Lib.hid (below_call HB3.out hb')
  have HU4 := Lib.hid (HU3.out.below hb')
  obtain ⟨e0, e1, e2⟩ := HX4.out.cells
  clear hb hb' hal HX3 HB3 HU3 HV3 HR3 HO2 HBc HD2
  go_wp2_with fail
  go_ret
  exact ⟨by simp, HB4.out⟩

set_option maxHeartbeats 4000000 in
set_option maxRecDepth 10000 in
theorem short_ny (x y : BitVec 8) (p : Nat) (u v : Value) (xs more : List (BitVec 8)) (w : World) (hu : Byts w u xs) (hv : Byts w v more) (hx : x.toNat ≤ 15) (hxl : xs.length ≤ 16) (hml : more.length ≤ 50) (hp : p < xs.length + 5) (hd1 : ∀ u w, Byts w u ((sealed (frm x y xs)).take p) → Calls Tryd.prog 12 #[u] w fun e w' => ∃ g, e = .returned (.tuple #[.agg #[.int .i64 0, .int .i64 0, .slice none 0 0], .iface 50 (.pointer (some ⟨g, 0, none⟩))]) ∧ Below w.heap.size w w') (x3 y3 : BitVec 8) (zs : List (BitVec 8)) (h2 : sealed (frm x y xs) ++ more = sealed (frm x3 y3 zs)) (hd2 : ∀ u w, Byts w u (sealed (frm x y xs) ++ more) → Calls Tryd.prog 12 #[u] w fun e w' => ∃ v, e = .returned (.tuple #[.agg #[.int .i64 (x3.toNat : Int), .int .i64 (y3.toNat : Int), v], .nilIface]) ∧ Byts w' v zs ∧ Below w.heap.size w w') :
    Calls Tryd.prog 6 #[.agg #[.int .i64 (x.toNat : Int), .int .i64 (y.toNat : Int), u], .int .i64 (p : Int), v] w fun e w' => e = .returned (.bool true) ∧ Below w.heap.size w w' := by
  have q0 : decide ((300 : Int) < (xs.length : Int)) = false := decide_eq_false (by omega)
  have q1 : decide ((50 : Int) < (more.length : Int)) = false := decide_eq_false (by omega)
  have HF1 := Lib.hid hx
  have HF2 := Lib.hid hxl
  obtain ⟨n, hn⟩ : ∃ n, n = xs.length + 5 := ⟨_, rfl⟩
  have HN := Lib.hid ((length_sealed x y xs).trans hn.symm)
  have hn40 : n ≤ 40 := by omega
  have hpn : p < n := by omega
  have q3 : decide ((p : Int) < 0) = false := decide_eq_false (by omega)
  have q4 : decide ((n : Int) ≤ (p : Int)) = false := decide_eq_false (by omega)
  have HD1 := Lib.hid hd1
  have HD2 := Lib.hid hd2
  have HML := Lib.hid hml
  obtain ⟨t, ht, hs2⟩ : ∃ t : Bool, ((more.length : Int) == 0) = t ∧ t = decide ((x3.toNat : Int) = (x.toNat : Int) ∧ (y3.toNat : Int) = (y.toNat : Int) ∧ zs = xs) := by
    by_cases hm0 : more = []
    · refine ⟨true, by rw [hm0]; rfl, ?_⟩
      symm
      rw [hm0, List.append_nil] at h2
      obtain ⟨rfl, rfl, rfl⟩ := frm_inj (sealed_inj h2)
      simp
    · refine ⟨false, ?_, ?_⟩
      · have : more.length ≠ 0 := fun h => hm0 (List.length_eq_zero_iff.1 h)
        simp; exact hm0
      · symm
        refine decide_eq_false fun hh => hm0 ?_
        have hlen := congrArg List.length h2
        rw [List.length_append, length_sealed, length_sealed, hh.2.2] at hlen
        exact List.length_eq_zero_iff.1 (by omega)
  have HS2 := Lib.hid hs2
  have qt : (t == t) = true := by simp
  have HU := Lib.hid hu
  have HV := Lib.hid hv
  obtain ⟨au, cu, rfl⟩ := hu.len
  obtain ⟨av, cv, rfl⟩ := hv.len
  clear hu hv hx hxl hml hp hn hd1 hd2 h2 hs2
  have HB := Lib.hid (below_alloc (Below.refl _ w) (.cells #[.int .i64 (x.toNat : Int), .int .i64 (y.toNat : Int), .slice au xs.length cu] 24))
  have HX := Lib.hid (box_new w (x.toNat : Int) (y.toNat : Int) (.slice au xs.length cu))
  go_enter Tryd.func6, Tryd.ntmps6
  go_wp2_with fail
  (with_reducible refine (small_true _).mono ?_)
  rintro e w1 ⟨rfl, hb⟩
  have HX1 := Lib.hid (HX.out.below hb)
  obtain ⟨e0, e1, e2⟩ := HX1.out.cells
  have HB1 := Lib.hid (below_call HB.out hb)
  have HU1 := Lib.hid (HU.out.below HB1.out)
  have HV1 := Lib.hid (HV.out.below HB1.out)
  clear hb HX HB HU HV
  go_wp2_with fail
  (with_reducible refine (enc_yes _ _ _ _ _ HU1.out HF1.out HF2.out).mono ?_)
  rintro e w2 ⟨r, rfl, hown, hb⟩
  obtain ⟨g, cap, rfl, hcap, hBg⟩ := hown.form (by rw [HN.out]; omega)
  have HX2 := Lib.hid (HX1.out.below hb)
  have HB2 := Lib.hid (below_call HB1.out hb)
  have HU2 := Lib.hid (HU1.out.below hb)
  have HV2 := Lib.hid (HV1.out.below hb)
  have HR2 := Lib.hid hown.byts
  have HT2 := Lib.hid (Byts.take (g := g) (o := 0) (cap := cap) (fun j z hz => by rw [Nat.zero_add]; exact hown.cell rfl j z hz) hcap p (by rw [HN.out]; omega))
  rw [HN.out] at hcap HR2 ⊢
  have hcn : p ≤ cap := by omega
  have hpn2 : p ≤ n := by omega
  clear hb hown hBg e0 e1 e2 HX1 HB1 HU1 HV1
  generalize sealed (frm x y xs) = X at *
  go_wp2_with fail
  (with_reducible refine (HD1.out _ _ HT2.out).mono ?_)
  rintro e w3 ⟨g3, rfl, hb⟩
  have hal := below_alloc (Below.refl _ w3) (.cells #[.int .i64 0, .int .i64 0, .slice none 0 0] 24)
  have hb' := below_call hb hal
  have HX3 := Lib.hid (HX2.out.below hb')
  have HB3 := Lib.hid (below_call HB2.out hb')
  have HU3 := Lib.hid (HU2.out.below hb')
  have HV3 := Lib.hid (HV2.out.below hb')
  have HR3 := Lib.hid (HR2.out.below hb')
  clear hb hb' hal HX2 HB2 HU2 HV2 HR2 HT2 HD1 hcn hpn2
  go_upto_region 8 with fail
  generalize hwa : w3.alloc (.cells #[.int .i64 0, .int .i64 0, .slice none 0 0] 24) = wa at *
  have HO := Lib.hid (own_lit wa wa.heap.size [] (Nat.le_refl _) (by unfold maxLen; simp))
  have HBa := Lib.hid (below_alloc (Below.refl _ wa) (.cells #[] 5))
  have HRa := Lib.hid (HR3.out.below HBa.out)
  have hsz := HBa.out.size
  have tok1 : True := trivial
  have HL1 := Lib.hid (show ([] : List (BitVec 8)).length + X.length ≤ 140737488355328 by rw [HN.out]; simp; omega)
  have HL2 := Lib.hid (show ([] ++ X).length + more.length ≤ 140737488355328 by have := HML.out; rw [List.nil_append, HN.out]; omega)
  go_wp2_with (first
    | (at_builtin; have _t := tok1; refine wpList_app rfl _ _ rfl wa.heap.size _ [] rfl HO.out _ X rfl HRa.out HL1.out hsz ?_; intro v1 wb hown1 hg1; have HO1 := Lib.hid hown1; have HBb := Lib.hid (HO.out.grown HBa.out hg1); have HVb := Lib.hid (HV3.out.below HBb.out); have hsz1 := HBb.out.size; clear hown1 hg1 tok1 _t HO HBa HRa hsz)
    | (at_builtin; refine wpList_app rfl _ _ rfl wa.heap.size _ _ rfl HO1.out _ more rfl HVb.out HL2.out hsz1 ?_; intro v2 wc hown2 hg2; have HO2 := Lib.hid hown2; have HBc := Lib.hid (HO1.out.grown HBb.out hg2); clear hown2 hg2 HO1 HBb HVb hsz1))
  rw [List.nil_append] at HO2
  (with_reducible refine (HD2.out _ _ HO2.out.byts).mono ?_)
  rintro e w4 ⟨v4, rfl, hv4, hb⟩
  obtain ⟨a4, c4, rfl⟩ := hv4.len
  have hal := below_alloc (Below.refl _ w4) (.cells #[.int .i64 (x3.toNat : Int), .int .i64 (y3.toNat : Int), .slice a4 zs.length c4] 24)
  have HZ4 := Lib.hid (box_new w4 (x3.toNat : Int) (y3.toNat : Int) (.slice a4 zs.length c4))
  have HQ4 := Lib.hid (hv4.below hal)
  clear hv4
  have hb' := below_call (below_call HBc.out hb) hal
  have HX4 := Lib.hid (HX3.out.below hb')
  have HB4 := Lib.hid (below_call HB3.out hb')
  have HU4 := Lib.hid (HU3.out.below hb')
  obtain ⟨e0, e1, e2⟩ := HX4.out.cells
  obtain ⟨d0, d1, d2⟩ := HZ4.out.cells
  clear hb hb' hal HX3 HB3 HU3 HV3 HR3 HO2 HBc HD2
  go_wp2_with fail
  (with_reducible refine (same_any _ _ _ _ _ _ zs xs _ HQ4.out HU4.out t HS2.out).mono ?_)
  rintro e w6 ⟨rfl, hb⟩
  have HB6 := Lib.hid (below_call HB4.out hb)
  clear hb
  go_wp2_with fail
  go_ret
  exact ⟨by simp, HB6.out⟩

set_option maxHeartbeats 4000000 in
set_option maxRecDepth 10000 in
theorem short_yn (x y : BitVec 8) (p : Nat) (u v : Value) (xs more : List (BitVec 8)) (w : World) (hu : Byts w u xs) (hv : Byts w v more) (hx : x.toNat ≤ 15) (hxl : xs.length ≤ 16) (hml : more.length ≤ 50) (hp : p < xs.length + 5) (x2 y2 : BitVec 8) (ys : List (BitVec 8)) (h1 : (sealed (frm x y xs)).take p = sealed (frm x2 y2 ys)) (hd1 : ∀ u w, Byts w u ((sealed (frm x y xs)).take p) → Calls Tryd.prog 12 #[u] w fun e w' => ∃ v, e = .returned (.tuple #[.agg #[.int .i64 (x2.toNat : Int), .int .i64 (y2.toNat : Int), v], .nilIface]) ∧ Byts w' v ys ∧ Below w.heap.size w w') (hd2 : ∀ u w, Byts w u (sealed (frm x y xs) ++ more) → Calls Tryd.prog 12 #[u] w fun e w' => ∃ g, e = .returned (.tuple #[.agg #[.int .i64 0, .int .i64 0, .slice none 0 0], .iface 50 (.pointer (some ⟨g, 0, none⟩))]) ∧ Below w.heap.size w w') :
    Calls Tryd.prog 6 #[.agg #[.int .i64 (x.toNat : Int), .int .i64 (y.toNat : Int), u], .int .i64 (p : Int), v] w fun e w' => e = .returned (.bool true) ∧ Below w.heap.size w w' := by
  have q0 : decide ((300 : Int) < (xs.length : Int)) = false := decide_eq_false (by omega)
  have q1 : decide ((50 : Int) < (more.length : Int)) = false := decide_eq_false (by omega)
  have HF1 := Lib.hid hx
  have HF2 := Lib.hid hxl
  obtain ⟨n, hn⟩ : ∃ n, n = xs.length + 5 := ⟨_, rfl⟩
  have HN := Lib.hid ((length_sealed x y xs).trans hn.symm)
  have hn40 : n ≤ 40 := by omega
  have hpn : p < n := by omega
  have q3 : decide ((p : Int) < 0) = false := decide_eq_false (by omega)
  have q4 : decide ((n : Int) ≤ (p : Int)) = false := decide_eq_false (by omega)
  have HD1 := Lib.hid hd1
  have HD2 := Lib.hid hd2
  have HML := Lib.hid hml
  have hs1 : false = decide ((x2.toNat : Int) = (x.toNat : Int) ∧ (y2.toNat : Int) = (y.toNat : Int) ∧ ys = xs) := by
    symm
    refine decide_eq_false fun hh => ?_
    have hlen := congrArg List.length h1
    rw [List.length_take, length_sealed, length_sealed, hh.2.2] at hlen
    omega
  have HS1 := Lib.hid hs1
  have HU := Lib.hid hu
  have HV := Lib.hid hv
  obtain ⟨au, cu, rfl⟩ := hu.len
  obtain ⟨av, cv, rfl⟩ := hv.len
  clear hu hv hx hxl hml hp hn hd1 hd2 h1 hs1
  have HB := Lib.hid (below_alloc (Below.refl _ w) (.cells #[.int .i64 (x.toNat : Int), .int .i64 (y.toNat : Int), .slice au xs.length cu] 24))
  have HX := Lib.hid (box_new w (x.toNat : Int) (y.toNat : Int) (.slice au xs.length cu))
  go_enter Tryd.func6, Tryd.ntmps6
  go_wp2_with fail
  (with_reducible refine (small_true _).mono ?_)
  rintro e w1 ⟨rfl, hb⟩
  have HX1 := Lib.hid (HX.out.below hb)
  obtain ⟨e0, e1, e2⟩ := HX1.out.cells
  have HB1 := Lib.hid (below_call HB.out hb)
  have HU1 := Lib.hid (HU.out.below HB1.out)
  have HV1 := Lib.hid (HV.out.below HB1.out)
  clear hb HX HB HU HV
  go_wp2_with fail
  (with_reducible refine (enc_yes _ _ _ _ _ HU1.out HF1.out HF2.out).mono ?_)
  rintro e w2 ⟨r, rfl, hown, hb⟩
  obtain ⟨g, cap, rfl, hcap, hBg⟩ := hown.form (by rw [HN.out]; omega)
  have HX2 := Lib.hid (HX1.out.below hb)
  have HB2 := Lib.hid (below_call HB1.out hb)
  have HU2 := Lib.hid (HU1.out.below hb)
  have HV2 := Lib.hid (HV1.out.below hb)
  have HR2 := Lib.hid hown.byts
  have HT2 := Lib.hid (Byts.take (g := g) (o := 0) (cap := cap) (fun j z hz => by rw [Nat.zero_add]; exact hown.cell rfl j z hz) hcap p (by rw [HN.out]; omega))
  rw [HN.out] at hcap HR2 ⊢
  have hcn : p ≤ cap := by omega
  have hpn2 : p ≤ n := by omega
  clear hb hown hBg e0 e1 e2 HX1 HB1 HU1 HV1
  generalize sealed (frm x y xs) = X at *
  go_wp2_with fail
  (with_reducible refine (HD1.out _ _ HT2.out).mono ?_)
  rintro e w3 ⟨v3, rfl, hv3, hb⟩
  obtain ⟨a3, c3, rfl⟩ := hv3.len
  have hal := below_alloc (Below.refl _ w3) (.cells #[.int .i64 (x2.toNat : Int), .int .i64 (y2.toNat : Int), .slice a3 ys.length c3] 24)
  have HY3 := Lib.hid (box_new w3 (x2.toNat : Int) (y2.toNat : Int) (.slice a3 ys.length c3))
  have HW3 := Lib.hid (hv3.below hal)
  clear hv3
  have hb' := below_call hb hal
  have HX3 := Lib.hid (HX2.out.below hb')
  have HB3 := Lib.hid (below_call HB2.out hb')
  have HU3 := Lib.hid (HU2.out.below hb')
  have HV3 := Lib.hid (HV2.out.below hb')
  have HR3 := Lib.hid (HR2.out.below hb')
  clear hb hb' hal HX2 HB2 HU2 HV2 HR2 HT2 HD1 hcn hpn2
  go_upto_region 8 with fail
  generalize hwa : w3.alloc (.cells #[.int .i64 (x2.toNat : Int), .int .i64 (y2.toNat : Int), .slice a3 ys.length c3] 24) = wa at *
  have HO := Lib.hid (own_lit wa wa.heap.size [] (Nat.le_refl _) (by unfold maxLen; simp))
  have HBa := Lib.hid (below_alloc (Below.refl _ wa) (.cells #[] 5))
  have HRa := Lib.hid (HR3.out.below HBa.out)
  have hsz := HBa.out.size
  have tok1 : True := trivial
  have HL1 := Lib.hid (show ([] : List (BitVec 8)).length + X.length ≤ 140737488355328 by rw [HN.out]; simp; omega)
  have HL2 := Lib.hid (show ([] ++ X).length + more.length ≤ 140737488355328 by have := HML.out; rw [List.nil_append, HN.out]; omega)
  go_wp2_with (first
    | (at_builtin; have _t := tok1; refine wpList_app rfl _ _ rfl wa.heap.size _ [] rfl HO.out _ X rfl HRa.out HL1.out hsz ?_; intro v1 wb hown1 hg1; have HO1 := Lib.hid hown1; have HBb := Lib.hid (HO.out.grown HBa.out hg1); have HVb := Lib.hid (HV3.out.below HBb.out); have hsz1 := HBb.out.size; clear hown1 hg1 tok1 _t HO HBa HRa hsz)
    | (at_builtin; refine wpList_app rfl _ _ rfl wa.heap.size _ _ rfl HO1.out _ more rfl HVb.out HL2.out hsz1 ?_; intro v2 wc hown2 hg2; have HO2 := Lib.hid hown2; have HBc := Lib.hid (HO1.out.grown HBb.out hg2); clear hown2 hg2 HO1 HBb HVb hsz1))
  rw [List.nil_append] at HO2
  (with_reducible refine (HD2.out _ _ HO2.out.byts).mono ?_)
  rintro e w4 ⟨g4, rfl, hb⟩
  have hal := below_alloc (Below.refl _ w4) (.cells #[.int .i64 0, .int .i64 0, .slice none 0 0] 24)
  have hb' := below_call (below_call HBc.out hb) hal
  have HX4 := Lib.hid (HX3.out.below hb')
  have HB4 := Lib.hid (below_call HB3.out hb')
  have HU4 := Lib.hid (HU3.out.below hb')
  obtain ⟨e0, e1, e2⟩ := HX4.out.cells
  have HY4 := Lib.hid (HY3.out.below hb')
  have HW4 := Lib.hid (HW3.out.below hb')
  obtain ⟨f0, f1, f2⟩ := HY4.out.cells
  clear hb hb' hal HX3 HB3 HU3 HV3 HR3 HO2 HBc HD2
  go_wp2_with fail
  (with_reducible refine (same_any _ _ _ _ _ _ ys xs _ HW4.out HU4.out false HS1.out).mono ?_)
  rintro e w5 ⟨rfl, hb⟩
  have HX5 := Lib.hid (HX4.out.below hb)
  have HB5 := Lib.hid (below_call HB4.out hb)
  have HU5 := Lib.hid (HU4.out.below hb)
  clear e0 e1 e2
  obtain ⟨e0, e1, e2⟩ := HX5.out.cells
  clear hb f0 f1 f2
  go_wp2_with fail
  go_ret
  exact ⟨by simp, HB5.out⟩

set_option maxHeartbeats 4000000 in
set_option maxRecDepth 10000 in
theorem short_yy (x y : BitVec 8) (p : Nat) (u v : Value) (xs more : List (BitVec 8)) (w : World) (hu : Byts w u xs) (hv : Byts w v more) (hx : x.toNat ≤ 15) (hxl : xs.length ≤ 16) (hml : more.length ≤ 50) (hp : p < xs.length + 5) (x2 y2 : BitVec 8) (ys : List (BitVec 8)) (h1 : (sealed (frm x y xs)).take p = sealed (frm x2 y2 ys)) (hd1 : ∀ u w, Byts w u ((sealed (frm x y xs)).take p) → Calls Tryd.prog 12 #[u] w fun e w' => ∃ v, e = .returned (.tuple #[.agg #[.int .i64 (x2.toNat : Int), .int .i64 (y2.toNat : Int), v], .nilIface]) ∧ Byts w' v ys ∧ Below w.heap.size w w') (x3 y3 : BitVec 8) (zs : List (BitVec 8)) (h2 : sealed (frm x y xs) ++ more = sealed (frm x3 y3 zs)) (hd2 : ∀ u w, Byts w u (sealed (frm x y xs) ++ more) → Calls Tryd.prog 12 #[u] w fun e w' => ∃ v, e = .returned (.tuple #[.agg #[.int .i64 (x3.toNat : Int), .int .i64 (y3.toNat : Int), v], .nilIface]) ∧ Byts w' v zs ∧ Below w.heap.size w w') :
    Calls Tryd.prog 6 #[.agg #[.int .i64 (x.toNat : Int), .int .i64 (y.toNat : Int), u], .int .i64 (p : Int), v] w fun e w' => e = .returned (.bool true) ∧ Below w.heap.size w w' := by
  have q0 : decide ((300 : Int) < (xs.length : Int)) = false := decide_eq_false (by omega)
  have q1 : decide ((50 : Int) < (more.length : Int)) = false := decide_eq_false (by omega)
  have HF1 := Lib.hid hx
  have HF2 := Lib.hid hxl
  obtain ⟨n, hn⟩ : ∃ n, n = xs.length + 5 := ⟨_, rfl⟩
  have HN := Lib.hid ((length_sealed x y xs).trans hn.symm)
  have hn40 : n ≤ 40 := by omega
  have hpn : p < n := by omega
  have q3 : decide ((p : Int) < 0) = false := decide_eq_false (by omega)
  have q4 : decide ((n : Int) ≤ (p : Int)) = false := decide_eq_false (by omega)
  have HD1 := Lib.hid hd1
  have HD2 := Lib.hid hd2
  have HML := Lib.hid hml
  have hs1 : false = decide ((x2.toNat : Int) = (x.toNat : Int) ∧ (y2.toNat : Int) = (y.toNat : Int) ∧ ys = xs) := by
    symm
    refine decide_eq_false fun hh => ?_
    have hlen := congrArg List.length h1
    rw [List.length_take, length_sealed, length_sealed, hh.2.2] at hlen
    omega
  have HS1 := Lib.hid hs1
  obtain ⟨t, ht, hs2⟩ : ∃ t : Bool, ((more.length : Int) == 0) = t ∧ t = decide ((x3.toNat : Int) = (x.toNat : Int) ∧ (y3.toNat : Int) = (y.toNat : Int) ∧ zs = xs) := by
    by_cases hm0 : more = []
    · refine ⟨true, by rw [hm0]; rfl, ?_⟩
      symm
      rw [hm0, List.append_nil] at h2
      obtain ⟨rfl, rfl, rfl⟩ := frm_inj (sealed_inj h2)
      simp
    · refine ⟨false, ?_, ?_⟩
      · have : more.length ≠ 0 := fun h => hm0 (List.length_eq_zero_iff.1 h)
        simp; exact hm0
      · symm
        refine decide_eq_false fun hh => hm0 ?_
        have hlen := congrArg List.length h2
        rw [List.length_append, length_sealed, length_sealed, hh.2.2] at hlen
        exact List.length_eq_zero_iff.1 (by omega)
  have HS2 := Lib.hid hs2
  have qt : (t == t) = true := by simp
  have HU := Lib.hid hu
  have HV := Lib.hid hv
  obtain ⟨au, cu, rfl⟩ := hu.len
  obtain ⟨av, cv, rfl⟩ := hv.len
  clear hu hv hx hxl hml hp hn hd1 hd2 h1 hs1 h2 hs2
  have HB := Lib.hid (below_alloc (Below.refl _ w) (.cells #[.int .i64 (x.toNat : Int), .int .i64 (y.toNat : Int), .slice au xs.length cu] 24))
  have HX := Lib.hid (box_new w (x.toNat : Int) (y.toNat : Int) (.slice au xs.length cu))
  go_enter Tryd.func6, Tryd.ntmps6
  go_wp2_with fail
  (with_reducible refine (small_true _).mono ?_)
  rintro e w1 ⟨rfl, hb⟩
  have HX1 := Lib.hid (HX.out.below hb)
  obtain ⟨e0, e1, e2⟩ := HX1.out.cells
  have HB1 := Lib.hid (below_call HB.out hb)
  have HU1 := Lib.hid (HU.out.below HB1.out)
  have HV1 := Lib.hid (HV.out.below HB1.out)
  clear hb HX HB HU HV
  go_wp2_with fail
  (with_reducible refine (enc_yes _ _ _ _ _ HU1.out HF1.out HF2.out).mono ?_)
  rintro e w2 ⟨r, rfl, hown, hb⟩
  obtain ⟨g, cap, rfl, hcap, hBg⟩ := hown.form (by rw [HN.out]; omega)
  have HX2 := Lib.hid (HX1.out.below hb)
  have HB2 := Lib.hid (below_call HB1.out hb)
  have HU2 := Lib.hid (HU1.out.below hb)
  have HV2 := Lib.hid (HV1.out.below hb)
  have HR2 := Lib.hid hown.byts
  have HT2 := Lib.hid (Byts.take (g := g) (o := 0) (cap := cap) (fun j z hz => by rw [Nat.zero_add]; exact hown.cell rfl j z hz) hcap p (by rw [HN.out]; omega))
  rw [HN.out] at hcap HR2 ⊢
  have hcn : p ≤ cap := by omega
  have hpn2 : p ≤ n := by omega
  clear hb hown hBg e0 e1 e2 HX1 HB1 HU1 HV1
  generalize sealed (frm x y xs) = X at *
  go_wp2_with fail
  (with_reducible refine (HD1.out _ _ HT2.out).mono ?_)
  rintro e w3 ⟨v3, rfl, hv3, hb⟩
  obtain ⟨a3, c3, rfl⟩ := hv3.len
  have hal := below_alloc (Below.refl _ w3) (.cells #[.int .i64 (x2.toNat : Int), .int .i64 (y2.toNat : Int), .slice a3 ys.length c3] 24)
  have HY3 := Lib.hid (box_new w3 (x2.toNat : Int) (y2.toNat : Int) (.slice a3 ys.length c3))
  have HW3 := Lib.hid (hv3.below hal)
  clear hv3
  have hb' := below_call hb hal
  have HX3 := Lib.hid (HX2.out.below hb')
  have HB3 := Lib.hid (below_call HB2.out hb')
  have HU3 := Lib.hid (HU2.out.below hb')
  have HV3 := Lib.hid (HV2.out.below hb')
  have HR3 := Lib.hid (HR2.out.below hb')
  clear hb hb' hal HX2 HB2 HU2 HV2 HR2 HT2 HD1 hcn hpn2
  go_upto_region 8 with fail
  generalize hwa : w3.alloc (.cells #[.int .i64 (x2.toNat : Int), .int .i64 (y2.toNat : Int), .slice a3 ys.length c3] 24) = wa at *
  have HO := Lib.hid (own_lit wa wa.heap.size [] (Nat.le_refl _) (by unfold maxLen; simp))
  have HBa := Lib.hid (below_alloc (Below.refl _ wa) (.cells #[] 5))
  have HRa := Lib.hid (HR3.out.below HBa.out)
  have hsz := HBa.out.size
  have tok1 : True := trivial
  have HL1 := Lib.hid (show ([] : List (BitVec 8)).length + X.length ≤ 140737488355328 by rw [HN.out]; simp; omega)
  have HL2 := Lib.hid (show ([] ++ X).length + more.length ≤ 140737488355328 by have := HML.out; rw [List.nil_append, HN.out]; omega)
  go_wp2_with (first
    | (at_builtin; have _t := tok1; refine wpList_app rfl _ _ rfl wa.heap.size _ [] rfl HO.out _ X rfl HRa.out HL1.out hsz ?_; intro v1 wb hown1 hg1; have HO1 := Lib.hid hown1; have HBb := Lib.hid (HO.out.grown HBa.out hg1); have HVb := Lib.hid (HV3.out.below HBb.out); have hsz1 := HBb.out.size; clear hown1 hg1 tok1 _t HO HBa HRa hsz)
    | (at_builtin; refine wpList_app rfl _ _ rfl wa.heap.size _ _ rfl HO1.out _ more rfl HVb.out HL2.out hsz1 ?_; intro v2 wc hown2 hg2; have HO2 := Lib.hid hown2; have HBc := Lib.hid (HO1.out.grown HBb.out hg2); clear hown2 hg2 HO1 HBb HVb hsz1))
  rw [List.nil_append] at HO2
  (with_reducible refine (HD2.out _ _ HO2.out.byts).mono ?_)
  rintro e w4 ⟨v4, rfl, hv4, hb⟩
  obtain ⟨a4, c4, rfl⟩ := hv4.len
  have hal := below_alloc (Below.refl _ w4) (.cells #[.int .i64 (x3.toNat : Int), .int .i64 (y3.toNat : Int), .slice a4 zs.length c4] 24)
  have HZ4 := Lib.hid (box_new w4 (x3.toNat : Int) (y3.toNat : Int) (.slice a4 zs.length c4))
  have HQ4 := Lib.hid (hv4.below hal)
  clear hv4
  have hb' := below_call (below_call HBc.out hb) hal
  have HX4 := Lib.hid (HX3.out.below hb')
  have HB4 := Lib.hid (below_call HB3.out hb')
  have HU4 := Lib.hid (HU3.out.below hb')
  obtain ⟨e0, e1, e2⟩ := HX4.out.cells
  have HY4 := Lib.hid (HY3.out.below hb')
  have HW4 := Lib.hid (HW3.out.below hb')
  obtain ⟨f0, f1, f2⟩ := HY4.out.cells
  obtain ⟨d0, d1, d2⟩ := HZ4.out.cells
  clear hb hb' hal HX3 HB3 HU3 HV3 HR3 HO2 HBc HD2
  go_wp2_with fail
  (with_reducible refine (same_any _ _ _ _ _ _ ys xs _ HW4.out HU4.out false HS1.out).mono ?_)
  rintro e w5 ⟨rfl, hb⟩
  have HX5 := Lib.hid (HX4.out.below hb)
  have HB5 := Lib.hid (below_call HB4.out hb)
  have HU5 := Lib.hid (HU4.out.below hb)
  clear e0 e1 e2
  obtain ⟨e0, e1, e2⟩ := HX5.out.cells
  have HZ5 := Lib.hid (HZ4.out.below hb)
  have HQ5 := Lib.hid (HQ4.out.below hb)
  clear d0 d1 d2
  obtain ⟨d0, d1, d2⟩ := HZ5.out.cells
  clear hb f0 f1 f2
  go_wp2_with fail
  (with_reducible refine (same_any _ _ _ _ _ _ zs xs _ HQ5.out HU5.out t HS2.out).mono ?_)
  rintro e w6 ⟨rfl, hb⟩
  have HB6 := Lib.hid (below_call HB5.out hb)
  clear hb
  go_wp2_with fail
  go_ret
  exact ⟨by simp, HB6.out⟩

theorem short_any (c q p : Int) (u v : Value) (xs more : List (BitVec 8)) (w : World) (hu : Byts w u xs) (hv : Byts w v more) :
    Calls Tryd.prog 6 #[.agg #[.int .i64 c, .int .i64 q, u], .int .i64 p, v] w fun e w' => e = .returned (.bool true) ∧ Below w.heap.size w w' := by
  by_cases hl : 300 < xs.length ∨ 50 < more.length
  · exact short_long c q p u v xs more w hu hv hl
  · by_cases h : Fit c q xs.length
    · obtain ⟨x, y, rfl, rfl, hx⟩ := fit_bytes h
      have hxl := h.2.2.2.2
      by_cases hp : p < 0 ∨ (xs.length : Int) + 5 ≤ p
      · exact short_out x y p u v xs more w hu hv hx hxl (by omega) hp
      · obtain ⟨k, rfl⟩ : ∃ k : Nat, p = (k : Int) := ⟨p.toNat, by omega⟩
        have hk : k < xs.length + 5 := by omega
        have hm : more.length ≤ 50 := by omega
        rcases dec_cases ((sealed (frm x y xs)).take k) (by rw [List.length_take, length_sealed]; omega) with hd1 | ⟨x2, y2, ys, h1, _, _, hd1⟩ <;>
          rcases dec_cases (sealed (frm x y xs) ++ more) (by rw [List.length_append, length_sealed]; omega) with hd2 | ⟨x3, y3, zs, h2, _, _, hd2⟩
        · exact short_nn x y k u v xs more w hu hv hx hxl hm hk hd1 hd2
        · exact short_ny x y k u v xs more w hu hv hx hxl hm hk hd1 x3 y3 zs h2 hd2
        · exact short_yn x y k u v xs more w hu hv hx hxl hm hk x2 y2 ys h1 hd1 hd2
        · exact short_yy x y k u v xs more w hu hv hx hxl hm hk x2 y2 ys h1 hd1 x3 y3 zs h2 hd2
    · exact short_nf c q p u v xs more w hu hv (by omega) (by omega) h
end Go.Proofs.YtdgehinmkbhjlaaDoor
