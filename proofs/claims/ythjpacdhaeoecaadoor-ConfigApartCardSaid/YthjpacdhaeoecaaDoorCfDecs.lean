/-
  config's Decode by contract.
-/
import Derived.Test.YthjpacdhaeoecaaDoorCfDec
import Derived.Test.YthjpacdhaeoecaaDoorCfCheck
import Derived.Test.YthjpacdhaeoecaaDoorCrcOpens
namespace Go.Proofs.YthjpacdhaeoecaaDoor
open Go.RowKit

/-- What Decode answers: a code, and beside 0 a crossing. -/
def dbody (xs : List (BitVec 8)) : List (BitVec 8) := (front xs).drop 3
def dok (xs : List (BitVec 8)) : Prop := opens xs = true ∧ Pre (front xs) ∧ Full (dbody xs) ∧ OkC (rdT (dbody xs)) (rdLs (dbody xs) (rdN (dbody xs)))
instance (xs : List (BitVec 8)) : Decidable (dok xs) := inferInstanceAs (Decidable (_ ∧ _ ∧ _ ∧ _))
def dcode (xs : List (BitVec 8)) : Int :=
  if opens xs = true then if Pre (front xs) ∧ Full (dbody xs) then if OkC (rdT (dbody xs)) (rdLs (dbody xs) (rdN (dbody xs))) then 0 else 6 else 2 else 3
def dT (xs : List (BitVec 8)) (i : Nat) : Int := if dcode xs = 0 then rdT (dbody xs) i else 0
def dLs (xs : List (BitVec 8)) : List Ln := if dcode xs = 0 then rdLs (dbody xs) (rdN (dbody xs)) else []
theorem dcode_iff (xs : List (BitVec 8)) : dcode xs = 0 ↔ dok xs := by
  unfold dcode dok
  by_cases h1 : opens xs = true
  · by_cases h2 : Pre (front xs) ∧ Full (dbody xs)
    · by_cases h3 : OkC (rdT (dbody xs)) (rdLs (dbody xs) (rdN (dbody xs)))
      · rw [if_pos h1, if_pos h2, if_pos h3]
        exact ⟨fun _ => ⟨h1, h2.1, h2.2, h3⟩, fun _ => rfl⟩
      · rw [if_pos h1, if_pos h2, if_neg h3]
        exact ⟨fun h => absurd h (by decide), fun h => absurd h.2.2.2 h3⟩
    · rw [if_pos h1, if_neg h2]
      exact ⟨fun h => absurd h (by decide), fun h => absurd ⟨h.2.1, h.2.2.1⟩ h2⟩
  · rw [if_neg h1]
    exact ⟨fun h => absurd h (by decide), fun h => absurd h.1 h1⟩
theorem zdec {xs : List (BitVec 8)} (h : dcode xs ≠ 0) (v : Value) : cfc v (dT xs) = cfc v (fun _ => 0) ∧ dLs xs = [] := by
  unfold dT dLs
  simp [h]
theorem zels (w : World) : Els RLn 5 w (.slice none 0 0) [] := ⟨none, 0, rfl, fun j y h => by cases h⟩
/-- Stores into the block of the answer touch no line. -/
theorem Els.aside {w w' : World} {g L c b : Nat} {ls : List Ln} (h : Els RLn 5 w (.slice (some ⟨g, 0, none⟩) L c) ls) (hz : w.cell? ⟨b, 0, none⟩ = some (.slice none 0 0)) (ha : Apart b w w') : Els RLn 5 w' (.slice (some ⟨g, 0, none⟩) L c) ls := by
  obtain ⟨a, c', e, h1⟩ := h
  refine ⟨a, c', e, fun j y hy => ?_⟩
  obtain ⟨y0, hy0⟩ : ∃ y0, ls[0]? = some y0 := by
    have := (List.getElem?_eq_some_iff.1 hy).1
    exact ⟨_, List.getElem?_eq_getElem (by omega)⟩
  obtain ⟨g0, o0, ea0, hr0⟩ := h1 0 y0 hy0
  obtain ⟨g', o, ea, hr⟩ := h1 j y hy
  rw [ea] at ea0 e
  simp only [Value.slice.injEq, Option.some.injEq, Addr.mk.injEq] at e ea0
  obtain ⟨⟨rfl, rfl, _⟩, _⟩ := e
  obtain ⟨rfl, rfl, _⟩ := ea0
  have hne : g ≠ b := by
    rintro rfl
    have := hr0.1
    simp only [Nat.zero_mul, Nat.add_zero] at this
    rw [hz] at this
    cases this
  exact ⟨g, 0, ea, ha.cell hr.1 hne, ha.cell hr.2.1 hne, ha.cell hr.2.2.1 hne, ha.cell hr.2.2.2.1 hne, ha.cell hr.2.2.2.2 hne⟩
theorem front_le (xs : List (BitVec 8)) (n : Nat) (h : xs.length ≤ n) : (front xs).length ≤ n := Nat.le_trans length_front h

set_option maxHeartbeats 2000000 in
set_option maxRecDepth 10000 in
theorem dec_sum (v : Value) (xs : List (BitVec 8)) (w : World) (hv : Byts w v xs) (hl : xs.length ≤ 1000) (ho : opens xs = false) :
    Calls Tryd.prog 12 #[v] w fun e w' => ∃ r, e = .returned (.tuple #[.agg zcf, r]) ∧ ErrV w' r 3 ∧ Below w.heap.size w w' := by
  have HV := Lib.hid hv
  have HO := Lib.hid ho
  have HXL := Lib.hid hl
  clear hv ho hl
  have HB := Lib.hid (below_alloc (Below.refl _ w) (.cells zcf 26))
  have HZ := Lib.hid (blk_new w zcf 26)
  have HVB := Lib.hid (HV.out.below HB.out)
  unfold zcf cfc at *
  go_enter Tryd.func12, Tryd.ntmps12
  go_wp2_with fail
  (with_reducible refine (open_f _ _ _ HVB.out (by have := HXL.out; omega) HO.out).mono ?_)
  rintro e w1 ⟨rfl, hb⟩
  have HB1 := Lib.hid (below_call HB.out hb)
  have HZ1 := Lib.hid (HZ.out.below hb)
  clear hb HB HZ HVB HV
  go_wp2_with fail
  (with_reducible refine (new_form 3 (by decide) _ _).mono ?_)
  rintro e w2 ⟨x, hx, rfl, hc, hb⟩
  have HX := Lib.hid hc
  have HB2 := Lib.hid (below_call HB1.out hb)
  have HZ2 := Lib.hid (HZ1.out.below hb)
  have hne : x ≠ w.heap.size := by have := HZ1.out.lt; omega
  clear hx hc hb HB1 HZ1
  obtain ⟨f0, f1, f2, f3, f4, f5, f6, f7, f8, f9, f10⟩ := HZ2.out.frz11
  obtain ⟨c0, c1, c2, c3, c4, c5, c6, c7, c8, c9, c10⟩ := Blk.eleven (T := fun _ => 0) HZ2.out
  go_wp2_with fail
  (try simp only [Exit.inBlock, Exit.then])
  refine bodyPost_ret (v := .tuple #[.agg (cfc (.slice none 0 0) (fun _ => 0)), .iface 71 (.pointer (some ⟨x, 0, none⟩))]) ?_ rfl ⟨_, rfl, .inr ⟨x, by decide, rfl, (apart11 _ _ _ _ _ _ _ _ _ _ _ _ _).cell HX.out hne⟩, bel11 HB2.out (Nat.le_refl _) _ _ _ _ _ _ _ _ _ _ _⟩
  rw [results_cell_tmp rfl]
  go_simp
  rfl

set_option maxHeartbeats 2000000 in
set_option maxRecDepth 10000 in
theorem dec_mark (v : Value) (xs : List (BitVec 8)) (w : World) (hv : Byts w v xs) (hl : xs.length ≤ 1000) (ho : opens xs = true) (hp : ¬ Pre (front xs)) :
    Calls Tryd.prog 12 #[v] w fun e w' => ∃ r, e = .returned (.tuple #[.agg zcf, r]) ∧ ErrV w' r 2 ∧ Below w.heap.size w w' := by
  have HP := Lib.hid hp
  clear hp
  have HV := Lib.hid hv
  have HO := Lib.hid ho
  have HXL := Lib.hid hl
  clear hv ho hl
  have HB := Lib.hid (below_alloc (Below.refl _ w) (.cells zcf 26))
  have HZ := Lib.hid (blk_new w zcf 26)
  have HVB := Lib.hid (HV.out.below HB.out)
  unfold zcf cfc at *
  go_enter Tryd.func12, Tryd.ntmps12
  go_wp2_with fail
  (with_reducible refine (open_t _ _ _ HVB.out (by have := HXL.out; omega) HO.out).mono ?_)
  rintro e w1 ⟨r1, rfl, hown, hb⟩
  have HR1 := Lib.hid hown.byts
  have HB1 := Lib.hid (below_call HB.out hb)
  have HZ1 := Lib.hid (HZ.out.below hb)
  clear hown hb HB HZ HVB HV
  go_wp2_with fail
  (with_reducible refine (read_no _ _ HP.out _ HR1.out).mono ?_)
  rintro e w2 ⟨r2, rfl, he, hb⟩
  obtain ⟨x, rfl, hx⟩ := he.not (by decide)
  unfold zcf cfc
  have HX0 := Lib.hid hx
  have HB2 := Lib.hid (below_call HB1.out hb)
  have HZ2 := Lib.hid (HZ1.out.below hb)
  have hne : x ≠ w.heap.size := by
    rintro rfl
    have := HZ2.out.cell 1 (u := .int .i64 0) rfl
    rw [hx] at this
    cases this
  clear he hx hb HB1 HZ1 HR1
  have HK := Lib.hid (below_alloc (Below.refl _ w2) (.cells zcf 26))
  have HX := Lib.hid (below_cell HK.out HX0.out)
  have HB3 := Lib.hid (below_call HB2.out HK.out)
  have HZ3 := Lib.hid (HZ2.out.below HK.out)
  unfold zcf cfc at *
  obtain ⟨f0, f1, f2, f3, f4, f5, f6, f7, f8, f9, f10⟩ := HZ3.out.frz11
  obtain ⟨c0, c1, c2, c3, c4, c5, c6, c7, c8, c9, c10⟩ := Blk.eleven (T := fun _ => 0) HZ3.out
  go_wp2_with fail
  (try simp only [Exit.inBlock, Exit.then])
  refine bodyPost_ret (v := .tuple #[.agg (cfc (.slice none 0 0) (fun _ => 0)), .iface 71 (.pointer (some ⟨x, 0, none⟩))]) ?_ rfl ⟨_, rfl, .inr ⟨x, by decide, rfl, (apart11 _ _ _ _ _ _ _ _ _ _ _ _ _).cell HX.out hne⟩, bel11 HB3.out (Nat.le_refl _) _ _ _ _ _ _ _ _ _ _ _⟩
  rw [results_cell_tmp rfl]
  go_simp
  rfl

set_option maxHeartbeats 2000000 in
set_option maxRecDepth 10000 in
theorem dec_form (v : Value) (xs : List (BitVec 8)) (w : World) (hv : Byts w v xs) (hl : xs.length ≤ 1000) (ho : opens xs = true) (hp : Pre (front xs)) (hf : ¬ Full (dbody xs)) :
    Calls Tryd.prog 12 #[v] w fun e w' => ∃ r, e = .returned (.tuple #[.agg zcf, r]) ∧ ErrV w' r 2 ∧ Below w.heap.size w w' := by
  have HP := Lib.hid hp
  have HF := Lib.hid hf
  clear hp hf
  have HV := Lib.hid hv
  have HO := Lib.hid ho
  have HXL := Lib.hid hl
  clear hv ho hl
  have HB := Lib.hid (below_alloc (Below.refl _ w) (.cells zcf 26))
  have HZ := Lib.hid (blk_new w zcf 26)
  have HVB := Lib.hid (HV.out.below HB.out)
  unfold zcf cfc at *
  go_enter Tryd.func12, Tryd.ntmps12
  go_wp2_with fail
  (with_reducible refine (open_t _ _ _ HVB.out (by have := HXL.out; omega) HO.out).mono ?_)
  rintro e w1 ⟨r1, rfl, hown, hb⟩
  have HR1 := Lib.hid hown.byts
  have HB1 := Lib.hid (below_call HB.out hb)
  have HZ1 := Lib.hid (HZ.out.below hb)
  clear hown hb HB HZ HVB HV
  go_wp2_with fail
  obtain ⟨T, hT⟩ : ∃ T, T = rdT (dbody xs) := ⟨_, rfl⟩
  obtain ⟨n, hn⟩ : ∃ n, n = rdN (dbody xs) := ⟨_, rfl⟩
  have HT := Lib.hid hT
  have HN := Lib.hid hn
  clear hT hn
  (with_reducible refine (read_yes _ _ (dbody xs) n 2 T HT.out (fun i => rdL (dbody xs) (21 + 14 * i)) rfl HP.out rfl HN.out (if_neg HF.out).symm (front_le _ _ HXL.out) _ HR1.out).mono ?_)
  rintro e w2 ⟨g, r2, rfl, hls, he, hb⟩
  obtain ⟨x, rfl, hx⟩ := he.not (by decide)
  unfold cfc
  have HX0 := Lib.hid hx
  have HB2 := Lib.hid (below_call HB1.out hb)
  have HZ2 := Lib.hid (HZ1.out.below hb)
  have hne : x ≠ w.heap.size := by
    rintro rfl
    have := HZ2.out.cell 1 (u := .int .i64 0) rfl
    rw [hx] at this
    cases this
  clear he hx hb hls HB1 HZ1 HR1
  have HK := Lib.hid (below_alloc (Below.refl _ w2) (.cells (cfc (.slice (some ⟨g, 0, none⟩) n n) T) 26))
  have HX := Lib.hid (below_cell HK.out HX0.out)
  have HB3 := Lib.hid (below_call HB2.out HK.out)
  have HZ3 := Lib.hid (HZ2.out.below HK.out)
  unfold cfc at *
  obtain ⟨f0, f1, f2, f3, f4, f5, f6, f7, f8, f9, f10⟩ := HZ3.out.frz11
  obtain ⟨c0, c1, c2, c3, c4, c5, c6, c7, c8, c9, c10⟩ := Blk.eleven (T := fun _ => 0) HZ3.out
  go_wp2_with fail
  (try simp only [Exit.inBlock, Exit.then])
  refine bodyPost_ret (v := .tuple #[.agg (cfc (.slice none 0 0) (fun _ => 0)), .iface 71 (.pointer (some ⟨x, 0, none⟩))]) ?_ rfl ⟨_, rfl, .inr ⟨x, by decide, rfl, (apart11 _ _ _ _ _ _ _ _ _ _ _ _ _).cell HX.out hne⟩, bel11 HB3.out (Nat.le_refl _) _ _ _ _ _ _ _ _ _ _ _⟩
  rw [results_cell_tmp rfl]
  go_simp
  rfl

set_option maxHeartbeats 2000000 in
set_option maxRecDepth 10000 in
theorem dec_range (v : Value) (xs : List (BitVec 8)) (w : World) (hv : Byts w v xs) (hl : xs.length ≤ 1000) (ho : opens xs = true) (hp : Pre (front xs)) (hf : Full (dbody xs)) (hc : ¬ OkC (rdT (dbody xs)) (rdLs (dbody xs) (rdN (dbody xs)))) :
    Calls Tryd.prog 12 #[v] w fun e w' => ∃ r, e = .returned (.tuple #[.agg zcf, r]) ∧ ErrV w' r 6 ∧ Below w.heap.size w w' := by
  have HP := Lib.hid hp
  have HF := Lib.hid hf
  have HC := Lib.hid hc
  clear hp hf hc
  have HV := Lib.hid hv
  have HO := Lib.hid ho
  have HXL := Lib.hid hl
  clear hv ho hl
  have HB := Lib.hid (below_alloc (Below.refl _ w) (.cells zcf 26))
  have HZ := Lib.hid (blk_new w zcf 26)
  have HVB := Lib.hid (HV.out.below HB.out)
  unfold zcf cfc at *
  go_enter Tryd.func12, Tryd.ntmps12
  go_wp2_with fail
  (with_reducible refine (open_t _ _ _ HVB.out (by have := HXL.out; omega) HO.out).mono ?_)
  rintro e w1 ⟨r1, rfl, hown, hb⟩
  have HR1 := Lib.hid hown.byts
  have HB1 := Lib.hid (below_call HB.out hb)
  have HZ1 := Lib.hid (HZ.out.below hb)
  clear hown hb HB HZ HVB HV
  go_wp2_with fail
  obtain ⟨T, hT⟩ : ∃ T, T = rdT (dbody xs) := ⟨_, rfl⟩
  obtain ⟨n, hn⟩ : ∃ n, n = rdN (dbody xs) := ⟨_, rfl⟩
  have HT := Lib.hid hT
  have HN := Lib.hid hn
  clear hT hn
  (with_reducible refine (read_yes _ _ (dbody xs) n 0 T HT.out (fun i => rdL (dbody xs) (21 + 14 * i)) rfl HP.out rfl HN.out (if_pos HF.out).symm (front_le _ _ HXL.out) _ HR1.out).mono ?_)
  rintro e w2 ⟨g, r2, rfl, hls, he, hb⟩
  obtain rfl := he.nil
  unfold cfc
  have HB2 := Lib.hid (below_call HB1.out hb)
  have HZ2 := Lib.hid (HZ1.out.below hb)
  have HK := Lib.hid (below_alloc (Below.refl _ w2) (.cells (cfc (.slice (some ⟨g, 0, none⟩) n n) T) 26))
  have HB3 := Lib.hid (below_call HB2.out HK.out)
  have HZ3 := Lib.hid (HZ2.out.below HK.out)
  have HQ3 := Lib.hid (blk_new w2 (cfc (.slice (some ⟨g, 0, none⟩) n n) T) 26)
  have HE3 := Lib.hid (hls.below (fun _ _ _ h => h.below HK.out))
  have HCH := Lib.hid (check_any _ T _ 6 (by rw [HT.out, HN.out]; exact (if_neg HC.out).symm) _ HE3.out)
  clear he hb hls HB1 HZ1 HR1 HB2 HZ2
  unfold cfc at *
  go_wp2_with fail
  (with_reducible refine HCH.out.mono ?_)
  rintro e w4 ⟨r4, rfl, he, hb⟩
  have HB4 := Lib.hid (below_call HB3.out hb)
  have HZ4 := Lib.hid (HZ3.out.below hb)
  obtain ⟨x, rfl, hx⟩ := he.not (by decide)
  have HX := Lib.hid hx
  have hne : x ≠ w.heap.size := by
    rintro rfl
    have := HZ4.out.cell 1 (u := .int .i64 0) rfl
    rw [hx] at this
    cases this
  clear he hx hb HB3 HZ3 HQ3 HE3 HCH HK
  obtain ⟨f0, f1, f2, f3, f4, f5, f6, f7, f8, f9, f10⟩ := HZ4.out.frz11
  obtain ⟨c0, c1, c2, c3, c4, c5, c6, c7, c8, c9, c10⟩ := Blk.eleven (T := fun _ => 0) HZ4.out
  go_wp2_with fail
  (try simp only [Exit.inBlock, Exit.then])
  refine bodyPost_ret (v := .tuple #[.agg (cfc (.slice none 0 0) (fun _ => 0)), .iface 71 (.pointer (some ⟨x, 0, none⟩))]) ?_ rfl ⟨_, rfl, .inr ⟨x, by decide, rfl, (apart11 _ _ _ _ _ _ _ _ _ _ _ _ _).cell HX.out hne⟩, bel11 HB4.out (Nat.le_refl _) _ _ _ _ _ _ _ _ _ _ _⟩
  rw [results_cell_tmp rfl]
  go_simp
  rfl

set_option maxHeartbeats 2000000 in
set_option maxRecDepth 10000 in
theorem dec_yes (v : Value) (xs : List (BitVec 8)) (w : World) (hv : Byts w v xs) (hl : xs.length ≤ 1000) (ho : opens xs = true) (hp : Pre (front xs)) (hf : Full (dbody xs)) (hc :  OkC (rdT (dbody xs)) (rdLs (dbody xs) (rdN (dbody xs)))) :
    Calls Tryd.prog 12 #[v] w fun e w' => ∃ g, e = .returned (.tuple #[.agg (cfc (.slice (some ⟨g, 0, none⟩) (rdN (dbody xs)) (rdN (dbody xs))) (rdT (dbody xs))), .nilIface]) ∧ Els RLn 5 w' (.slice (some ⟨g, 0, none⟩) (rdN (dbody xs)) (rdN (dbody xs))) (rdLs (dbody xs) (rdN (dbody xs))) ∧ Below w.heap.size w w' := by
  have HP := Lib.hid hp
  have HF := Lib.hid hf
  have HC := Lib.hid hc
  clear hp hf hc
  have HV := Lib.hid hv
  have HO := Lib.hid ho
  have HXL := Lib.hid hl
  clear hv ho hl
  have HB := Lib.hid (below_alloc (Below.refl _ w) (.cells zcf 26))
  have HZ := Lib.hid (blk_new w zcf 26)
  have HVB := Lib.hid (HV.out.below HB.out)
  unfold zcf cfc at *
  go_enter Tryd.func12, Tryd.ntmps12
  go_wp2_with fail
  (with_reducible refine (open_t _ _ _ HVB.out (by have := HXL.out; omega) HO.out).mono ?_)
  rintro e w1 ⟨r1, rfl, hown, hb⟩
  have HR1 := Lib.hid hown.byts
  have HB1 := Lib.hid (below_call HB.out hb)
  have HZ1 := Lib.hid (HZ.out.below hb)
  clear hown hb HB HZ HVB HV
  go_wp2_with fail
  obtain ⟨T, hT⟩ : ∃ T, T = rdT (dbody xs) := ⟨_, rfl⟩
  obtain ⟨n, hn⟩ : ∃ n, n = rdN (dbody xs) := ⟨_, rfl⟩
  have HT := Lib.hid hT
  have HN := Lib.hid hn
  clear hT hn
  (with_reducible refine (read_yes _ _ (dbody xs) n 0 T HT.out (fun i => rdL (dbody xs) (21 + 14 * i)) rfl HP.out rfl HN.out (if_pos HF.out).symm (front_le _ _ HXL.out) _ HR1.out).mono ?_)
  rintro e w2 ⟨g, r2, rfl, hls, he, hb⟩
  obtain rfl := he.nil
  unfold cfc
  have HB2 := Lib.hid (below_call HB1.out hb)
  have HZ2 := Lib.hid (HZ1.out.below hb)
  have HK := Lib.hid (below_alloc (Below.refl _ w2) (.cells (cfc (.slice (some ⟨g, 0, none⟩) n n) T) 26))
  have HB3 := Lib.hid (below_call HB2.out HK.out)
  have HZ3 := Lib.hid (HZ2.out.below HK.out)
  have HQ3 := Lib.hid (blk_new w2 (cfc (.slice (some ⟨g, 0, none⟩) n n) T) 26)
  have HE3 := Lib.hid (hls.below (fun _ _ _ h => h.below HK.out))
  have HCH := Lib.hid (check_any _ T _ 0 (by rw [HT.out, HN.out]; exact (if_pos HC.out).symm) _ HE3.out)
  clear he hb hls HB1 HZ1 HR1 HB2 HZ2
  unfold cfc at *
  go_wp2_with fail
  (with_reducible refine HCH.out.mono ?_)
  rintro e w4 ⟨r4, rfl, he, hb⟩
  have HB4 := Lib.hid (below_call HB3.out hb)
  have HZ4 := Lib.hid (HZ3.out.below hb)
  obtain rfl := he.nil
  have HQ4 := Lib.hid (HQ3.out.below hb)
  have HE4 := Lib.hid (HE3.out.below (fun _ _ _ h => h.below hb))
  clear he hb HB3 HZ3 HQ3 HE3 HCH HK
  obtain ⟨f0, f1, f2, f3, f4, f5, f6, f7, f8, f9, f10⟩ := HZ4.out.frz11
  obtain ⟨c0, c1, c2, c3, c4, c5, c6, c7, c8, c9, c10⟩ := Blk.eleven (T := fun _ => 0) HZ4.out
  obtain ⟨d0, d1, d2, d3, d4, d5, d6, d7, d8, d9, d10⟩ := Blk.eleven (T := T) HQ4.out
  go_wp2_with fail
  (try simp only [Exit.inBlock, Exit.then])
  refine bodyPost_ret (v := .tuple #[.agg (cfc (.slice (some ⟨g, 0, none⟩) n n) T), .nilIface]) ?_ rfl ⟨g, by rw [HT.out, HN.out]; rfl, ?_, bel11 HB4.out (Nat.le_refl _) _ _ _ _ _ _ _ _ _ _ _⟩
  · rw [results_cell_tmp rfl]
    go_simp
    rfl
  · rw [← HN.out]
    exact HE4.out.aside (HZ4.out.cell 0 (u := .slice none 0 0) rfl) (apart11 _ _ _ _ _ _ _ _ _ _ _ _ _)

/-- All of it in one. -/
theorem dec_any (v : Value) (xs : List (BitVec 8)) (code : Int) (T : Nat → Int) (ls : List Ln) (hcode : code = dcode xs) (hT : T = dT xs) (hls : ls = dLs xs) (w : World) (hv : Byts w v xs) (hl : xs.length ≤ 1000) :
    Calls Tryd.prog 12 #[v] w fun e w' => ∃ a c r, e = .returned (.tuple #[.agg (cfc (.slice a ls.length c) T), r]) ∧ Els RLn 5 w' (.slice a ls.length c) ls ∧ ErrV w' r code ∧ Below w.heap.size w w' := by
  have no : ∀ k, code = k → k ≠ 0 → (Calls Tryd.prog 12 #[v] w fun e w' => ∃ r, e = .returned (.tuple #[.agg zcf, r]) ∧ ErrV w' r k ∧ Below w.heap.size w w') →
      Calls Tryd.prog 12 #[v] w fun e w' => ∃ a c r, e = .returned (.tuple #[.agg (cfc (.slice a ls.length c) T), r]) ∧ Els RLn 5 w' (.slice a ls.length c) ls ∧ ErrV w' r code ∧ Below w.heap.size w w' := by
    intro k hk h0 h
    obtain ⟨z1, z2⟩ := zdec (xs := xs) (by rw [← hcode, hk]; exact h0) (.slice none 0 0)
    refine h.mono fun e w' ⟨r, he, hr, hb⟩ => ⟨none, 0, r, ?_, ?_, by rw [hk]; exact hr, hb⟩
    · rw [he, hT, hls, z2, List.length_nil, z1]; rfl
    · rw [hls, z2]; exact zels _
  by_cases ho : opens xs = true
  · by_cases hp : Pre (front xs)
    · by_cases hf : Full (dbody xs)
      · by_cases hc : OkC (rdT (dbody xs)) (rdLs (dbody xs) (rdN (dbody xs)))
        · have h0 : dcode xs = 0 := (dcode_iff xs).2 ⟨ho, hp, hf, hc⟩
          have e1 : T = rdT (dbody xs) := by rw [hT]; funext i; unfold dT; rw [if_pos h0]
          have e2 : ls = rdLs (dbody xs) (rdN (dbody xs)) := by rw [hls]; unfold dLs; rw [if_pos h0]
          have e3 : ls.length = rdN (dbody xs) := by rw [e2, rdLs_length]
          rw [e3, e1, e2, hcode, h0]
          exact (dec_yes v xs w hv hl ho hp hf hc).mono fun e w' ⟨g, he, hs, hb⟩ => ⟨_, _, _, he, hs, .inl ⟨rfl, rfl⟩, hb⟩
        · exact no 6 (by rw [hcode]; unfold dcode; rw [if_pos ho, if_pos ⟨hp, hf⟩, if_neg hc]) (by decide) (dec_range v xs w hv hl ho hp hf hc)
      · exact no 2 (by rw [hcode]; unfold dcode; rw [if_pos ho, if_neg (fun h => hf h.2)]) (by decide) (dec_form v xs w hv hl ho hp hf)
    · exact no 2 (by rw [hcode]; unfold dcode; rw [if_pos ho, if_neg (fun h => hp h.1)]) (by decide) (dec_mark v xs w hv hl ho hp)
  · exact no 3 (by rw [hcode]; unfold dcode; rw [if_neg ho]) (by decide) (dec_sum v xs w hv hl (by simpa using ho))
end Go.Proofs.YthjpacdhaeoecaaDoor
