/-
  The document's Decode, by contract.
-/
import Derived.Test.YthjpacdhaeoecaaDoorCfDecs
import Derived.Test.YthjpacdhaeoecaaDoorCfRchk
import Derived.Test.YthjpacdhaeoecaaDoorCfLn
import Derived.Test.YthjpacdhaeoecaaDoorOcRnum
import Derived.Test.YthjpacdhaeoecaaDoorCrcRopen
import Derived.Test.YthjpacdhaeoecaaDoorTxt
namespace Go.Proofs.YthjpacdhaeoecaaDoor
open Go.RowKit

/-- The document's reader over xs that was asked for m bytes. -/
def RdS (w : World) (b lo L : Nat) (xs : List (BitVec 8)) (m : Nat) : Prop := Rd w 69 b lo L (xs.drop m) (decide (xs.length < m))
theorem RdS.took {w w' : World} {b lo L : Nat} {xs : List (BitVec 8)} {m k : Nat} (h : Took 69 b lo L (xs.drop m) (decide (xs.length < m)) k w w') : RdS w' b lo L xs (m + k) := by
  have h1 := h.1
  unfold RdS
  rw [List.drop_drop] at h1
  have e : (decide (xs.length < m) || decide ((xs.drop m).length < k)) = decide (xs.length < m + k) := by
    rw [List.length_drop, ← Bool.decide_or]
    congr 1
    apply propext
    omega
  rw [e] at h1
  exact h1
theorem RdS.below {w w' : World} {b lo L : Nat} {xs : List (BitVec 8)} {m : Nat} (h : RdS w b lo L xs m) (hb : Below w.heap.size w w') : RdS w' b lo L xs m := Rd.below h hb
theorem RdS.lt {w : World} {b lo L : Nat} {xs : List (BitVec 8)} {m : Nat} (h : RdS w b lo L xs m) : b < w.heap.size := Rd.lt h
theorem RdS.far {w : World} {b lo L : Nat} {xs : List (BitVec 8)} {m : Nat} (h : RdS w b lo L xs m) (g o : Nat) (u : Value) (hg : b < g) : RdS (w.setCell ⟨g, o, none⟩ u) b lo L xs m := by
  have hle := Rd.le h
  exact Rd.apart h (Apart.set_ g o w u) (by omega) (.inr (by omega))
theorem num2 {w : World} {b lo L : Nat} {xs : List (BitVec 8)} {m : Nat} (h : RdS w b lo L xs m) (hl : xs.length ≤ 1000) :
    Calls Tryd.prog 30 #[.pointer (some ⟨b, 0, none⟩), .int .i64 2] w fun e w' => e = .returned (.int .u32 (val 2 (xs.drop m) : Int)) ∧ RdS w' b lo L xs (m + 2) ∧ Apart b w w' :=
  (rnum_any 2 69 b lo L _ _ w (by decide) (by decide) (fun e => List.drop_eq_nil_of_le (by simp at e; omega)) h (by rw [List.length_drop]; omega)).mono fun _ _ ⟨he, ht⟩ => ⟨he, RdS.took ht, ht.2⟩
theorem num4 {w : World} {b lo L : Nat} {xs : List (BitVec 8)} {m : Nat} (h : RdS w b lo L xs m) (hl : xs.length ≤ 1000) :
    Calls Tryd.prog 30 #[.pointer (some ⟨b, 0, none⟩), .int .i64 4] w fun e w' => e = .returned (.int .u32 (val 4 (xs.drop m) : Int)) ∧ RdS w' b lo L xs (m + 4) ∧ Apart b w w' :=
  (rnum_any 4 69 b lo L _ _ w (by decide) (by decide) (fun e => List.drop_eq_nil_of_le (by simp at e; omega)) h (by rw [List.length_drop]; omega)).mono fun _ _ ⟨he, ht⟩ => ⟨he, RdS.took ht, ht.2⟩

theorem ta_set (f : Nat → Int) (j : Nat) (h : j < 10) (x : Int) (hx : x = f j) : (ta (upto f j)).setIfInBounds j (.int .i64 x) = ta (upto f (j + 1)) := by
  subst hx
  rcases j with _ | _ | _ | _ | _ | _ | _ | _ | _ | _ | j
  all_goals first | omega | simp [ta, upto]
theorem ta_all (f : Nat → Int) : ta (upto f 10) = ta f := by simp [ta, upto]
theorem ta_none (f : Nat → Int) : ta (upto f 0) = ta (fun _ => 0) := by simp [ta, upto]
theorem Blk.ten {w : World} {g : Nat} {T : Nat → Int} {TT : TypeId} (h : Blk w g (ta T) TT) : w.cell? ⟨g, 0, none⟩ = some (.int .i64 (T 0)) ∧ w.cell? ⟨g, 1, none⟩ = some (.int .i64 (T 1)) ∧ w.cell? ⟨g, 2, none⟩ = some (.int .i64 (T 2)) ∧ w.cell? ⟨g, 3, none⟩ = some (.int .i64 (T 3)) ∧ w.cell? ⟨g, 4, none⟩ = some (.int .i64 (T 4)) ∧ w.cell? ⟨g, 5, none⟩ = some (.int .i64 (T 5)) ∧ w.cell? ⟨g, 6, none⟩ = some (.int .i64 (T 6)) ∧ w.cell? ⟨g, 7, none⟩ = some (.int .i64 (T 7)) ∧ w.cell? ⟨g, 8, none⟩ = some (.int .i64 (T 8)) ∧ w.cell? ⟨g, 9, none⟩ = some (.int .i64 (T 9)) :=
  ⟨h.cell 0 rfl, h.cell 1 rfl, h.cell 2 rfl, h.cell 3 rfl, h.cell 4 rfl, h.cell 5 rfl, h.cell 6 rfl, h.cell 7 rfl, h.cell 8 rfl, h.cell 9 rfl⟩
theorem Keep.of_apart {b : Nat} {w w' : World} (h : Apart b w w') : Keep (fun g => g = b) w w' := ⟨h.os, h.tape, h.output, h.size, h.block⟩
theorem Keep.next {b : Nat} {w w1 w2 : World} (h : Keep (fun g => g = b) w w1) (ha : Apart b w1 w2) : Keep (fun g => g = b) w w2 := h.trans (Keep.of_apart ha) (fun _ e => .inl e)
theorem Keep.own_ {b g o : Nat} {u : Value} {w w1 : World} (h : Keep (fun g => g = b) w w1) (hg : w.heap.size ≤ g) : Keep (fun g => g = b) w (w1.setCell ⟨g, o, none⟩ u) :=
  h.trans (Keep.set_ (F := fun x => x = g) w1 g o u rfl) (fun _ e => .inr (by rw [e]; exact hg))
theorem Blk.low {B g : Nat} {w w' : World} {C : Array Value} {T : TypeId} (h : Blk w g C T) (hb : Below B w w') (hg : g < B) : Blk w' g C T := (hb.block g hg).trans h
theorem cell_low {B g o : Nat} {w w' : World} {v : Value} (h : w.cell? ⟨g, o, none⟩ = some v) (hb : Below B w w') (hg : g < B) : w'.cell? ⟨g, o, none⟩ = some v := by
  rw [World.cell?_of_block (w := w) (a := ⟨g, o, none⟩) (hb.block g hg)]; exact h
theorem RdS.low {B b L : Nat} {w w' : World} {xs : List (BitVec 8)} {m : Nat} (h : RdS w b 0 L xs m) (hb : Below B w w') (hB : b < B) : RdS w' b 0 L xs m := by
  obtain ⟨v, h, ⟨hl, hin⟩, hle⟩ := h
  refine ⟨v, (hb.block b hB).trans h, ⟨?_, hin⟩, hle⟩
  rcases hl with h | ⟨g, o, cap, hv, hc, h⟩
  · exact .inl h
  · refine .inr ⟨g, o, cap, hv, hc, fun j x hx => cell_low (h j x hx) hb ?_⟩
    rcases hin _ _ _ hv with h0 | h0
    · have := (List.getElem?_eq_some_iff.1 hx).1; omega
    · have := h0.2; simp only at this; omega
theorem cell_far {w : World} {g o b p : Nat} {v u : Value} (h : w.cell? ⟨g, o, none⟩ = some v) (hn : g ≠ b) : (w.setCell ⟨b, p, none⟩ u).cell? ⟨g, o, none⟩ = some v := (Apart.set_ b p w u).cell h hn
theorem mark_list : (txt mark).toList = [88, 66, 49] := by rw [ByteArray.toList_eq]; rfl
theorem rdN_at {F : List (BitVec 8)} {x : BitVec 8} (h : F[3]? = some x) : rdN (F.drop 3) = x.toNat := by
  obtain ⟨hl, hx⟩ := List.getElem?_eq_some_iff.1 h
  unfold rdN
  rw [val_all (by rw [List.length_drop]; omega), ← List.getElem_cons_drop hl, hx]
  simp [num_single]
theorem pf_iff (F : List (BitVec 8)) : (Pre F ∧ Full (F.drop 3)) ↔ (4 ≤ F.length ∧ F.take 3 = mark ∧ F.length = 24 + 14 * rdN (F.drop 3)) := by
  unfold Full Pre
  rw [List.length_drop, show mark.length = 3 from rfl]
  constructor
  · rintro ⟨⟨h1, h2⟩, h3⟩
    exact ⟨by omega, h2, by omega⟩
  · rintro ⟨h1, h2, h3⟩
    exact ⟨⟨by omega, h2⟩, by omega⟩

set_option maxHeartbeats 4000000 in
set_option maxRecDepth 10000 in
theorem rdec_sum (v : Value) (xs : List (BitVec 8)) (w : World) (hv : Byts w v xs) (hl : xs.length ≤ 1000) (ho : opens xs = false) :
    Calls Tryd.prog 13 #[v] w fun e w' => e = .returned (.tuple #[.agg zcf, .int .i64 3]) ∧ Below w.heap.size w w' := by
  have HV := Lib.hid hv
  have HO := Lib.hid ho
  have HXL := Lib.hid hl
  clear hv ho hl
  have HB := Lib.hid (below_alloc (Below.refl _ w) (.cells zcf 26))
  have HZ := Lib.hid (blk_new w zcf 26)
  have HVB := Lib.hid (HV.out.below HB.out)
  unfold zcf cfc at *
  go_enter Tryd.func13, Tryd.ntmps13
  go_wp2_with fail
  (with_reducible refine (ropen_f _ _ _ HVB.out (by have := HXL.out; omega) HO.out).mono ?_)
  rintro e w1 ⟨rfl, hb⟩
  have HB1 := Lib.hid (below_call HB.out hb)
  have HZ1 := Lib.hid (HZ.out.below hb)
  clear hb HB HZ HVB HV
  obtain ⟨f0, f1, f2, f3, f4, f5, f6, f7, f8, f9, f10⟩ := HZ1.out.frz11
  obtain ⟨c0, c1, c2, c3, c4, c5, c6, c7, c8, c9, c10⟩ := Blk.eleven (T := fun _ => 0) HZ1.out
  go_wp2_with fail
  (try simp only [Exit.inBlock, Exit.then])
  refine bodyPost_ret (v := .tuple #[.agg (cfc (.slice none 0 0) (fun _ => 0)), .int .i64 3]) ?_ rfl ⟨rfl, bel11 HB1.out (Nat.le_refl _) _ _ _ _ _ _ _ _ _ _ _⟩
  rw [results_cell_tmp rfl]
  go_simp
  rfl

set_option maxHeartbeats 4000000 in
set_option maxRecDepth 10000 in
theorem rdec_short (v : Value) (xs : List (BitVec 8)) (w : World) (hv : Byts w v xs) (hl : xs.length ≤ 1000) (ho : opens xs = true) (hf : (front xs).length < 4) :
    Calls Tryd.prog 13 #[v] w fun e w' => e = .returned (.tuple #[.agg zcf, .int .i64 2]) ∧ Below w.heap.size w w' := by
  have HS := Lib.hid hf
  clear hf
  have HV := Lib.hid hv
  have HO := Lib.hid ho
  have HXL := Lib.hid hl
  clear hv ho hl
  have HB := Lib.hid (below_alloc (Below.refl _ w) (.cells zcf 26))
  have HZ := Lib.hid (blk_new w zcf 26)
  have HVB := Lib.hid (HV.out.below HB.out)
  unfold zcf cfc at *
  go_enter Tryd.func13, Tryd.ntmps13
  go_wp2_with fail
  (with_reducible refine (ropen_t _ _ _ HVB.out (by have := HXL.out; omega) HO.out).mono ?_)
  rintro e w1 ⟨r1, rfl, hown, hb⟩
  have HR1 := Lib.hid hown
  have HB1 := Lib.hid (below_call HB.out hb)
  have HZ1 := Lib.hid (HZ.out.below hb)
  obtain ⟨F, hF⟩ : ∃ F, F = front xs := ⟨_, rfl⟩
  rw [← hF] at HR1
  have HF := Lib.hid hF
  obtain ⟨n, hn⟩ : ∃ n, n = F.length := ⟨_, rfl⟩
  have HN := Lib.hid hn
  clear hown hb HB HZ HVB HV hF hn
  obtain ⟨av, cv, ev⟩ := HR1.out.byts.len
  rw [← HN.out] at ev
  subst ev
  have q0 : decide ((n : Int) < 4) = true := decide_eq_true (by rw [HN.out, HF.out]; have := HS.out; omega)
  obtain ⟨f0, f1, f2, f3, f4, f5, f6, f7, f8, f9, f10⟩ := HZ1.out.frz11
  obtain ⟨c0, c1, c2, c3, c4, c5, c6, c7, c8, c9, c10⟩ := Blk.eleven (T := fun _ => 0) HZ1.out
  go_wp2_with fail
  (try simp only [Exit.inBlock, Exit.then])
  refine bodyPost_ret (v := .tuple #[.agg (cfc (.slice none 0 0) (fun _ => 0)), .int .i64 2]) ?_ rfl ⟨rfl, bel11 HB1.out (Nat.le_refl _) _ _ _ _ _ _ _ _ _ _ _⟩
  rw [results_cell_tmp rfl]
  go_simp
  rfl

set_option maxHeartbeats 4000000 in
set_option maxRecDepth 10000 in
theorem rdec_mark (v : Value) (xs : List (BitVec 8)) (w : World) (hv : Byts w v xs) (hl : xs.length ≤ 1000) (ho : opens xs = true) (hf : 4 ≤ (front xs).length) (hm : (front xs).take 3 ≠ mark) :
    Calls Tryd.prog 13 #[v] w fun e w' => e = .returned (.tuple #[.agg zcf, .int .i64 2]) ∧ Below w.heap.size w w' := by
  have HS := Lib.hid hf
  have HM := Lib.hid hm
  clear hf hm
  have HV := Lib.hid hv
  have HO := Lib.hid ho
  have HXL := Lib.hid hl
  clear hv ho hl
  have HB := Lib.hid (below_alloc (Below.refl _ w) (.cells zcf 26))
  have HZ := Lib.hid (blk_new w zcf 26)
  have HVB := Lib.hid (HV.out.below HB.out)
  unfold zcf cfc at *
  go_enter Tryd.func13, Tryd.ntmps13
  go_wp2_with fail
  (with_reducible refine (ropen_t _ _ _ HVB.out (by have := HXL.out; omega) HO.out).mono ?_)
  rintro e w1 ⟨r1, rfl, hown, hb⟩
  have HR1 := Lib.hid hown
  have HB1 := Lib.hid (below_call HB.out hb)
  have HZ1 := Lib.hid (HZ.out.below hb)
  obtain ⟨F, hF⟩ : ∃ F, F = front xs := ⟨_, rfl⟩
  rw [← hF] at HR1
  have HF := Lib.hid hF
  obtain ⟨n, hn⟩ : ∃ n, n = F.length := ⟨_, rfl⟩
  have HN := Lib.hid hn
  clear hown hb HB HZ HVB HV hF hn
  have hn4 : 4 ≤ n := by rw [HN.out, HF.out]; exact HS.out
  obtain ⟨g, cap, ev, hcap, hg⟩ := HR1.out.form (by rw [← HN.out]; omega)
  rw [← HN.out] at ev hcap
  subst ev
  obtain ⟨v3, hrun3, hb3⟩ := cutL HR1.out.byts 3 (by rw [← HN.out]; omega)
  rw [show ((3 : Nat) : Int) = 3 from rfl] at hrun3
  have hs3 := txt_run _ w1 _ hb3
  have q0 : decide ((n : Int) < 4) = false := decide_eq_false (by omega)
  have q1 : (3 : Int) < (n : Int) := by omega
  have q2 := txt_other (show F.take 3 ≠ mark by rw [HF.out]; exact HM.out)
  rw [mark_list] at q2
  clear hb3
  obtain ⟨f0, f1, f2, f3, f4, f5, f6, f7, f8, f9, f10⟩ := HZ1.out.frz11
  obtain ⟨c0, c1, c2, c3, c4, c5, c6, c7, c8, c9, c10⟩ := Blk.eleven (T := fun _ => 0) HZ1.out
  go_wp2_with fail
  (try simp only [Exit.inBlock, Exit.then])
  refine bodyPost_ret (v := .tuple #[.agg (cfc (.slice none 0 0) (fun _ => 0)), .int .i64 2]) ?_ rfl ⟨rfl, bel11 HB1.out (Nat.le_refl _) _ _ _ _ _ _ _ _ _ _ _⟩
  rw [results_cell_tmp rfl]
  go_simp
  rfl

set_option maxHeartbeats 4000000 in
set_option maxRecDepth 10000 in
theorem rdec_len (v : Value) (xs : List (BitVec 8)) (w : World) (hv : Byts w v xs) (hl : xs.length ≤ 1000) (ho : opens xs = true) (hf : 4 ≤ (front xs).length) (hm : (front xs).take 3 = mark) (hne : (front xs).length ≠ 24 + 14 * rdN ((front xs).drop 3)) :
    Calls Tryd.prog 13 #[v] w fun e w' => e = .returned (.tuple #[.agg zcf, .int .i64 2]) ∧ Below w.heap.size w w' := by
  have HS := Lib.hid hf
  have HM := Lib.hid hm
  have HNE := Lib.hid hne
  clear hf hm hne
  have HV := Lib.hid hv
  have HO := Lib.hid ho
  have HXL := Lib.hid hl
  clear hv ho hl
  have HB := Lib.hid (below_alloc (Below.refl _ w) (.cells zcf 26))
  have HZ := Lib.hid (blk_new w zcf 26)
  have HVB := Lib.hid (HV.out.below HB.out)
  unfold zcf cfc at *
  go_enter Tryd.func13, Tryd.ntmps13
  go_wp2_with fail
  (with_reducible refine (ropen_t _ _ _ HVB.out (by have := HXL.out; omega) HO.out).mono ?_)
  rintro e w1 ⟨r1, rfl, hown, hb⟩
  have HR1 := Lib.hid hown
  have HB1 := Lib.hid (below_call HB.out hb)
  have HZ1 := Lib.hid (HZ.out.below hb)
  obtain ⟨F, hF⟩ : ∃ F, F = front xs := ⟨_, rfl⟩
  rw [← hF] at HR1
  have HF := Lib.hid hF
  obtain ⟨n, hn⟩ : ∃ n, n = F.length := ⟨_, rfl⟩
  have HN := Lib.hid hn
  clear hown hb HB HZ HVB HV hF hn
  have hn4 : 4 ≤ n := by rw [HN.out, HF.out]; exact HS.out
  obtain ⟨g, cap, ev, hcap, hg⟩ := HR1.out.form (by rw [← HN.out]; omega)
  rw [← HN.out] at ev hcap
  subst ev
  obtain ⟨v3, hrun3, hb3⟩ := cutL HR1.out.byts 3 (by rw [← HN.out]; omega)
  rw [show ((3 : Nat) : Int) = 3 from rfl] at hrun3
  have hs3 := txt_run _ w1 _ hb3
  have q0 : decide ((n : Int) < 4) = false := decide_eq_false (by omega)
  have q1 : (3 : Int) < (n : Int) := by omega
  have q2 : ((txt (F.take 3)).toList == [88, 66, 49]) = true := by rw [show F.take 3 = mark by rw [HF.out]; exact HM.out, mark_list]; rfl
  obtain ⟨x, hx⟩ : ∃ x, F[3]? = some x := ⟨_, List.getElem?_eq_getElem (by rw [← HN.out]; omega)⟩
  have hx3 := HR1.out.cell HN.out 3 x hx
  have hk := x.isLt
  have q3 : ((n : Int) == 24 + 14 * (x.toNat : Int)) = false := by
    have := HNE.out
    rw [← HF.out, rdN_at hx, ← HN.out] at this
    simp
    omega
  clear hb3 hx
  obtain ⟨f0, f1, f2, f3, f4, f5, f6, f7, f8, f9, f10⟩ := HZ1.out.frz11
  obtain ⟨c0, c1, c2, c3, c4, c5, c6, c7, c8, c9, c10⟩ := Blk.eleven (T := fun _ => 0) HZ1.out
  go_wp2_with fail
  (try simp only [Exit.inBlock, Exit.then])
  refine bodyPost_ret (v := .tuple #[.agg (cfc (.slice none 0 0) (fun _ => 0)), .int .i64 2]) ?_ rfl ⟨rfl, bel11 HB1.out (Nat.le_refl _) _ _ _ _ _ _ _ _ _ _ _⟩
  rw [results_cell_tmp rfl]
  go_simp
  rfl

set_option maxHeartbeats 4000000 in
set_option maxRecDepth 10000 in
theorem rdec_range (v : Value) (xs : List (BitVec 8)) (w : World) (hv : Byts w v xs) (hl : xs.length ≤ 1000) (ho : opens xs = true) (hf : 4 ≤ (front xs).length) (hm : (front xs).take 3 = mark) (hne : (front xs).length = 24 + 14 * rdN ((front xs).drop 3)) (hc : ¬ OkC (rdT (dbody xs)) (rdLs (dbody xs) (rdN (dbody xs)))) :
    Calls Tryd.prog 13 #[v] w fun e w' => e = .returned (.tuple #[.agg zcf, .int .i64 6]) ∧ Below w.heap.size w w' := by
  have HS := Lib.hid hf
  have HM := Lib.hid hm
  have HNE := Lib.hid hne
  have HOK := Lib.hid hc
  clear hf hm hne hc
  have HV := Lib.hid hv
  have HO := Lib.hid ho
  have HXL := Lib.hid hl
  clear hv ho hl
  have HB := Lib.hid (below_alloc (Below.refl _ w) (.cells zcf 26))
  have HZ := Lib.hid (blk_new w zcf 26)
  have HVB := Lib.hid (HV.out.below HB.out)
  unfold zcf cfc at *
  go_enter Tryd.func13, Tryd.ntmps13
  go_wp2_with fail
  (with_reducible refine (ropen_t _ _ _ HVB.out (by have := HXL.out; omega) HO.out).mono ?_)
  rintro e w1 ⟨r1, rfl, hown, hb⟩
  have HR1 := Lib.hid hown
  have HB1 := Lib.hid (below_call HB.out hb)
  have HZ1 := Lib.hid (HZ.out.below hb)
  obtain ⟨F, hF⟩ : ∃ F, F = front xs := ⟨_, rfl⟩
  rw [← hF] at HR1
  have HF := Lib.hid hF
  obtain ⟨n, hn⟩ : ∃ n, n = F.length := ⟨_, rfl⟩
  have HN := Lib.hid hn
  clear hown hb HB HZ HVB HV hF hn
  have hn4 : 4 ≤ n := by rw [HN.out, HF.out]; exact HS.out
  obtain ⟨g, cap, ev, hcap, hg⟩ := HR1.out.form (by rw [← HN.out]; omega)
  rw [← HN.out] at ev hcap
  subst ev
  obtain ⟨v3, hrun3, hb3⟩ := cutL HR1.out.byts 3 (by rw [← HN.out]; omega)
  rw [show ((3 : Nat) : Int) = 3 from rfl] at hrun3
  have hs3 := txt_run _ w1 _ hb3
  have q0 : decide ((n : Int) < 4) = false := decide_eq_false (by omega)
  have q1 : (3 : Int) < (n : Int) := by omega
  have q2 : ((txt (F.take 3)).toList == [88, 66, 49]) = true := by rw [show F.take 3 = mark by rw [HF.out]; exact HM.out, mark_list]; rfl
  obtain ⟨x, hx⟩ : ∃ x, F[3]? = some x := ⟨_, List.getElem?_eq_getElem (by rw [← HN.out]; omega)⟩
  have hx3 := HR1.out.cell HN.out 3 x hx
  have hxl := x.isLt
  obtain ⟨k, hk⟩ : ∃ k, k = x.toNat := ⟨_, rfl⟩
  obtain ⟨ys, hys⟩ : ∃ ys, ys = dbody xs := ⟨_, rfl⟩
  have HKN := Lib.hid (show k = rdN ys by rw [hk, hys]; unfold dbody; rw [← HF.out]; exact (rdN_at hx).symm)
  rw [← hk] at hx3 hxl
  have q3 : ((n : Int) != 24 + 14 * (k : Int)) = false := by
    have := HNE.out
    rw [← HF.out, rdN_at hx, ← HN.out, ← hk] at this
    simp
    omega
  have HYS := Lib.hid hys
  have HYL := Lib.hid (show ys.length = n - 3 by rw [hys]; unfold dbody; rw [List.length_drop, ← HF.out, ← HN.out])
  have HNL := Lib.hid (show n ≤ 1000 by rw [HN.out, HF.out]; exact front_le _ _ HXL.out)
  obtain ⟨v4, hrun4, hb4, _⟩ := cutR HR1.out.byts 4 (by rw [← HN.out]; omega)
  rw [show ((4 : Nat) : Int) = 4 from rfl] at hrun4
  have hwz := HZ1.out.lt
  have HYL2 := Lib.hid (show ys.length ≤ 1000 by rw [HYL.out]; have := HNL.out; omega)
  obtain ⟨T, hT⟩ : ∃ T, T = rdT ys := ⟨_, rfl⟩
  have HT := Lib.hid hT
  clear hT
  obtain ⟨a4, c4, e4⟩ := hb4.len
  subst e4
  have hg1 := lt_of_cell hx3
  obtain ⟨N4, hN4⟩ : ∃ N4, N4 = (F.drop 4).length := ⟨_, rfl⟩
  rw [← hN4] at hrun4 hb4
  have HR2 := Lib.hid (show RdS (w1.alloc (.cells #[.slice a4 N4 c4, .bool false] 69)) w1.heap.size 0 w1.heap.size ys 1 by
    have h := Rd.made (T := 69) (v := .slice a4 N4 c4) 0 w1.heap.size hb4.left (Nat.le_refl _) false
    unfold RdS
    rw [show decide (ys.length < 1) = false from decide_eq_false (by rw [HYL.out]; omega), show ys.drop 1 = F.drop 4 by rw [hys, HF.out]; unfold dbody; rw [List.drop_drop]]
    exact h)
  have HK2 := Lib.hid (below_alloc (Below.refl _ w1) (.cells #[.slice a4 N4 c4, .bool false] 69))
  have hx32 := below_cell HK2.out hx3
  have HB2 := Lib.hid (below_call HB1.out HK2.out)
  have HZ2 := Lib.hid (HZ1.out.below HK2.out)
  clear hb3 hb4 hx hk hys hN4 HK2
  obtain ⟨w2, hw2⟩ : ∃ w2, w2 = w1.alloc (.cells #[.slice a4 N4 c4, .bool false] 69) := ⟨_, rfl⟩
  have e2 : w2.heap.size = w1.heap.size + 1 := by rw [hw2]; simp
  rw [← hw2] at HR2 hx32 HB2 HZ2
  have HK3 := Lib.hid (below_alloc (Below.refl _ w2) (.cells (ta (fun _ => 0)) 60))
  have HA3 := Lib.hid (blk_new w2 (ta (fun _ => 0)) 60)
  have HR3 := Lib.hid (HR2.out.below HK3.out)
  have HX3 := Lib.hid (below_cell HK3.out hx32)
  have HB3 := Lib.hid (below_call HB2.out HK3.out)
  have HZ3 := Lib.hid (HZ2.out.below HK3.out)
  rw [e2] at HA3
  rw [hw2] at HR3 HX3 HB3 HZ3 HA3
  clear hw2 e2 HK3 HB2 HZ2 HR2 hx32 HB1 HZ1 HR1
  go_wp2_with fail
  go_loopw [8] (fun i wr => ∃ j : Nat, j ≤ 10 ∧ i = .int .i64 (j : Int) ∧ Hid (RdS wr w1.heap.size 0 w1.heap.size ys (1 + 2 * j)) ∧ Hid (Below w.heap.size w wr) ∧ Hid (Blk wr w.heap.size zcf 26) ∧ Hid (Blk wr (w1.heap.size + 1) (ta (upto T j)) 60) ∧ Hid (wr.cell? ⟨g, 3, none⟩ = some (.int .u8 (k : Int)))) (fun i _ => 10 - (intOf i).toNat)
  case atStart => exact ⟨0, by omega, rfl, HR3, HB3, HZ3, Lib.hid (by rw [ta_none]; exact HA3.out), HX3⟩
  case round =>
    obtain ⟨j, hj, rfl, HR, HBr, HZr, HA, HX⟩ := hrel
    clear HR3 HB3 HZ3 HA3 HX3
    by_cases hlt : j < 10
    · have vx := val2_lt (ys.drop (1 + 2 * j))
      have HFJ := Lib.hid (show (val 2 (ys.drop (1 + 2 * j)) : Int) = T j by rw [HT.out]; rfl)
      go_wp2_with fail
      (with_reducible refine (num2 HR.out HYL2.out).mono ?_)
      rintro e w4 ⟨rfl, hr, ha⟩
      generalize val 2 (ys.drop (1 + 2 * j)) = z at *
      have HR4 := Lib.hid hr
      have HB4 := Lib.hid (below_apart HBr.out ha (by omega))
      have HZ4 := Lib.hid (HZr.out.apart ha (by omega))
      have HA4 := Lib.hid (HA.out.apart ha (by omega))
      have HX4 := Lib.hid (ha.cell HX.out (by omega))
      have hc := HA4.out.cell j (ta_at (upto T j) j hlt)
      have hz := HA4.out.frz j
      clear hr ha HR HBr HZr HA HX
      go_wp2_with fail
      go_roundw
      case rel =>
        exact ⟨j + 1, by omega, by go_num, Lib.hid (HR4.out.far _ _ _ (by omega)), Lib.hid (bel_set HB4.out (by omega) _ _), Lib.hid (HZ4.out.far _ _ _ (by omega)), Lib.hid (by rw [← ta_set _ j hlt _ HFJ.out]; exact HA4.out.set_ _ _), Lib.hid (cell_far HX4.out (by omega))⟩
      case measure => simp [intOf]; omega
    · have HJ := Lib.hid (show j = 10 by omega)
      have hA := HA.out
      have hR := HR.out
      rw [HJ.out] at hA hR
      rw [ta_all] at hA
      obtain ⟨d0, d1, d2, d3, d4, d5, d6, d7, d8, d9⟩ := hA.ten
      have HK5 := Lib.hid (below_alloc (Below.refl _ wr) (.cells (cfc (.slice none 0 0) T) 26))
      have HC5 := Lib.hid (blk_new wr (cfc (.slice none 0 0) T) 26)
      have HR5 := Lib.hid (hR.below HK5.out)
      have HX5 := Lib.hid (below_cell HK5.out HX.out)
      have HB5 := Lib.hid (below_call HBr.out HK5.out)
      have HZ5 := Lib.hid (HZr.out.below HK5.out)
      have hCb : w1.heap.size < wr.heap.size := by have := hA.lt; omega
      have hC1 := HC5.out.lt
      clear hA hR HR HBr HZr HA HX HK5
      go_wp2_with fail
      clear d0 d1 d2 d3 d4 d5 d6 d7 d8 d9
      obtain ⟨C, hC⟩ : ∃ C, C = wr.heap.size := ⟨_, rfl⟩
      rw [← hC] at HC5 hCb hC1 ⊢
      have HCC := Lib.hid hC
      clear hC
      go_loopw [10] (fun i wr => ∃ m : Nat, m ≤ k ∧ i = .int .i64 (m : Int) ∧ Hid (RdS wr w1.heap.size 0 w1.heap.size ys (21 + 14 * m)) ∧ Hid (Below w.heap.size w wr) ∧ Hid (Blk wr w.heap.size zcf 26) ∧ Hid (wr.cell? ⟨g, 3, none⟩ = some (.int .u8 (k : Int))) ∧
        ∃ a c, Hid (Blk wr C (cfc (.slice a m c) T) 26) ∧ Hid (OwnL wr (C + 1) (.slice a m c) (rdLs ys m))) (fun i _ => k - (intOf i).toNat)
      case atStart => exact ⟨0, by omega, rfl, HR5, HB5, HZ5, HX5, none, 0, HC5, Lib.hid (ownL_nil _ _)⟩
      case round =>
        obtain ⟨m, hm, rfl, HRm, HBm, HZm, HXm, a, c, HCm, HOm⟩ := hrel
        clear HR5 HB5 HZ5 HX5 HC5 hC1
        have hx3 := HXm.out
        by_cases hltm : m < k
        · have hltI : (m : Int) < (k : Int) := by omega
          have hCw := HCm.out.lt
          have v1 := val4_lt (ys.drop (21 + 14 * m))
          have v2 := val4_lt (ys.drop (21 + 14 * m + 4))
          obtain ⟨l, hl⟩ : ∃ l, l = rdL ys (21 + 14 * m) := ⟨_, rfl⟩
          have HLK := Lib.hid (show l.k = (val 4 (ys.drop (21 + 14 * m)) : Int) by rw [hl]; rfl)
          have HLG := Lib.hid (show l.g = (val 4 (ys.drop (21 + 14 * m + 4)) : Int) by rw [hl]; rfl)
          have HLL := Lib.hid hl
          clear hl
          generalize hkk : val 4 (ys.drop (21 + 14 * m)) = lk at *
          generalize hgg : val 4 (ys.drop (21 + 14 * m + 4)) = lg at *
          have HKK := Lib.hid hkk
          have HGG := Lib.hid hgg
          clear hkk hgg
          obtain ⟨wo, hwo⟩ : ∃ wo : World, wo = wr := ⟨_, rfl⟩
          subst hwo
          go_wp2_with fail
          (with_reducible refine (num4 HRm.out HYL2.out).mono ?_)
          rintro e w4 ⟨rfl, hr, ha⟩
          rw [HKK.out]
          have HK5 := Lib.hid (below_alloc (Below.refl _ w4) (.cells #[.int .i64 (lk : Int), .int .i64 0, .int .i64 0, .int .i64 0, .int .i64 0] 48))
          have HR5 := Lib.hid (hr.below HK5.out)
          have HP5 := Lib.hid ((Keep.of_apart ha).trans (Keep.of_below (F := fun _ => False) HK5.out) (fun _ h => h.elim))
          have HL5 := Lib.hid (blk_new w4 #[.int .i64 (lk : Int), .int .i64 0, .int .i64 0, .int .i64 0, .int .i64 0] 48)
          have h4 := ha.size
          clear hr ha HRm hx3 HK5
          go_wp2_with fail
          (with_reducible refine (num4 HR5.out HYL2.out).mono ?_)
          rintro e w6 ⟨rfl, hr, ha⟩
          rw [HGG.out]
          have HR6 := Lib.hid hr
          have HP6 := Lib.hid (HP5.out.next ha)
          have HL6 := Lib.hid (HL5.out.apart ha (by omega))
          have hc1 := HL6.out.cell 1 (u := .int .i64 0) rfl
          have hz1 := HL6.out.frz 1
          clear hr ha HR5 HP5 HL5
          go_wp2_with fail
          clear hc1 hz1
          obtain ⟨f, hf⟩ : ∃ f : Nat → Int, f = fun i => ((val 2 (ys.drop (21 + 14 * m + 8 + 2 * i)) : Nat) : Int) := ⟨_, rfl⟩
          have HFF := Lib.hid hf
          clear hf
          have HR7 := Lib.hid (HR6.out.far w4.heap.size 1 (.int .i64 (lg : Int)) (by omega))
          have HP7 := Lib.hid (HP6.out.own_ (g := w4.heap.size) (o := 1) (u := .int .i64 (lg : Int)) h4)
          have HL7 := Lib.hid (HL6.out.set_ 1 (.int .i64 (lg : Int)))
          clear HR6 HP6 HL6
          obtain ⟨G, hG⟩ : ∃ G, G = w4.heap.size := ⟨_, rfl⟩
          rw [← hG] at HL7 HR7 HP7 h4 ⊢
          have HGS := Lib.hid hG
          clear hG
          go_loopw [12] (fun i wr => ∃ j : Nat, j ≤ 3 ∧ i = .int .i64 (j : Int) ∧ Hid (RdS wr w1.heap.size 0 w1.heap.size ys (21 + 14 * m + 8 + 2 * j)) ∧ Hid (Keep (fun g => g = w1.heap.size) wo wr) ∧
            Hid (Blk wr G #[.int .i64 (lk : Int), .int .i64 (lg : Int), .int .i64 (upto f j 0), .int .i64 (upto f j 1), .int .i64 (upto f j 2)] 48)) (fun i _ => 3 - (intOf i).toNat)
          case atStart => exact ⟨0, by omega, rfl, HR7, HP7, HL7⟩
          case round =>
            obtain ⟨j, hj, rfl, HR, HP, HL⟩ := hrel
            clear HR7 HP7 HL7
            by_cases hlt3 : j < 3
            · have vx := val2_lt (ys.drop (21 + 14 * m + 8 + 2 * j))
              have HFJ := Lib.hid (show (val 2 (ys.drop (21 + 14 * m + 8 + 2 * j)) : Int) = f j by rw [HFF.out])
              go_wp2_with fail
              (with_reducible refine (num2 HR.out HYL2.out).mono ?_)
              rintro e w8 ⟨rfl, hr, ha⟩
              generalize val 2 (ys.drop (21 + 14 * m + 8 + 2 * j)) = z at *
              have HR8 := Lib.hid hr
              have HP8 := Lib.hid (HP.out.next ha)
              have HL8 := Lib.hid (HL.out.apart ha (by omega))
              obtain ⟨u, hu⟩ := five_at (.int .i64 (lk : Int)) (.int .i64 (lg : Int)) (.int .i64 (upto f j 0)) (.int .i64 (upto f j 1)) (.int .i64 (upto f j 2)) j hlt3
              have hc := HL8.out.cell (2 + j) hu
              have hz := HL8.out.frz (2 + j)
              clear hr ha HR HP HL hu
              go_wp2_with fail
              go_roundw
              case rel =>
                refine ⟨j + 1, by omega, by go_num, Lib.hid ?_, Lib.hid ?_, Lib.hid ?_⟩
                · exact HR8.out.far _ _ _ (by omega)
                · exact HP8.out.own_ h4
                · rw [← upto_set3 _ _ f j hlt3 _ HFJ.out]
                  exact HL8.out.set_ _ _
              case measure => simp [intOf]; omega
            · have HJ3 := Lib.hid (show j = 3 by omega)
              have HLE := Lib.hid (show l = ⟨(lk : Int), (lg : Int), upto f j 0, upto f j 1, upto f j 2⟩ by
                have h1 := HLK.out
                have h2 := HLG.out
                rw [HJ3.out, ← h1, ← h2, HLL.out, HFF.out]
                rfl)
              have x0 := HL.out.cell 0 (u := .int .i64 (lk : Int)) rfl
              have x1 := HL.out.cell 1 (u := .int .i64 (lg : Int)) rfl
              have x2 := HL.out.cell 2 (u := .int .i64 (upto f j 0)) rfl
              have x3 := HL.out.cell 3 (u := .int .i64 (upto f j 1)) rfl
              have x4 := HL.out.cell 4 (u := .int .i64 (upto f j 2)) rfl
              have HC9 := Lib.hid (HCm.out.keep HP.out (by omega))
              have hc0 := HC9.out.cell 0 (u := .slice a m c) rfl
              have HO9 := Lib.hid (HOm.out.keep HP.out (fun g e => by rw [e]; omega))
              have HK9 := Lib.hid (below_alloc (Below.refl _ wr) (.cells #[.int .i64 (lk : Int), .int .i64 (lg : Int), .int .i64 (upto f j 0), .int .i64 (upto f j 1), .int .i64 (upto f j 2)] 48))
              have HU := Lib.hid (show Els RLn 5 (wr.alloc (.cells #[.int .i64 (lk : Int), .int .i64 (lg : Int), .int .i64 (upto f j 0), .int .i64 (upto f j 1), .int .i64 (upto f j 2)] 48)) (.slice (some ⟨wr.heap.size, 0, none⟩) 1 1) [⟨(lk : Int), (lg : Int), upto f j 0, upto f j 1, upto f j 2⟩] from els_one wr ⟨(lk : Int), (lg : Int), upto f j 0, upto f j 1, upto f j 2⟩ _)
              have HO10 := Lib.hid (HO9.out.below HK9.out)
              have hCw9 := HC9.out.lt
              have hsz : C + 1 ≤ (wr.alloc (.cells #[.int .i64 (lk : Int), .int .i64 (lg : Int), .int .i64 (upto f j 0), .int .i64 (upto f j 1), .int .i64 (upto f j 2)] 48)).heap.size := by simp; omega
              go_wp2_with (at_builtin; refine wpList_appL rfl _ _ rfl (C + 1) (.slice a m c) m (rdLs ys m) rfl (rdLs_length ys m).symm HO10.out wr.heap.size 0 1 1 [⟨(lk : Int), (lg : Int), upto f j 0, upto f j 1, upto f j 2⟩] rfl rfl HU.out (by decide) (by omega) hsz ?_; intro g5 cap5 w10 hown hb; have HO11 := Lib.hid hown; have HB11 := Lib.hid ((HK9.out.mono (show C + 1 ≤ wr.heap.size by omega)).trans hb); have HC11 := Lib.hid (HC9.out.low HB11.out (Nat.lt_succ_self C)); have hc11 := HC11.out.cell 0 (u := .slice a m c) rfl; have hz11 := HC11.out.frz 0; clear hown hb HO10 HO9 HU HK9 hsz hc0 x0 x1 x2 x3 x4)
              go_roundw
              case rel =>
                have hR := HR.out
                rw [HJ3.out, show 21 + 14 * m + 8 + 2 * 3 = 21 + 14 * (m + 1) by omega] at hR
                refine ⟨m + 1, by omega, by go_num, Lib.hid ?_, Lib.hid ?_, Lib.hid ?_, Lib.hid ?_, some ⟨g5, 0, none⟩, cap5, Lib.hid ?_, Lib.hid ?_⟩
                · exact (hR.low HB11.out (by omega)).far _ _ _ (by omega)
                · refine bel_set ((below_keep HBm.out HP.out (fun g e => by rw [e]; omega)).trans (HB11.out.mono (by omega))) (by omega) _ _
                · exact ((HZm.out.keep HP.out (by omega)).low HB11.out (by omega)).far _ _ _ (by omega)
                · exact cell_far (cell_low (HP.out.cell HXm.out (by omega)) HB11.out (by omega)) (by omega)
                · exact HC11.out.set_ 0 _
                · rw [show rdLs ys (m + 1) = rdLs ys m ++ [rdL ys (21 + 14 * m)] from rfl, ← HLL.out, HLE.out]
                  exact HO11.out.keep (F := fun x => x = C) (Keep.set_ w10 C 0 _ rfl) (fun g e => by rw [e]; omega)
              case measure => simp [intOf]; omega
        · have hltI : ¬ (m : Int) < (k : Int) := by omega
          have HMK := Lib.hid (show m = k by omega)
          have hwC : w.heap.size < C := by omega
          obtain ⟨c0, c1, c2, c3, c4, c5, c6, c7, c8, c9, c10⟩ := Blk.eleven (v := .slice a m c) (T := T) HCm.out
          have HCH := Lib.hid (rcheck_any (.slice a m c) T (rdLs ys m) 6 (by rw [HT.out, HMK.out, HKN.out, HYS.out]; exact (if_neg HOK.out).symm) wr HOm.out.els (by rw [rdLs_length]; omega))
          unfold cfc at HCH
          go_wp2_with fail
          (with_reducible refine HCH.out.mono ?_)
          rintro e w4 ⟨rfl, hb⟩
          have HB4 := Lib.hid (below_call HBm.out hb)
          have HZ4 := Lib.hid (HZm.out.below hb)
          have HC4 := Lib.hid (HCm.out.below hb)
          have HO4 := Lib.hid (HOm.out.below hb)
          clear hb HBm HZm HCm HOm HCH hx3 HXm HRm c0 c1 c2 c3 c4 c5 c6 c7 c8 c9 c10
          obtain ⟨f0, f1, f2, f3, f4, f5, f6, f7, f8, f9, f10⟩ := HZ4.out.frz11
          obtain ⟨c0, c1, c2, c3, c4, c5, c6, c7, c8, c9, c10⟩ := Blk.eleven (T := fun _ => 0) HZ4.out
          go_wp2_with fail
          (try simp only [Exit.inBlock, Exit.then])
          refine bodyPost_ret (v := .tuple #[.agg (cfc (.slice none 0 0) (fun _ => 0)), .int .i64 6]) ?_ rfl ⟨rfl, bel11 HB4.out (Nat.le_refl _) _ _ _ _ _ _ _ _ _ _ _⟩
          rw [results_cell_tmp rfl]
          go_simp
          rfl

set_option maxHeartbeats 4000000 in
set_option maxRecDepth 10000 in
theorem rdec_yes (v : Value) (xs : List (BitVec 8)) (w : World) (hv : Byts w v xs) (hl : xs.length ≤ 1000) (ho : opens xs = true) (hf : 4 ≤ (front xs).length) (hm : (front xs).take 3 = mark) (hne : (front xs).length = 24 + 14 * rdN ((front xs).drop 3)) (hc : OkC (rdT (dbody xs)) (rdLs (dbody xs) (rdN (dbody xs)))) :
    Calls Tryd.prog 13 #[v] w fun e w' => ∃ a c, e = .returned (.tuple #[.agg (cfc (.slice a (rdN (dbody xs)) c) (rdT (dbody xs))), .int .i64 0]) ∧ Els RLn 5 w' (.slice a (rdN (dbody xs)) c) (rdLs (dbody xs) (rdN (dbody xs))) ∧ Below w.heap.size w w' := by
  have HS := Lib.hid hf
  have HM := Lib.hid hm
  have HNE := Lib.hid hne
  have HOK := Lib.hid hc
  clear hf hm hne hc
  have HV := Lib.hid hv
  have HO := Lib.hid ho
  have HXL := Lib.hid hl
  clear hv ho hl
  have HB := Lib.hid (below_alloc (Below.refl _ w) (.cells zcf 26))
  have HZ := Lib.hid (blk_new w zcf 26)
  have HVB := Lib.hid (HV.out.below HB.out)
  unfold zcf cfc at *
  go_enter Tryd.func13, Tryd.ntmps13
  go_wp2_with fail
  (with_reducible refine (ropen_t _ _ _ HVB.out (by have := HXL.out; omega) HO.out).mono ?_)
  rintro e w1 ⟨r1, rfl, hown, hb⟩
  have HR1 := Lib.hid hown
  have HB1 := Lib.hid (below_call HB.out hb)
  have HZ1 := Lib.hid (HZ.out.below hb)
  obtain ⟨F, hF⟩ : ∃ F, F = front xs := ⟨_, rfl⟩
  rw [← hF] at HR1
  have HF := Lib.hid hF
  obtain ⟨n, hn⟩ : ∃ n, n = F.length := ⟨_, rfl⟩
  have HN := Lib.hid hn
  clear hown hb HB HZ HVB HV hF hn
  have hn4 : 4 ≤ n := by rw [HN.out, HF.out]; exact HS.out
  obtain ⟨g, cap, ev, hcap, hg⟩ := HR1.out.form (by rw [← HN.out]; omega)
  rw [← HN.out] at ev hcap
  subst ev
  obtain ⟨v3, hrun3, hb3⟩ := cutL HR1.out.byts 3 (by rw [← HN.out]; omega)
  rw [show ((3 : Nat) : Int) = 3 from rfl] at hrun3
  have hs3 := txt_run _ w1 _ hb3
  have q0 : decide ((n : Int) < 4) = false := decide_eq_false (by omega)
  have q1 : (3 : Int) < (n : Int) := by omega
  have q2 : ((txt (F.take 3)).toList == [88, 66, 49]) = true := by rw [show F.take 3 = mark by rw [HF.out]; exact HM.out, mark_list]; rfl
  obtain ⟨x, hx⟩ : ∃ x, F[3]? = some x := ⟨_, List.getElem?_eq_getElem (by rw [← HN.out]; omega)⟩
  have hx3 := HR1.out.cell HN.out 3 x hx
  have hxl := x.isLt
  obtain ⟨k, hk⟩ : ∃ k, k = x.toNat := ⟨_, rfl⟩
  obtain ⟨ys, hys⟩ : ∃ ys, ys = dbody xs := ⟨_, rfl⟩
  have HKN := Lib.hid (show k = rdN ys by rw [hk, hys]; unfold dbody; rw [← HF.out]; exact (rdN_at hx).symm)
  rw [← hk] at hx3 hxl
  have q3 : ((n : Int) != 24 + 14 * (k : Int)) = false := by
    have := HNE.out
    rw [← HF.out, rdN_at hx, ← HN.out, ← hk] at this
    simp
    omega
  have HYS := Lib.hid hys
  have HYL := Lib.hid (show ys.length = n - 3 by rw [hys]; unfold dbody; rw [List.length_drop, ← HF.out, ← HN.out])
  have HNL := Lib.hid (show n ≤ 1000 by rw [HN.out, HF.out]; exact front_le _ _ HXL.out)
  obtain ⟨v4, hrun4, hb4, _⟩ := cutR HR1.out.byts 4 (by rw [← HN.out]; omega)
  rw [show ((4 : Nat) : Int) = 4 from rfl] at hrun4
  have hwz := HZ1.out.lt
  have HYL2 := Lib.hid (show ys.length ≤ 1000 by rw [HYL.out]; have := HNL.out; omega)
  obtain ⟨T, hT⟩ : ∃ T, T = rdT ys := ⟨_, rfl⟩
  have HT := Lib.hid hT
  clear hT
  obtain ⟨a4, c4, e4⟩ := hb4.len
  subst e4
  have hg1 := lt_of_cell hx3
  obtain ⟨N4, hN4⟩ : ∃ N4, N4 = (F.drop 4).length := ⟨_, rfl⟩
  rw [← hN4] at hrun4 hb4
  have HR2 := Lib.hid (show RdS (w1.alloc (.cells #[.slice a4 N4 c4, .bool false] 69)) w1.heap.size 0 w1.heap.size ys 1 by
    have h := Rd.made (T := 69) (v := .slice a4 N4 c4) 0 w1.heap.size hb4.left (Nat.le_refl _) false
    unfold RdS
    rw [show decide (ys.length < 1) = false from decide_eq_false (by rw [HYL.out]; omega), show ys.drop 1 = F.drop 4 by rw [hys, HF.out]; unfold dbody; rw [List.drop_drop]]
    exact h)
  have HK2 := Lib.hid (below_alloc (Below.refl _ w1) (.cells #[.slice a4 N4 c4, .bool false] 69))
  have hx32 := below_cell HK2.out hx3
  have HB2 := Lib.hid (below_call HB1.out HK2.out)
  have HZ2 := Lib.hid (HZ1.out.below HK2.out)
  clear hb3 hb4 hx hk hys hN4 HK2
  obtain ⟨w2, hw2⟩ : ∃ w2, w2 = w1.alloc (.cells #[.slice a4 N4 c4, .bool false] 69) := ⟨_, rfl⟩
  have e2 : w2.heap.size = w1.heap.size + 1 := by rw [hw2]; simp
  rw [← hw2] at HR2 hx32 HB2 HZ2
  have HK3 := Lib.hid (below_alloc (Below.refl _ w2) (.cells (ta (fun _ => 0)) 60))
  have HA3 := Lib.hid (blk_new w2 (ta (fun _ => 0)) 60)
  have HR3 := Lib.hid (HR2.out.below HK3.out)
  have HX3 := Lib.hid (below_cell HK3.out hx32)
  have HB3 := Lib.hid (below_call HB2.out HK3.out)
  have HZ3 := Lib.hid (HZ2.out.below HK3.out)
  rw [e2] at HA3
  rw [hw2] at HR3 HX3 HB3 HZ3 HA3
  clear hw2 e2 HK3 HB2 HZ2 HR2 hx32 HB1 HZ1 HR1
  go_wp2_with fail
  go_loopw [8] (fun i wr => ∃ j : Nat, j ≤ 10 ∧ i = .int .i64 (j : Int) ∧ Hid (RdS wr w1.heap.size 0 w1.heap.size ys (1 + 2 * j)) ∧ Hid (Below w.heap.size w wr) ∧ Hid (Blk wr w.heap.size zcf 26) ∧ Hid (Blk wr (w1.heap.size + 1) (ta (upto T j)) 60) ∧ Hid (wr.cell? ⟨g, 3, none⟩ = some (.int .u8 (k : Int)))) (fun i _ => 10 - (intOf i).toNat)
  case atStart => exact ⟨0, by omega, rfl, HR3, HB3, HZ3, Lib.hid (by rw [ta_none]; exact HA3.out), HX3⟩
  case round =>
    obtain ⟨j, hj, rfl, HR, HBr, HZr, HA, HX⟩ := hrel
    clear HR3 HB3 HZ3 HA3 HX3
    by_cases hlt : j < 10
    · have vx := val2_lt (ys.drop (1 + 2 * j))
      have HFJ := Lib.hid (show (val 2 (ys.drop (1 + 2 * j)) : Int) = T j by rw [HT.out]; rfl)
      go_wp2_with fail
      (with_reducible refine (num2 HR.out HYL2.out).mono ?_)
      rintro e w4 ⟨rfl, hr, ha⟩
      generalize val 2 (ys.drop (1 + 2 * j)) = z at *
      have HR4 := Lib.hid hr
      have HB4 := Lib.hid (below_apart HBr.out ha (by omega))
      have HZ4 := Lib.hid (HZr.out.apart ha (by omega))
      have HA4 := Lib.hid (HA.out.apart ha (by omega))
      have HX4 := Lib.hid (ha.cell HX.out (by omega))
      have hc := HA4.out.cell j (ta_at (upto T j) j hlt)
      have hz := HA4.out.frz j
      clear hr ha HR HBr HZr HA HX
      go_wp2_with fail
      go_roundw
      case rel =>
        exact ⟨j + 1, by omega, by go_num, Lib.hid (HR4.out.far _ _ _ (by omega)), Lib.hid (bel_set HB4.out (by omega) _ _), Lib.hid (HZ4.out.far _ _ _ (by omega)), Lib.hid (by rw [← ta_set _ j hlt _ HFJ.out]; exact HA4.out.set_ _ _), Lib.hid (cell_far HX4.out (by omega))⟩
      case measure => simp [intOf]; omega
    · have HJ := Lib.hid (show j = 10 by omega)
      have hA := HA.out
      have hR := HR.out
      rw [HJ.out] at hA hR
      rw [ta_all] at hA
      obtain ⟨d0, d1, d2, d3, d4, d5, d6, d7, d8, d9⟩ := hA.ten
      have HK5 := Lib.hid (below_alloc (Below.refl _ wr) (.cells (cfc (.slice none 0 0) T) 26))
      have HC5 := Lib.hid (blk_new wr (cfc (.slice none 0 0) T) 26)
      have HR5 := Lib.hid (hR.below HK5.out)
      have HX5 := Lib.hid (below_cell HK5.out HX.out)
      have HB5 := Lib.hid (below_call HBr.out HK5.out)
      have HZ5 := Lib.hid (HZr.out.below HK5.out)
      have hCb : w1.heap.size < wr.heap.size := by have := hA.lt; omega
      have hC1 := HC5.out.lt
      clear hA hR HR HBr HZr HA HX HK5
      go_wp2_with fail
      clear d0 d1 d2 d3 d4 d5 d6 d7 d8 d9
      obtain ⟨C, hC⟩ : ∃ C, C = wr.heap.size := ⟨_, rfl⟩
      rw [← hC] at HC5 hCb hC1 ⊢
      have HCC := Lib.hid hC
      clear hC
      go_loopw [10] (fun i wr => ∃ m : Nat, m ≤ k ∧ i = .int .i64 (m : Int) ∧ Hid (RdS wr w1.heap.size 0 w1.heap.size ys (21 + 14 * m)) ∧ Hid (Below w.heap.size w wr) ∧ Hid (Blk wr w.heap.size zcf 26) ∧ Hid (wr.cell? ⟨g, 3, none⟩ = some (.int .u8 (k : Int))) ∧
        ∃ a c, Hid (Blk wr C (cfc (.slice a m c) T) 26) ∧ Hid (OwnL wr (C + 1) (.slice a m c) (rdLs ys m))) (fun i _ => k - (intOf i).toNat)
      case atStart => exact ⟨0, by omega, rfl, HR5, HB5, HZ5, HX5, none, 0, HC5, Lib.hid (ownL_nil _ _)⟩
      case round =>
        obtain ⟨m, hm, rfl, HRm, HBm, HZm, HXm, a, c, HCm, HOm⟩ := hrel
        clear HR5 HB5 HZ5 HX5 HC5 hC1
        have hx3 := HXm.out
        by_cases hltm : m < k
        · have hltI : (m : Int) < (k : Int) := by omega
          have hCw := HCm.out.lt
          have v1 := val4_lt (ys.drop (21 + 14 * m))
          have v2 := val4_lt (ys.drop (21 + 14 * m + 4))
          obtain ⟨l, hl⟩ : ∃ l, l = rdL ys (21 + 14 * m) := ⟨_, rfl⟩
          have HLK := Lib.hid (show l.k = (val 4 (ys.drop (21 + 14 * m)) : Int) by rw [hl]; rfl)
          have HLG := Lib.hid (show l.g = (val 4 (ys.drop (21 + 14 * m + 4)) : Int) by rw [hl]; rfl)
          have HLL := Lib.hid hl
          clear hl
          generalize hkk : val 4 (ys.drop (21 + 14 * m)) = lk at *
          generalize hgg : val 4 (ys.drop (21 + 14 * m + 4)) = lg at *
          have HKK := Lib.hid hkk
          have HGG := Lib.hid hgg
          clear hkk hgg
          obtain ⟨wo, hwo⟩ : ∃ wo : World, wo = wr := ⟨_, rfl⟩
          subst hwo
          go_wp2_with fail
          (with_reducible refine (num4 HRm.out HYL2.out).mono ?_)
          rintro e w4 ⟨rfl, hr, ha⟩
          rw [HKK.out]
          have HK5 := Lib.hid (below_alloc (Below.refl _ w4) (.cells #[.int .i64 (lk : Int), .int .i64 0, .int .i64 0, .int .i64 0, .int .i64 0] 48))
          have HR5 := Lib.hid (hr.below HK5.out)
          have HP5 := Lib.hid ((Keep.of_apart ha).trans (Keep.of_below (F := fun _ => False) HK5.out) (fun _ h => h.elim))
          have HL5 := Lib.hid (blk_new w4 #[.int .i64 (lk : Int), .int .i64 0, .int .i64 0, .int .i64 0, .int .i64 0] 48)
          have h4 := ha.size
          clear hr ha HRm hx3 HK5
          go_wp2_with fail
          (with_reducible refine (num4 HR5.out HYL2.out).mono ?_)
          rintro e w6 ⟨rfl, hr, ha⟩
          rw [HGG.out]
          have HR6 := Lib.hid hr
          have HP6 := Lib.hid (HP5.out.next ha)
          have HL6 := Lib.hid (HL5.out.apart ha (by omega))
          have hc1 := HL6.out.cell 1 (u := .int .i64 0) rfl
          have hz1 := HL6.out.frz 1
          clear hr ha HR5 HP5 HL5
          go_wp2_with fail
          clear hc1 hz1
          obtain ⟨f, hf⟩ : ∃ f : Nat → Int, f = fun i => ((val 2 (ys.drop (21 + 14 * m + 8 + 2 * i)) : Nat) : Int) := ⟨_, rfl⟩
          have HFF := Lib.hid hf
          clear hf
          have HR7 := Lib.hid (HR6.out.far w4.heap.size 1 (.int .i64 (lg : Int)) (by omega))
          have HP7 := Lib.hid (HP6.out.own_ (g := w4.heap.size) (o := 1) (u := .int .i64 (lg : Int)) h4)
          have HL7 := Lib.hid (HL6.out.set_ 1 (.int .i64 (lg : Int)))
          clear HR6 HP6 HL6
          obtain ⟨G, hG⟩ : ∃ G, G = w4.heap.size := ⟨_, rfl⟩
          rw [← hG] at HL7 HR7 HP7 h4 ⊢
          have HGS := Lib.hid hG
          clear hG
          go_loopw [12] (fun i wr => ∃ j : Nat, j ≤ 3 ∧ i = .int .i64 (j : Int) ∧ Hid (RdS wr w1.heap.size 0 w1.heap.size ys (21 + 14 * m + 8 + 2 * j)) ∧ Hid (Keep (fun g => g = w1.heap.size) wo wr) ∧
            Hid (Blk wr G #[.int .i64 (lk : Int), .int .i64 (lg : Int), .int .i64 (upto f j 0), .int .i64 (upto f j 1), .int .i64 (upto f j 2)] 48)) (fun i _ => 3 - (intOf i).toNat)
          case atStart => exact ⟨0, by omega, rfl, HR7, HP7, HL7⟩
          case round =>
            obtain ⟨j, hj, rfl, HR, HP, HL⟩ := hrel
            clear HR7 HP7 HL7
            by_cases hlt3 : j < 3
            · have vx := val2_lt (ys.drop (21 + 14 * m + 8 + 2 * j))
              have HFJ := Lib.hid (show (val 2 (ys.drop (21 + 14 * m + 8 + 2 * j)) : Int) = f j by rw [HFF.out])
              go_wp2_with fail
              (with_reducible refine (num2 HR.out HYL2.out).mono ?_)
              rintro e w8 ⟨rfl, hr, ha⟩
              generalize val 2 (ys.drop (21 + 14 * m + 8 + 2 * j)) = z at *
              have HR8 := Lib.hid hr
              have HP8 := Lib.hid (HP.out.next ha)
              have HL8 := Lib.hid (HL.out.apart ha (by omega))
              obtain ⟨u, hu⟩ := five_at (.int .i64 (lk : Int)) (.int .i64 (lg : Int)) (.int .i64 (upto f j 0)) (.int .i64 (upto f j 1)) (.int .i64 (upto f j 2)) j hlt3
              have hc := HL8.out.cell (2 + j) hu
              have hz := HL8.out.frz (2 + j)
              clear hr ha HR HP HL hu
              go_wp2_with fail
              go_roundw
              case rel =>
                refine ⟨j + 1, by omega, by go_num, Lib.hid ?_, Lib.hid ?_, Lib.hid ?_⟩
                · exact HR8.out.far _ _ _ (by omega)
                · exact HP8.out.own_ h4
                · rw [← upto_set3 _ _ f j hlt3 _ HFJ.out]
                  exact HL8.out.set_ _ _
              case measure => simp [intOf]; omega
            · have HJ3 := Lib.hid (show j = 3 by omega)
              have HLE := Lib.hid (show l = ⟨(lk : Int), (lg : Int), upto f j 0, upto f j 1, upto f j 2⟩ by
                have h1 := HLK.out
                have h2 := HLG.out
                rw [HJ3.out, ← h1, ← h2, HLL.out, HFF.out]
                rfl)
              have x0 := HL.out.cell 0 (u := .int .i64 (lk : Int)) rfl
              have x1 := HL.out.cell 1 (u := .int .i64 (lg : Int)) rfl
              have x2 := HL.out.cell 2 (u := .int .i64 (upto f j 0)) rfl
              have x3 := HL.out.cell 3 (u := .int .i64 (upto f j 1)) rfl
              have x4 := HL.out.cell 4 (u := .int .i64 (upto f j 2)) rfl
              have HC9 := Lib.hid (HCm.out.keep HP.out (by omega))
              have hc0 := HC9.out.cell 0 (u := .slice a m c) rfl
              have HO9 := Lib.hid (HOm.out.keep HP.out (fun g e => by rw [e]; omega))
              have HK9 := Lib.hid (below_alloc (Below.refl _ wr) (.cells #[.int .i64 (lk : Int), .int .i64 (lg : Int), .int .i64 (upto f j 0), .int .i64 (upto f j 1), .int .i64 (upto f j 2)] 48))
              have HU := Lib.hid (show Els RLn 5 (wr.alloc (.cells #[.int .i64 (lk : Int), .int .i64 (lg : Int), .int .i64 (upto f j 0), .int .i64 (upto f j 1), .int .i64 (upto f j 2)] 48)) (.slice (some ⟨wr.heap.size, 0, none⟩) 1 1) [⟨(lk : Int), (lg : Int), upto f j 0, upto f j 1, upto f j 2⟩] from els_one wr ⟨(lk : Int), (lg : Int), upto f j 0, upto f j 1, upto f j 2⟩ _)
              have HO10 := Lib.hid (HO9.out.below HK9.out)
              have hCw9 := HC9.out.lt
              have hsz : C + 1 ≤ (wr.alloc (.cells #[.int .i64 (lk : Int), .int .i64 (lg : Int), .int .i64 (upto f j 0), .int .i64 (upto f j 1), .int .i64 (upto f j 2)] 48)).heap.size := by simp; omega
              go_wp2_with (at_builtin; refine wpList_appL rfl _ _ rfl (C + 1) (.slice a m c) m (rdLs ys m) rfl (rdLs_length ys m).symm HO10.out wr.heap.size 0 1 1 [⟨(lk : Int), (lg : Int), upto f j 0, upto f j 1, upto f j 2⟩] rfl rfl HU.out (by decide) (by omega) hsz ?_; intro g5 cap5 w10 hown hb; have HO11 := Lib.hid hown; have HB11 := Lib.hid ((HK9.out.mono (show C + 1 ≤ wr.heap.size by omega)).trans hb); have HC11 := Lib.hid (HC9.out.low HB11.out (Nat.lt_succ_self C)); have hc11 := HC11.out.cell 0 (u := .slice a m c) rfl; have hz11 := HC11.out.frz 0; clear hown hb HO10 HO9 HU HK9 hsz hc0 x0 x1 x2 x3 x4)
              go_roundw
              case rel =>
                have hR := HR.out
                rw [HJ3.out, show 21 + 14 * m + 8 + 2 * 3 = 21 + 14 * (m + 1) by omega] at hR
                refine ⟨m + 1, by omega, by go_num, Lib.hid ?_, Lib.hid ?_, Lib.hid ?_, Lib.hid ?_, some ⟨g5, 0, none⟩, cap5, Lib.hid ?_, Lib.hid ?_⟩
                · exact (hR.low HB11.out (by omega)).far _ _ _ (by omega)
                · refine bel_set ((below_keep HBm.out HP.out (fun g e => by rw [e]; omega)).trans (HB11.out.mono (by omega))) (by omega) _ _
                · exact ((HZm.out.keep HP.out (by omega)).low HB11.out (by omega)).far _ _ _ (by omega)
                · exact cell_far (cell_low (HP.out.cell HXm.out (by omega)) HB11.out (by omega)) (by omega)
                · exact HC11.out.set_ 0 _
                · rw [show rdLs ys (m + 1) = rdLs ys m ++ [rdL ys (21 + 14 * m)] from rfl, ← HLL.out, HLE.out]
                  exact HO11.out.keep (F := fun x => x = C) (Keep.set_ w10 C 0 _ rfl) (fun g e => by rw [e]; omega)
              case measure => simp [intOf]; omega
        · have hltI : ¬ (m : Int) < (k : Int) := by omega
          have HMK := Lib.hid (show m = k by omega)
          have hwC : w.heap.size < C := by omega
          obtain ⟨c0, c1, c2, c3, c4, c5, c6, c7, c8, c9, c10⟩ := Blk.eleven (v := .slice a m c) (T := T) HCm.out
          have HCH := Lib.hid (rcheck_any (.slice a m c) T (rdLs ys m) 0 (by rw [HT.out, HMK.out, HKN.out, HYS.out]; exact (if_pos HOK.out).symm) wr HOm.out.els (by rw [rdLs_length]; omega))
          unfold cfc at HCH
          go_wp2_with fail
          (with_reducible refine HCH.out.mono ?_)
          rintro e w4 ⟨rfl, hb⟩
          have HB4 := Lib.hid (below_call HBm.out hb)
          have HZ4 := Lib.hid (HZm.out.below hb)
          have HC4 := Lib.hid (HCm.out.below hb)
          have HO4 := Lib.hid (HOm.out.below hb)
          clear hb HBm HZm HCm HOm HCH hx3 HXm HRm c0 c1 c2 c3 c4 c5 c6 c7 c8 c9 c10
          obtain ⟨f0, f1, f2, f3, f4, f5, f6, f7, f8, f9, f10⟩ := HZ4.out.frz11
          obtain ⟨c0, c1, c2, c3, c4, c5, c6, c7, c8, c9, c10⟩ := Blk.eleven (T := fun _ => 0) HZ4.out
          obtain ⟨d0, d1, d2, d3, d4, d5, d6, d7, d8, d9, d10⟩ := Blk.eleven (T := T) HC4.out
          go_wp2_with fail
          (try simp only [Exit.inBlock, Exit.then])
          refine bodyPost_ret (v := .tuple #[.agg (cfc (.slice a m c) T), .int .i64 0]) ?_ rfl ⟨a, c, by rw [HT.out, HMK.out, HKN.out, HYS.out]; rfl, ?_, bel11 HB4.out (Nat.le_refl _) _ _ _ _ _ _ _ _ _ _ _⟩
          · rw [results_cell_tmp rfl]
            go_simp
            rfl
          · have h : rdN (dbody xs) = m := by rw [HMK.out, HKN.out, HYS.out]
            rw [h, ← HYS.out]
            exact (HO4.out.keep (Keep.of_apart (apart11 _ _ _ _ _ _ _ _ _ _ _ _ _)) (fun g e => by rw [e]; omega)).els

/-- All of it in one. -/
theorem rdec_any (v : Value) (xs : List (BitVec 8)) (code : Int) (T : Nat → Int) (ls : List Ln) (hcode : code = dcode xs) (hT : T = dT xs) (hls : ls = dLs xs) (w : World) (hv : Byts w v xs) (hl : xs.length ≤ 1000) :
    Calls Tryd.prog 13 #[v] w fun e w' => ∃ a c, e = .returned (.tuple #[.agg (cfc (.slice a ls.length c) T), .int .i64 code]) ∧ Els RLn 5 w' (.slice a ls.length c) ls ∧ Below w.heap.size w w' := by
  have no : ∀ k, code = k → k ≠ 0 → (Calls Tryd.prog 13 #[v] w fun e w' => e = .returned (.tuple #[.agg zcf, .int .i64 k]) ∧ Below w.heap.size w w') →
      Calls Tryd.prog 13 #[v] w fun e w' => ∃ a c, e = .returned (.tuple #[.agg (cfc (.slice a ls.length c) T), .int .i64 code]) ∧ Els RLn 5 w' (.slice a ls.length c) ls ∧ Below w.heap.size w w' := by
    intro k hk h0 h
    obtain ⟨z1, z2⟩ := zdec (xs := xs) (by rw [← hcode, hk]; exact h0) (.slice none 0 0)
    refine h.mono fun e w' ⟨he, hb⟩ => ⟨none, 0, ?_, ?_, hb⟩
    · rw [he, hT, hls, z2, List.length_nil, z1, hk]; rfl
    · rw [hls, z2]; exact zels _
  by_cases ho : opens xs = true
  · have hiff := pf_iff (front xs)
    have two : ¬ (Pre (front xs) ∧ Full (dbody xs)) → code = 2 := fun h => by rw [hcode]; unfold dcode; rw [if_pos ho, if_neg h]
    by_cases h1 : 4 ≤ (front xs).length
    · by_cases h2 : (front xs).take 3 = mark
      · by_cases h3 : (front xs).length = 24 + 14 * rdN ((front xs).drop 3)
        · have hpf : Pre (front xs) ∧ Full (dbody xs) := hiff.2 ⟨h1, h2, h3⟩
          by_cases hc : OkC (rdT (dbody xs)) (rdLs (dbody xs) (rdN (dbody xs)))
          · have h0 : dcode xs = 0 := (dcode_iff xs).2 ⟨ho, hpf.1, hpf.2, hc⟩
            have e1 : T = rdT (dbody xs) := by rw [hT]; funext i; unfold dT; rw [if_pos h0]
            have e2 : ls = rdLs (dbody xs) (rdN (dbody xs)) := by rw [hls]; unfold dLs; rw [if_pos h0]
            have e3 : ls.length = rdN (dbody xs) := by rw [e2, rdLs_length]
            rw [e3, e1, e2, hcode, h0]
            exact rdec_yes v xs w hv hl ho h1 h2 h3 hc
          · exact no 6 (by rw [hcode]; unfold dcode; rw [if_pos ho, if_pos hpf, if_neg hc]) (by decide) (rdec_range v xs w hv hl ho h1 h2 h3 hc)
        · exact no 2 (two (fun h => h3 (hiff.1 h).2.2)) (by decide) (rdec_len v xs w hv hl ho h1 h2 h3)
      · exact no 2 (two (fun h => h2 (hiff.1 h).2.1)) (by decide) (rdec_mark v xs w hv hl ho h1 h2)
    · exact no 2 (two (fun h => h1 (hiff.1 h).1)) (by decide) (rdec_short v xs w hv hl ho (by omega))
  · exact no 3 (by rw [hcode]; unfold dcode; rw [if_neg ho]) (by decide) (rdec_sum v xs w hv hl (by simpa using ho))
end Go.Proofs.YthjpacdhaeoecaaDoor
