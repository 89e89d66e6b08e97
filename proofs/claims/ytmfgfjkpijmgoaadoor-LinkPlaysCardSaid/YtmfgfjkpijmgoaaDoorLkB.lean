/-
  link's older, At, Fresh by contracts.
-/
import Derived.Test.YtmfgfjkpijmgoaaDoorLkA
import Derived.Test.YtmfgfjkpijmgoaaDoorBlk
import Derived.Deep.RegionHeld3
namespace Go.Proofs.YtmfgfjkpijmgoaaDoor
open Go.RowKit

variable {s : Bool} {w w' : World} {b F : Nat} {f : Nat → Ch} {v : Nat → Value} {D : Nat → Prop}
theorem field_had (h : Bool) (s a : Int) (u : Value) (w : World) : (Instr.field 43 (.agg #[.bool h, .int .i64 s, .int .i64 a, u]) 0).run Tryd.prog w = .ok (.bool h) w := by kernel_rfl
theorem field_seq (h : Bool) (s a : Int) (u : Value) (w : World) : (Instr.field 43 (.agg #[.bool h, .int .i64 s, .int .i64 a, u]) 1).run Tryd.prog w = .ok (.int .i64 s) w := by kernel_rfl
theorem field_age (h : Bool) (s a : Int) (u : Value) (w : World) : (Instr.field 43 (.agg #[.bool h, .int .i64 s, .int .i64 a, u]) 2).run Tryd.prog w = .ok (.int .i64 a) w := by kernel_rfl
/-- The two blocks of older: what it was given, and what it answers. -/
theorem older_two (had : Bool) (seq : Int) (age : Nat) (u : Value) (w : World) : Hid (Below w.heap.size w ((w.alloc (.cells #[.bool had, .int .i64 seq, .int .i64 (age : Int), u] 43)).alloc (.cells #[.bool false, .int .i64 0, .int .i64 0, .slice none 0 0] 43))) ∧
    Hid (Blk ((w.alloc (.cells #[.bool had, .int .i64 seq, .int .i64 (age : Int), u] 43)).alloc (.cells #[.bool false, .int .i64 0, .int .i64 0, .slice none 0 0] 43)) w.heap.size #[.bool had, .int .i64 seq, .int .i64 (age : Int), u] 43) ∧
    Hid (Blk ((w.alloc (.cells #[.bool had, .int .i64 seq, .int .i64 (age : Int), u] 43)).alloc (.cells #[.bool false, .int .i64 0, .int .i64 0, .slice none 0 0] 43)) (w.heap.size + 1) #[.bool false, .int .i64 0, .int .i64 0, .slice none 0 0] 43) := by
  refine ⟨Lib.hid (below_alloc (below_alloc (Below.refl _ w) _) _), Lib.hid ((blk_new w _ 43).below (below_alloc (Below.refl _ _) _)), Lib.hid ?_⟩
  have := blk_new (w.alloc (.cells #[.bool had, .int .i64 seq, .int .i64 (age : Int), u] 43)) #[.bool false, .int .i64 0, .int .i64 0, .slice none 0 0] 43
  rwa [show (w.alloc (.cells #[.bool had, .int .i64 seq, .int .i64 (age : Int), u] 43)).heap.size = w.heap.size + 1 by simp] at this
theorem older_no (h : Lk s w 55 b F f v D) (had : Bool) (seq : Int) (age : Nat) (ua : Option Addr) (un uc : Nat) (hf : (had && decide (age ≤ F)) = false) :
    Calls Tryd.prog 23 #[.pointer (some ⟨b, 0, none⟩), .agg #[.bool had, .int .i64 seq, .int .i64 (age : Int), .slice ua un uc]] w fun e w' => e = .returned (.agg #[.bool had, .int .i64 seq, .int .i64 (age : Int), .slice ua un uc]) ∧ Below w.heap.size w w' := by
  have HL := Lib.hid h
  have HF := Lib.hid hf
  obtain ⟨HB0, HX, HY⟩ := older_two had seq age (.slice ua un uc) w
  clear h hf
  go_enter Tryd.func23, Tryd.ntmps23
  go_wp2_with fail
  (with_reducible refine (isFresh_any s _ 55 b F f v D (HL.out.below HB0.out) had seq _ age rfl (.slice ua un uc) false HF.out.symm).mono ?_)
  rintro e w1 ⟨rfl, hb⟩
  obtain ⟨x0, x1, x2, x3⟩ := (HX.out.below hb).four
  obtain ⟨y0, y1, y2, y3⟩ := (HY.out.below hb).four
  obtain ⟨z0, z1, z2, z3⟩ := (HY.out.below hb).frz4
  have HB := Lib.hid (below_call HB0.out hb)
  clear hb HX HY HB0 HL HF
  go_wp2_with fail
  refine bodyPost_ret (v := .agg #[.bool had, .int .i64 seq, .int .i64 (age : Int), .slice ua un uc]) ?_ rfl ⟨rfl, bel_set4 HB.out (by omega) _ _ _ _⟩
  rw [results_cell1 rfl]
  go_simp
theorem older_stay (h : Lk s w 55 b F f v D) (seq : Int) (age : Nat) (ua : Option Addr) (un uc : Nat) (hs : age + 1 ≤ F) :
    Calls Tryd.prog 23 #[.pointer (some ⟨b, 0, none⟩), .agg #[.bool true, .int .i64 seq, .int .i64 (age : Int), .slice ua un uc]] w fun e w' => e = .returned (.agg #[.bool true, .int .i64 seq, .int .i64 ((age : Int) + 1), .slice ua un uc]) ∧ Below w.heap.size w w' := by
  have HL := Lib.hid h
  obtain ⟨HB0, HX, HY⟩ := older_two true seq age (.slice ua un uc) w
  have hF := h.F1.2
  have ha : age ≤ 6000 := by omega
  have HS := Lib.hid hs
  clear h hs hF
  go_enter Tryd.func23, Tryd.ntmps23
  go_wp2_with fail
  (with_reducible refine (isFresh_any s _ 55 b F f v D (HL.out.below HB0.out) true seq _ age rfl (.slice ua un uc) true (by have := HS.out; simp; omega)).mono ?_)
  rintro e w1 ⟨rfl, hb⟩
  obtain ⟨x0, x1, x2, x3⟩ := (HX.out.below hb).four
  obtain ⟨z0, z1, z2, z3⟩ := (HX.out.below hb).frz4
  have HX1 := Lib.hid ((HX.out.below hb).set_ 2 (.int .i64 ((age : Int) + 1)))
  have HY1 := Lib.hid ((HY.out.below hb).far w.heap.size 2 (.int .i64 ((age : Int) + 1)) (by omega))
  have HB := Lib.hid (bel_set (below_call HB0.out hb) (Nat.le_refl _) 2 (.int .i64 ((age : Int) + 1)))
  have HL1 := Lib.hid (HL.out.below HB.out)
  clear hb HX HY HB0 HL
  go_wp2_with fail
  (with_reducible refine (isFresh_any s _ 55 b F f v D HL1.out true seq _ (age + 1) (by simp) (.slice ua un uc) true (by have := HS.out; simp; omega)).mono ?_)
  rintro e w2 ⟨rfl, hb⟩
  clear x0 x1 x2 x3 z0 z1 z2 z3
  obtain ⟨x0, x1, x2, x3⟩ := Blk.four (c0 := .bool true) (c1 := .int .i64 seq) (c2 := .int .i64 ((age : Int) + 1)) (c3 := .slice ua un uc) (HX1.out.below hb)
  obtain ⟨y0, y1, y2, y3⟩ := (HY1.out.below hb).four
  obtain ⟨z0, z1, z2, z3⟩ := (HY1.out.below hb).frz4
  have HB2 := Lib.hid (below_call HB.out hb)
  clear hb HX1 HY1 HB HL1
  go_wp2_with fail
  refine bodyPost_ret (v := .agg #[.bool true, .int .i64 seq, .int .i64 ((age : Int) + 1), .slice ua un uc]) ?_ rfl ⟨rfl, bel_set4 HB2.out (by omega) _ _ _ _⟩
  rw [results_cell1 rfl]
  go_simp
theorem older_end (h : Lk s w 55 b F f v D) (seq : Int) (age : Nat) (ua : Option Addr) (un uc : Nat) (h1 : age ≤ F) (hs : F < age + 1) :
    Calls Tryd.prog 23 #[.pointer (some ⟨b, 0, none⟩), .agg #[.bool true, .int .i64 seq, .int .i64 (age : Int), .slice ua un uc]] w fun e w' => e = .returned (.agg #[.bool true, .int .i64 seq, .int .i64 ((age : Int) + 1), .slice none 0 0]) ∧ Below w.heap.size w w' := by
  have HL := Lib.hid h
  obtain ⟨HB0, HX, HY⟩ := older_two true seq age (.slice ua un uc) w
  have hF := h.F1.2
  have ha : age ≤ 6000 := by omega
  have HS := Lib.hid hs
  have H1 := Lib.hid h1
  clear h hs hF h1
  go_enter Tryd.func23, Tryd.ntmps23
  go_wp2_with fail
  (with_reducible refine (isFresh_any s _ 55 b F f v D (HL.out.below HB0.out) true seq _ age rfl (.slice ua un uc) true (by have := H1.out; simp; omega)).mono ?_)
  rintro e w1 ⟨rfl, hb⟩
  obtain ⟨x0, x1, x2, x3⟩ := (HX.out.below hb).four
  obtain ⟨z0, z1, z2, z3⟩ := (HX.out.below hb).frz4
  have HX1 := Lib.hid ((HX.out.below hb).set_ 2 (.int .i64 ((age : Int) + 1)))
  have HY1 := Lib.hid ((HY.out.below hb).far w.heap.size 2 (.int .i64 ((age : Int) + 1)) (by omega))
  have HB := Lib.hid (bel_set (below_call HB0.out hb) (Nat.le_refl _) 2 (.int .i64 ((age : Int) + 1)))
  have HL1 := Lib.hid (HL.out.below HB.out)
  clear hb HX HY HB0 HL
  go_wp2_with fail
  (with_reducible refine (isFresh_any s _ 55 b F f v D HL1.out true seq _ (age + 1) (by simp) (.slice ua un uc) false (by have := HS.out; simp; omega)).mono ?_)
  rintro e w2 ⟨rfl, hb⟩
  clear x0 x1 x2 x3 z0 z1 z2 z3
  obtain ⟨x0, x1, x2, x3⟩ := Blk.four (c0 := .bool true) (c1 := .int .i64 seq) (c2 := .int .i64 ((age : Int) + 1)) (c3 := .slice ua un uc) (HX1.out.below hb)
  have z3x := (HX1.out.below hb).frz 3
  obtain ⟨y0, y1, y2, y3⟩ := (HY1.out.below hb).four
  obtain ⟨z0, z1, z2, z3⟩ := (HY1.out.below hb).frz4
  have HB2 := Lib.hid (below_call HB.out hb)
  clear hb HX1 HY1 HB HL1
  go_wp2_with fail
  refine bodyPost_ret (v := .agg #[.bool true, .int .i64 seq, .int .i64 ((age : Int) + 1), .slice none 0 0]) ?_ rfl ⟨rfl, bel_set4 (bel_set HB2.out (Nat.le_refl _) _ _) (by omega) _ _ _ _⟩
  rw [results_cell1 rfl]
  go_simp
/-- A channel a tick later. -/
theorem older_any (F : Nat) (c : Ch) (a : Option Addr) (n cp : Nat) : ∃ a' n' cp', (a' = a ∧ n' = n ∧ cp' = cp ∧ (older F c).xs = c.xs ∨ a' = none ∧ n' = 0 ∧ cp' = 0 ∧ (older F c).xs = []) ∧
    ∀ s w b f v D, Lk s w 55 b F f v D → Calls Tryd.prog 23 #[.pointer (some ⟨b, 0, none⟩), .agg #[.bool c.had, .int .i64 c.seq, .int .i64 (c.age : Int), .slice a n cp]] w fun e w' => e = .returned (.agg #[.bool (older F c).had, .int .i64 (older F c).seq, .int .i64 ((older F c).age : Int), .slice a' n' cp']) ∧ Below w.heap.size w w' := by
  cases hf : isF F c with
  | false =>
    rw [older_stale hf]
    exact ⟨a, n, cp, .inl ⟨rfl, rfl, rfl, rfl⟩, fun s w b f v D h => older_no h c.had c.seq c.age a n cp hf⟩
  | true =>
    obtain ⟨h1, h2⟩ := isF_iff.1 hf
    by_cases h3 : c.age + 1 ≤ F
    · rw [older_stays hf h3, h1]
      exact ⟨a, n, cp, .inl ⟨rfl, rfl, rfl, rfl⟩, fun s w b f v D h => older_stay h c.seq c.age a n cp h3⟩
    · rw [older_ends hf (by omega), h1]
      exact ⟨none, 0, 0, .inr ⟨rfl, rfl, rfl, rfl⟩, fun s w b f v D h => older_end h c.seq c.age a n cp h2 (by omega)⟩
theorem at_in (h : Lk true w 55 b F f v D) (k : Nat) (hk : k < 16) (ch : Int) (hc : ch = (k : Int)) :
    Calls Tryd.prog 20 #[.pointer (some ⟨b, 0, none⟩), .int .i64 ch] w fun e w' => ∃ r, e = .returned (.agg #[.bool (f k).had, .int .i64 (f k).seq, .int .i64 ((f k).age : Int), r]) ∧ Own w' w.heap.size r (f k).xs ∧ Below w.heap.size w w' := by
  subst hc
  have HB := Lib.hid (below_alloc (Below.refl _ w) (.cells #[.bool false, .int .i64 0, .int .i64 0, .slice none 0 0] 43))
  obtain ⟨a0, a1, a2, a3⟩ := (h.below HB.out).at_ k hk
  obtain ⟨va, vn, vc, ev⟩ := h.sl k hk
  rw [ev] at a3
  have hlt := h.blt
  have hk0 : (0 : Int) ≤ (k : Int) := by omega
  have q0 : decide ((k : Int) < 0) = false := by simp
  have q1 : decide ((16 : Int) ≤ (k : Int)) = false := by simp; omega
  have HL := Lib.hid h
  have HV := Lib.hid (show Byts w (.slice va vn vc) (f k).xs by rw [← ev]; exact h.dat k hk (.inl rfl))
  have HN := Lib.hid (show (f k).xs.length ≤ 1000000 by have := (h.ok k hk).len; omega)
  generalize (f k).had = had at *
  generalize (f k).seq = seq at *
  generalize (f k).age = age at *
  generalize (f k).xs = xs at *
  clear h ev
  go_enter Tryd.func20, Tryd.ntmps20
  go_wp2_with fail
  have HB0 := Lib.hid (below_alloc HB.out (.cells #[.bool had, .int .i64 seq, .int .i64 (age : Int), .slice va vn vc] 43))
  have HY := Lib.hid ((blk_new w #[.bool false, .int .i64 0, .int .i64 0, .slice none 0 0] 43).below (below_alloc (Below.refl _ _) (.cells #[.bool had, .int .i64 seq, .int .i64 (age : Int), .slice va vn vc] 43)))
  have HX := Lib.hid (blk_new (w.alloc (.cells #[.bool false, .int .i64 0, .int .i64 0, .slice none 0 0] 43)) #[.bool had, .int .i64 seq, .int .i64 (age : Int), .slice va vn vc] 43)
  rw [show (w.alloc (.cells #[.bool false, .int .i64 0, .int .i64 0, .slice none 0 0] 43)).heap.size = w.heap.size + 1 by simp] at HX
  (with_reducible refine (clone_any _ xs _ (HV.out.below HB0.out) HN.out).mono ?_)
  rintro e w1 ⟨r, rfl, ho, hb⟩
  clear a0 a1 a2 a3
  obtain ⟨ra, rc, er⟩ := ho.byts.len
  have HO := Lib.hid (ho.mono HB0.out.size)
  have HLR := Lib.hid (show ∀ g, r.ownBlock = some g → w.heap.size + 2 ≤ g by
    intro g hg
    have := (World.ownsRow.lt ho g hg).1
    simpa using this)
  obtain ⟨x0, x1, x2, x3⟩ := (HX.out.below hb).four
  have zx := (HX.out.below hb).frz 3
  obtain ⟨y0, y1, y2, y3⟩ := (HY.out.below hb).four
  obtain ⟨z0, z1, z2, z3⟩ := (HY.out.below hb).frz4
  have HB1 := Lib.hid (below_call HB0.out hb)
  clear hb ho HX HY HB0 HB HL HV
  have HER := Lib.hid er
  subst er
  go_wp2_with fail
  refine bodyPost_ret (v := .agg #[.bool had, .int .i64 seq, .int .i64 (age : Int), .slice ra xs.length rc]) ?_ rfl ⟨_, rfl, ?_, bel_set4 (bel_set HB1.out (by omega) _ _) (by omega) _ _ _ _⟩
  · rw [results_cell1 rfl]
    go_simp
  · refine HO.out.keepB (G := fun g => g < w.heap.size + 2) (((((((Keep.refl _ w1).store _ _ _ ?_).store _ _ _ ?_).store _ _ _ ?_).store _ _ _ ?_).store _ _ _ ?_)) (fun g hg h => ?_)
    all_goals first | omega | (have := HLR.out g hg; omega)
theorem at_out (b : Nat) (ch : Int) (hc : ch < 0 ∨ 15 < ch) (w : World) :
    Calls Tryd.prog 20 #[.pointer (some ⟨b, 0, none⟩), .int .i64 ch] w fun e w' => e = .returned (.agg #[.bool false, .int .i64 0, .int .i64 0, .slice none 0 0]) ∧ Below w.heap.size w w' := by
  rcases hc with hc | hc
  · have q0 : decide (ch < 0) = true := by simp; omega
    go_enter Tryd.func20, Tryd.ntmps20
    go_wp2_with fail
    refine bodyPost_ret (v := .agg #[.bool false, .int .i64 0, .int .i64 0, .slice none 0 0]) ?_ rfl ⟨rfl, below_alloc (Below.refl _ w) _⟩
    rw [results_cell1 rfl]
    go_simp
  · have q0 : decide (ch < 0) = false := by simp; omega
    have q1 : decide ((16 : Int) ≤ ch) = true := by simp; omega
    go_enter Tryd.func20, Tryd.ntmps20
    go_wp2_with fail
    refine bodyPost_ret (v := .agg #[.bool false, .int .i64 0, .int .i64 0, .slice none 0 0]) ?_ rfl ⟨rfl, below_alloc (Below.refl _ w) _⟩
    rw [results_cell1 rfl]
    go_simp
theorem at_any (h : Lk true w 55 b F f v D) (ch : Int) (c : Ch) (hc : c = peek f ch) :
    Calls Tryd.prog 20 #[.pointer (some ⟨b, 0, none⟩), .int .i64 ch] w fun e w' => ∃ r, e = .returned (.agg #[.bool c.had, .int .i64 c.seq, .int .i64 (c.age : Int), r]) ∧ Own w' w.heap.size r c.xs ∧ Below w.heap.size w w' := by
  by_cases hi : 0 ≤ ch ∧ ch ≤ 15
  · rw [hc, peek_in f (k := ch.toNat) (by omega) (by omega)]
    exact at_in h ch.toNat (by omega) ch (by omega)
  · rw [hc, peek_out f (by omega)]
    exact (at_out b ch (by omega) w).mono fun e w' ⟨he, hb⟩ => ⟨_, he, World.ownsRow_nil w' _ 5 1, hb⟩
theorem fresh_any (h : Lk true w 55 b F f v D) (ch : Int) (c : Ch) (hc : c = peek f ch) :
    Calls Tryd.prog 17 #[.pointer (some ⟨b, 0, none⟩), .int .i64 ch] w fun e w' => ∃ r, e = .returned (.tuple #[r, .bool (isF F c)]) ∧ Own w' w.heap.size r c.xs ∧ Below w.heap.size w w' := by
  have HA := Lib.hid (at_any h ch c hc)
  have HL := Lib.hid h
  clear h hc
  go_enter Tryd.func17, Tryd.ntmps17
  go_wp2_with fail
  (with_reducible refine HA.out.mono ?_)
  rintro e w1 ⟨r, rfl, ho, hb⟩
  obtain ⟨ra, rc, er⟩ := ho.byts.len
  have HO := Lib.hid ho
  have HB := Lib.hid (below_alloc hb (.cells #[.bool c.had, .int .i64 c.seq, .int .i64 (c.age : Int), r] 43))
  have HL1 := Lib.hid (HL.out.below HB.out)
  obtain ⟨x0, x1, x2, x3⟩ := (blk_new w1 #[.bool c.had, .int .i64 c.seq, .int .i64 (c.age : Int), r] 43).four
  clear hb ho HA HL
  subst er
  go_wp2_with fail
  go_region_held3 (fun w' => w'.cell? ⟨w1.heap.size, 0, none⟩ = some (.bool c.had) ∧ w'.cell? ⟨w1.heap.size, 1, none⟩ = some (.int .i64 c.seq) ∧ w'.cell? ⟨w1.heap.size, 2, none⟩ = some (.int .i64 (c.age : Int)) ∧ w'.cell? ⟨w1.heap.size, 3, none⟩ = some (.slice ra c.xs.length rc))
    (first | exact ⟨x0, x1, x2, x3⟩ | exact HX2.out)
    (first | (go_at_call 27; (with_reducible refine (isFresh_any true _ 55 b F f v D HL1.out.drw c.had c.seq _ c.age rfl _ (isF F c) rfl).mono ?_); rintro e w2 ⟨rfl, hb⟩; have HX2 := Lib.hid ((show Blk (w1.alloc (.cells #[.bool c.had, .int .i64 c.seq, .int .i64 (c.age : Int), .slice ra c.xs.length rc] 43)).drew w1.heap.size #[.bool c.had, .int .i64 c.seq, .int .i64 (c.age : Int), .slice ra c.xs.length rc] 43 from blk_new w1 _ _).below hb).four; have HB2 := Lib.hid hb; clear hb))
  go_wp2_with fail
  go_ret2
  exact ⟨_, rfl, (HO.out.below (below_alloc (Below.refl _ w1) _)).below (below_call (bel_drewN _ 1) HB2.out), below_call HB.out (below_call (bel_drewN _ 1) HB2.out)⟩
end Go.Proofs.YtmfgfjkpijmgoaaDoor
