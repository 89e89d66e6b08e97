/-
  LkA LkB LkC: merged.
-/
import Derived.BigQuiet
import Derived.Deep.QuietTactic
import Derived.WalkSpells
import Derived.Deep.RegionHeld3
import Derived.Deep.RegionWith
import Derived.Outline
import Derived.Test.YtolfdfbhignniaaDoorBase
/-
  link's small calls by contracts: bytes.Clone, isFresh, follows, fits, New.
-/
namespace Go.Proofs.YtolfdfbhignniaaDoor
open Go.RowKit

theorem clone_any (v : Value) (xs : List (BitVec 8)) (w : World) (hv : Byts w v xs) (hl : xs.length ≤ 1000000) :
    Calls Tryd.prog 70 #[v] w fun e w' => ∃ r, e = .returned r ∧ Own w' w.heap.size r xs ∧ Below w.heap.size w w' := by
  have HV := Lib.hid hv
  have HL := Lib.hid hl
  have hq := fun (w : World) (a : Option Addr) (n c n' c' : Nat) => Lib.run_eql_slice_nil (P := Tryd.prog) w 44 _ a n c n' c' Tryd.underlying44
  rcases show v = .slice none 0 0 ∨ ∃ a n c, v = .slice (some a) n c by
    rcases hv with ⟨_, h | ⟨a, c, h⟩⟩ | ⟨g, o, cap, h, _⟩
    · exact .inl h
    · exact .inr ⟨_, _, _, h⟩
    · exact .inr ⟨_, _, _, h⟩ with rfl | ⟨a, n, c, rfl⟩
  · have HX := Lib.hid (show xs = [] by
      obtain ⟨a, c, e⟩ := hv.len
      simp only [Value.slice.injEq] at e
      exact List.length_eq_zero_iff.1 e.2.1.symm)
    clear hv hl
    go_enter Tryd.func70, Tryd.ntmps70
    go_wp2_with fail
    go_ret
    exact ⟨_, rfl, by rw [HX.out]; exact World.ownsRow_nil w _ 5 1, Below.refl _ w⟩
  · clear hv hl
    have HB := Lib.hid (below_alloc (Below.refl _ w) (.cells #[] 5))
    have HO := Lib.hid (own_lit w w.heap.size [] (Nat.le_refl _) (by unfold maxLen; simp))
    have HV1 := Lib.hid (HV.out.below HB.out)
    have hsz := HB.out.size
    have HLL := Lib.hid (show ([] : List (BitVec 8)).length + xs.length ≤ 140737488355328 by have := HL.out; simp; omega)
    go_enter Tryd.func70, Tryd.ntmps70
    go_wp2_with (at_builtin; refine wpList_app rfl _ _ rfl w.heap.size _ [] rfl HO.out _ xs rfl HV1.out HLL.out hsz ?_; intro v1 w2 hown1 hg1; have HO1 := Lib.hid hown1; have HB2 := Lib.hid (HO.out.grown HB.out hg1); clear hown1 hg1 HO HB HV1 hsz)
    go_ret
    exact ⟨_, rfl, by simpa using HO1.out, HB2.out⟩
theorem ret_bool {a b : Bool} (h : a = b) : Ending.returned (.bool a) = .returned (.bool b) := by rw [h]
theorem isFresh_any (s : Bool) (w : World) (T b F : Nat) (f : Nat → Ch) (v : Nat → Value) (D : Nat → Prop) (h : Lk s w T b F f v D) (had : Bool) (seq A : Int) (age : Nat) (hA : A = (age : Int)) (u : Value) (r : Bool) (hr : r = (had && decide (age ≤ F))) :
    Calls Tryd.prog 58 #[.pointer (some ⟨b, 0, none⟩), .agg #[.bool had, .int .i64 seq, .int .i64 A, u]] w fun e w' => e = .returned (.bool r) ∧ Below w.heap.size w w' := by
  have h0 := h.F_
  have hb := Lib.hid (fun o => bel_drewN (w.alloc o))
  have HB := Lib.hid (below_alloc (Below.refl _ w) (.cells #[.bool had, .int .i64 seq, .int .i64 A, u] 76))
  have h1 := below_cell HB.out h0
  have hblt := h.blt
  have HR := Lib.hid hr
  have HA := Lib.hid hA
  clear h h0 hr hA
  cases had with
  | false =>
    go_enter Tryd.func58, Tryd.ntmps58
    go_wp2_with fail
    go_quiet (fail)
    go_wp2_with fail
    go_ret
    exact ⟨show Ending.returned (.bool false) = _ from ret_bool (by rw [HR.out]; rfl), below_call HB.out (hb.out _ _)⟩
  | true =>
    have q0 : decide (A ≤ (F : Int)) = r := by rw [HR.out, HA.out]; simp
    go_enter Tryd.func58, Tryd.ntmps58
    go_wp2_with fail
    go_quiet (fail)
    go_wp2_with fail
    go_ret
    exact ⟨rfl, below_call HB.out (hb.out _ _)⟩
theorem follows_any (q p : Int) (r : Bool) (hr : r = follows q p) (w : World) (hq : 0 ≤ q ∧ q ≤ 255) (hp : 0 ≤ p ∧ p ≤ 255) :
    Calls Tryd.prog 69 #[.int .i64 q, .int .i64 p] w fun e w' => e = .returned (.bool r) ∧ w = w' := by
  obtain ⟨q0, q1⟩ := hq
  obtain ⟨p0, p1⟩ := hp
  have HR := Lib.hid hr
  clear hr
  go_enter Tryd.func69, Tryd.ntmps69
  go_wp2_with fail
  all_goals
    go_ret
    refine ⟨ret_bool ?_, rfl⟩
    rw [HR.out]
    unfold follows
    simp
    omega
theorem zeroLk16 (C : Array Value) (h : C = #[.int .i64 0] ++ (List.replicate 16 [Value.bool false, .int .i64 0, .int .i64 0, .slice none 0 0]).flatten.toArray) (F : Int) :
    (C.setIfInBounds 0 (.int .i64 F)).size = 65 ∧ (C.setIfInBounds 0 (.int .i64 F))[0]? = some (.int .i64 F) ∧ ∀ k, k < 16 → (C.setIfInBounds 0 (.int .i64 F))[1 + k * 4]? = some (.bool false) ∧ (C.setIfInBounds 0 (.int .i64 F))[1 + k * 4 + 1]? = some (.int .i64 0) ∧ (C.setIfInBounds 0 (.int .i64 F))[1 + k * 4 + 2]? = some (.int .i64 0) ∧ (C.setIfInBounds 0 (.int .i64 F))[1 + k * 4 + 3]? = some (.slice none 0 0) := by
  subst h
  refine ⟨rfl, rfl, fun k hk => ?_⟩
  match k, hk with
  | 0, _ | 1, _ | 2, _ | 3, _ | 4, _ | 5, _ | 6, _ | 7, _ | 8, _ | 9, _ | 10, _ | 11, _ | 12, _ | 13, _ | 14, _ | 15, _ => exact ⟨rfl, rfl, rfl, rfl⟩
  | k + 16, hk => omega
theorem lk_made (s : Bool) (w : World) (T F : Nat) (hF : 1 ≤ F ∧ F ≤ 6000) (C : Array Value) (hC : C = #[.int .i64 0] ++ (List.replicate 16 [Value.bool false, .int .i64 0, .int .i64 0, .slice none 0 0]).flatten.toArray) :
    Lk s (w.alloc (.cells (C.setIfInBounds 0 (.int .i64 (F : Int))) T)) T w.heap.size F (fun _ => noCh) (fun _ => .slice none 0 0) (fun _ => False) := by
  obtain ⟨h1, h2, h3⟩ := zeroLk16 C hC F
  exact ⟨⟨_, heap_alloc_new w _, h1, h2, h3⟩, fun _ _ => ok_none F, fun _ _ => ⟨_, _, _, rfl⟩, fun _ _ _ => byts_nil _, fun _ _ a n c e => by (cases e), fun g hg => hg.elim, hF⟩
theorem zero7 : Tryd.zeroCells98 = #[.int .i64 0] ++ (List.replicate 16 [Value.bool false, .int .i64 0, .int .i64 0, .slice none 0 0]).flatten.toArray := by kernel_rfl
theorem new_any (fresh : Int) (F : Nat) (hF : (F : Int) = min (max fresh 1) 6000) (w : World) :
    Calls Tryd.prog 24 #[.int .i64 fresh] w fun e w' => ∃ b, e = .returned (.pointer (some ⟨b, 0, none⟩)) ∧ w.heap.size ≤ b ∧ Lk true w' 98 b F (fun _ => noCh) (fun _ => .slice none 0 0) (fun _ => False) ∧ Below w.heap.size w w' := by
  have HF := Lib.hid hF
  have HL := Lib.hid (lk_made true w 98 F (by omega) Tryd.zeroCells98 zero7)
  clear hF
  go_enter Tryd.func24, Tryd.ntmps24
  go_wp2_with fail
  all_goals
    go_ret
    refine ⟨w.heap.size, rfl, Nat.le_refl _, ?_, below_alloc (Below.refl _ w) _⟩
    have := HL.out
    rw [show (F : Int) = _ from HF.out] at this
    first
      | (rw [show min (max fresh 1) 6000 = 6000 by omega] at this; exact this)
      | (rw [show min (max fresh 1) 6000 = fresh by omega] at this; exact this)
      | (rw [show min (max fresh 1) 6000 = 1 by omega] at this; exact this)
theorem fits7_any (c q : Int) (a : Option Addr) (n cap : Nat) (r : Bool) (hr : r = decide (Fit c q n)) (w : World) :
    Calls Tryd.prog 68 #[.agg #[.int .i64 c, .int .i64 q, .slice a n cap]] w fun e w' => e = .returned (.bool r) ∧ Below w.heap.size w w' := by
  have HR := Lib.hid hr
  clear hr
  go_enter Tryd.func68, Tryd.ntmps68
  go_wp2_with fail
  all_goals
    go_ret
    refine ⟨ret_bool ?_, below_alloc (Below.refl _ w) _⟩
    rw [HR.out]
    first
      | exact (decide_eq_true (show Fit c q n by unfold Fit; omega)).symm
      | exact (decide_eq_false (show ¬ Fit c q n by unfold Fit; omega)).symm
      | (rw [decide_eq_decide]; unfold Fit; omega)
end Go.Proofs.YtolfdfbhignniaaDoor
/-
  link's older, At, Fresh by contracts.
-/
namespace Go.Proofs.YtolfdfbhignniaaDoor
open Go.RowKit

variable {s : Bool} {w w' : World} {b F : Nat} {f : Nat → Ch} {v : Nat → Value} {D : Nat → Prop}
theorem field_had (h : Bool) (s a : Int) (u : Value) (w : World) : (Instr.field 76 (.agg #[.bool h, .int .i64 s, .int .i64 a, u]) 0).run Tryd.prog w = .ok (.bool h) w := by kernel_rfl
theorem field_seq (h : Bool) (s a : Int) (u : Value) (w : World) : (Instr.field 76 (.agg #[.bool h, .int .i64 s, .int .i64 a, u]) 1).run Tryd.prog w = .ok (.int .i64 s) w := by kernel_rfl
theorem field_age (h : Bool) (s a : Int) (u : Value) (w : World) : (Instr.field 76 (.agg #[.bool h, .int .i64 s, .int .i64 a, u]) 2).run Tryd.prog w = .ok (.int .i64 a) w := by kernel_rfl
/-- The two blocks of older: what it was given, and what it answers. -/
theorem older_two (had : Bool) (seq : Int) (age : Nat) (u : Value) (w : World) : Hid (Below w.heap.size w ((w.alloc (.cells #[.bool had, .int .i64 seq, .int .i64 (age : Int), u] 76)).alloc (.cells #[.bool false, .int .i64 0, .int .i64 0, .slice none 0 0] 76))) ∧
    Hid (Blk ((w.alloc (.cells #[.bool had, .int .i64 seq, .int .i64 (age : Int), u] 76)).alloc (.cells #[.bool false, .int .i64 0, .int .i64 0, .slice none 0 0] 76)) w.heap.size #[.bool had, .int .i64 seq, .int .i64 (age : Int), u] 76) ∧
    Hid (Blk ((w.alloc (.cells #[.bool had, .int .i64 seq, .int .i64 (age : Int), u] 76)).alloc (.cells #[.bool false, .int .i64 0, .int .i64 0, .slice none 0 0] 76)) (w.heap.size + 1) #[.bool false, .int .i64 0, .int .i64 0, .slice none 0 0] 76) := by
  refine ⟨Lib.hid (below_alloc (below_alloc (Below.refl _ w) _) _), Lib.hid ((blk_new w _ 76).below (below_alloc (Below.refl _ _) _)), Lib.hid ?_⟩
  have := blk_new (w.alloc (.cells #[.bool had, .int .i64 seq, .int .i64 (age : Int), u] 76)) #[.bool false, .int .i64 0, .int .i64 0, .slice none 0 0] 76
  rwa [show (w.alloc (.cells #[.bool had, .int .i64 seq, .int .i64 (age : Int), u] 76)).heap.size = w.heap.size + 1 by simp] at this
theorem older_no (h : Lk s w 98 b F f v D) (had : Bool) (seq : Int) (age : Nat) (ua : Option Addr) (un uc : Nat) (hf : (had && decide (age ≤ F)) = false) :
    Calls Tryd.prog 72 #[.pointer (some ⟨b, 0, none⟩), .agg #[.bool had, .int .i64 seq, .int .i64 (age : Int), .slice ua un uc]] w fun e w' => e = .returned (.agg #[.bool had, .int .i64 seq, .int .i64 (age : Int), .slice ua un uc]) ∧ Below w.heap.size w w' := by
  have HL := Lib.hid h
  have HF := Lib.hid hf
  obtain ⟨HB0, HX, HY⟩ := older_two had seq age (.slice ua un uc) w
  clear h hf
  go_enter Tryd.func72, Tryd.ntmps72
  go_wp2_with fail
  (with_reducible refine (isFresh_any s _ 98 b F f v D (HL.out.below HB0.out) had seq _ age rfl (.slice ua un uc) false HF.out.symm).mono ?_)
  rintro e w1 ⟨rfl, hb⟩
  obtain ⟨x0, x1, x2, x3⟩ := (HX.out.below hb).four
  obtain ⟨y0, y1, y2, y3⟩ := (HY.out.below hb).four
  obtain ⟨z0, z1, z2, z3⟩ := (HY.out.below hb).frz4
  have HB := Lib.hid (below_call HB0.out hb)
  clear hb HX HY HB0 HL HF
  go_wp2_with fail
  refine bodyPost_ret (v := .agg #[.bool had, .int .i64 seq, .int .i64 (age : Int), .slice ua un uc]) ?_ rfl ⟨rfl, bel_set4 HB.out (by omega) _ _ _ _⟩
  rw [results_cell1 rfl]
  go_simp
theorem older_stay (h : Lk s w 98 b F f v D) (seq : Int) (age : Nat) (ua : Option Addr) (un uc : Nat) (hs : age + 1 ≤ F) :
    Calls Tryd.prog 72 #[.pointer (some ⟨b, 0, none⟩), .agg #[.bool true, .int .i64 seq, .int .i64 (age : Int), .slice ua un uc]] w fun e w' => e = .returned (.agg #[.bool true, .int .i64 seq, .int .i64 ((age : Int) + 1), .slice ua un uc]) ∧ Below w.heap.size w w' := by
  have HL := Lib.hid h
  obtain ⟨HB0, HX, HY⟩ := older_two true seq age (.slice ua un uc) w
  have hF := h.F1.2
  have ha : age ≤ 6000 := by omega
  have HS := Lib.hid hs
  clear h hs hF
  go_enter Tryd.func72, Tryd.ntmps72
  go_wp2_with fail
  (with_reducible refine (isFresh_any s _ 98 b F f v D (HL.out.below HB0.out) true seq _ age rfl (.slice ua un uc) true (by have := HS.out; simp; omega)).mono ?_)
  rintro e w1 ⟨rfl, hb⟩
  obtain ⟨x0, x1, x2, x3⟩ := (HX.out.below hb).four
  obtain ⟨z0, z1, z2, z3⟩ := (HX.out.below hb).frz4
  have HX1 := Lib.hid ((HX.out.below hb).set_ 2 (.int .i64 ((age : Int) + 1)))
  have HY1 := Lib.hid ((HY.out.below hb).far w.heap.size 2 (.int .i64 ((age : Int) + 1)) (by omega))
  have HB := Lib.hid (bel_set (below_call HB0.out hb) (Nat.le_refl _) 2 (.int .i64 ((age : Int) + 1)))
  have HL1 := Lib.hid (HL.out.below HB.out)
  clear hb HX HY HB0 HL
  go_wp2_with fail
  (with_reducible refine (isFresh_any s _ 98 b F f v D HL1.out true seq _ (age + 1) (by simp) (.slice ua un uc) true (by have := HS.out; simp; omega)).mono ?_)
  rintro e w2 ⟨rfl, hb⟩
  clear x0 x1 x2 x3 z0 z1 z2 z3
  obtain ⟨x0, x1, x2, x3⟩ := Blk.four (c0 := .bool true) (c1 := .int .i64 seq) (c2 := .int .i64 ((age : Int) + 1)) (c3 := .slice ua un uc) (HX1.out.below hb)
  obtain ⟨y0, y1, y2, y3⟩ := (HY1.out.below hb).four
  obtain ⟨z0, z1, z2, z3⟩ := (HY1.out.below hb).frz4
  have HB2 := Lib.hid (below_call HB.out hb)
  clear hb HX1 HY1 HB HL1
  go_wp2_with fail
  refine bodyPost_ret (v := .agg #[.bool true, .int .i64 seq, .int .i64 ((age : Int) + 1), .slice ua un uc]) ?_ rfl ⟨rfl, bel_set4 HB2.out (by omega) _ _ _ _⟩
  rw [results_cell1 rfl]
  go_simp
theorem older_end (h : Lk s w 98 b F f v D) (seq : Int) (age : Nat) (ua : Option Addr) (un uc : Nat) (h1 : age ≤ F) (hs : F < age + 1) :
    Calls Tryd.prog 72 #[.pointer (some ⟨b, 0, none⟩), .agg #[.bool true, .int .i64 seq, .int .i64 (age : Int), .slice ua un uc]] w fun e w' => e = .returned (.agg #[.bool true, .int .i64 seq, .int .i64 ((age : Int) + 1), .slice none 0 0]) ∧ Below w.heap.size w w' := by
  have HL := Lib.hid h
  obtain ⟨HB0, HX, HY⟩ := older_two true seq age (.slice ua un uc) w
  have hF := h.F1.2
  have ha : age ≤ 6000 := by omega
  have HS := Lib.hid hs
  have H1 := Lib.hid h1
  clear h hs hF h1
  go_enter Tryd.func72, Tryd.ntmps72
  go_wp2_with fail
  (with_reducible refine (isFresh_any s _ 98 b F f v D (HL.out.below HB0.out) true seq _ age rfl (.slice ua un uc) true (by have := H1.out; simp; omega)).mono ?_)
  rintro e w1 ⟨rfl, hb⟩
  obtain ⟨x0, x1, x2, x3⟩ := (HX.out.below hb).four
  obtain ⟨z0, z1, z2, z3⟩ := (HX.out.below hb).frz4
  have HX1 := Lib.hid ((HX.out.below hb).set_ 2 (.int .i64 ((age : Int) + 1)))
  have HY1 := Lib.hid ((HY.out.below hb).far w.heap.size 2 (.int .i64 ((age : Int) + 1)) (by omega))
  have HB := Lib.hid (bel_set (below_call HB0.out hb) (Nat.le_refl _) 2 (.int .i64 ((age : Int) + 1)))
  have HL1 := Lib.hid (HL.out.below HB.out)
  clear hb HX HY HB0 HL
  go_wp2_with fail
  (with_reducible refine (isFresh_any s _ 98 b F f v D HL1.out true seq _ (age + 1) (by simp) (.slice ua un uc) false (by have := HS.out; simp; omega)).mono ?_)
  rintro e w2 ⟨rfl, hb⟩
  clear x0 x1 x2 x3 z0 z1 z2 z3
  obtain ⟨x0, x1, x2, x3⟩ := Blk.four (c0 := .bool true) (c1 := .int .i64 seq) (c2 := .int .i64 ((age : Int) + 1)) (c3 := .slice ua un uc) (HX1.out.below hb)
  have z3x := (HX1.out.below hb).frz 3
  obtain ⟨y0, y1, y2, y3⟩ := (HY1.out.below hb).four
  obtain ⟨z0, z1, z2, z3⟩ := (HY1.out.below hb).frz4
  have HB2 := Lib.hid (below_call HB.out hb)
  clear hb HX1 HY1 HB HL1
  go_wp2_with fail
  refine bodyPost_ret (v := .agg #[.bool true, .int .i64 seq, .int .i64 ((age : Int) + 1), .slice none 0 0]) ?_ rfl ⟨rfl, bel_set4 (bel_set HB2.out (Nat.le_refl _) _ _) (by omega) _ _ _ _⟩
  rw [results_cell1 rfl]
  go_simp
/-- A channel a tick later. -/
theorem older_any (F : Nat) (c : Ch) (a : Option Addr) (n cp : Nat) : ∃ a' n' cp', (a' = a ∧ n' = n ∧ cp' = cp ∧ (older F c).xs = c.xs ∨ a' = none ∧ n' = 0 ∧ cp' = 0 ∧ (older F c).xs = []) ∧
    ∀ s w b f v D, Lk s w 98 b F f v D → Calls Tryd.prog 72 #[.pointer (some ⟨b, 0, none⟩), .agg #[.bool c.had, .int .i64 c.seq, .int .i64 (c.age : Int), .slice a n cp]] w fun e w' => e = .returned (.agg #[.bool (older F c).had, .int .i64 (older F c).seq, .int .i64 ((older F c).age : Int), .slice a' n' cp']) ∧ Below w.heap.size w w' := by
  cases hf : isF F c with
  | false =>
    rw [older_stale hf]
    exact ⟨a, n, cp, .inl ⟨rfl, rfl, rfl, rfl⟩, fun s w b f v D h => older_no h c.had c.seq c.age a n cp hf⟩
  | true =>
    obtain ⟨h1, h2⟩ := isF_iff.1 hf
    by_cases h3 : c.age + 1 ≤ F
    · rw [older_stays hf h3, h1]
      exact ⟨a, n, cp, .inl ⟨rfl, rfl, rfl, rfl⟩, fun s w b f v D h => older_stay h c.seq c.age a n cp h3⟩
    · rw [older_ends hf (by omega), h1]
      exact ⟨none, 0, 0, .inr ⟨rfl, rfl, rfl, rfl⟩, fun s w b f v D h => older_end h c.seq c.age a n cp h2 (by omega)⟩
theorem at_in (h : Lk true w 98 b F f v D) (k : Nat) (hk : k < 16) (ch : Int) (hc : ch = (k : Int)) :
    Calls Tryd.prog 57 #[.pointer (some ⟨b, 0, none⟩), .int .i64 ch] w fun e w' => ∃ r, e = .returned (.agg #[.bool (f k).had, .int .i64 (f k).seq, .int .i64 ((f k).age : Int), r]) ∧ Own w' w.heap.size r (f k).xs ∧ Below w.heap.size w w' := by
  subst hc
  have HB := Lib.hid (below_alloc (Below.refl _ w) (.cells #[.bool false, .int .i64 0, .int .i64 0, .slice none 0 0] 76))
  obtain ⟨a0, a1, a2, a3⟩ := (h.below HB.out).at_ k hk
  obtain ⟨va, vn, vc, ev⟩ := h.sl k hk
  rw [ev] at a3
  have hlt := h.blt
  have hk0 : (0 : Int) ≤ (k : Int) := by omega
  have q0 : decide ((k : Int) < 0) = false := by simp
  have q1 : decide ((16 : Int) ≤ (k : Int)) = false := by simp; omega
  have HL := Lib.hid h
  have HV := Lib.hid (show Byts w (.slice va vn vc) (f k).xs by rw [← ev]; exact h.dat k hk (.inl rfl))
  have HN := Lib.hid (show (f k).xs.length ≤ 1000000 by have := (h.ok k hk).len; omega)
  generalize (f k).had = had at *
  generalize (f k).seq = seq at *
  generalize (f k).age = age at *
  generalize (f k).xs = xs at *
  clear h ev
  go_enter Tryd.func57, Tryd.ntmps57
  go_wp2_with fail
  have HB0 := Lib.hid (below_alloc HB.out (.cells #[.bool had, .int .i64 seq, .int .i64 (age : Int), .slice va vn vc] 76))
  have HY := Lib.hid ((blk_new w #[.bool false, .int .i64 0, .int .i64 0, .slice none 0 0] 76).below (below_alloc (Below.refl _ _) (.cells #[.bool had, .int .i64 seq, .int .i64 (age : Int), .slice va vn vc] 76)))
  have HX := Lib.hid (blk_new (w.alloc (.cells #[.bool false, .int .i64 0, .int .i64 0, .slice none 0 0] 76)) #[.bool had, .int .i64 seq, .int .i64 (age : Int), .slice va vn vc] 76)
  rw [show (w.alloc (.cells #[.bool false, .int .i64 0, .int .i64 0, .slice none 0 0] 76)).heap.size = w.heap.size + 1 by simp] at HX
  (with_reducible refine (clone_any _ xs _ (HV.out.below HB0.out) HN.out).mono ?_)
  rintro e w1 ⟨r, rfl, ho, hb⟩
  clear a0 a1 a2 a3
  obtain ⟨ra, rc, er⟩ := ho.byts.len
  have HO := Lib.hid (ho.mono HB0.out.size)
  have HLR := Lib.hid (show ∀ g, r.ownBlock = some g → w.heap.size + 2 ≤ g by
    intro g hg
    have := (World.ownsRow.lt ho g hg).1
    simpa using this)
  obtain ⟨x0, x1, x2, x3⟩ := (HX.out.below hb).four
  have zx := (HX.out.below hb).frz 3
  obtain ⟨y0, y1, y2, y3⟩ := (HY.out.below hb).four
  obtain ⟨z0, z1, z2, z3⟩ := (HY.out.below hb).frz4
  have HB1 := Lib.hid (below_call HB0.out hb)
  clear hb ho HX HY HB0 HB HL HV
  have HER := Lib.hid er
  subst er
  go_wp2_with fail
  refine bodyPost_ret (v := .agg #[.bool had, .int .i64 seq, .int .i64 (age : Int), .slice ra xs.length rc]) ?_ rfl ⟨_, rfl, ?_, bel_set4 (bel_set HB1.out (by omega) _ _) (by omega) _ _ _ _⟩
  · rw [results_cell1 rfl]
    go_simp
  · refine HO.out.keepB (G := fun g => g < w.heap.size + 2) (((((((Keep.refl _ w1).store _ _ _ ?_).store _ _ _ ?_).store _ _ _ ?_).store _ _ _ ?_).store _ _ _ ?_)) (fun g hg h => ?_)
    all_goals first | omega | (have := HLR.out g hg; omega)
theorem at_out (b : Nat) (ch : Int) (hc : ch < 0 ∨ 15 < ch) (w : World) :
    Calls Tryd.prog 57 #[.pointer (some ⟨b, 0, none⟩), .int .i64 ch] w fun e w' => e = .returned (.agg #[.bool false, .int .i64 0, .int .i64 0, .slice none 0 0]) ∧ Below w.heap.size w w' := by
  rcases hc with hc | hc
  · have q0 : decide (ch < 0) = true := by simp; omega
    go_enter Tryd.func57, Tryd.ntmps57
    go_wp2_with fail
    refine bodyPost_ret (v := .agg #[.bool false, .int .i64 0, .int .i64 0, .slice none 0 0]) ?_ rfl ⟨rfl, below_alloc (Below.refl _ w) _⟩
    rw [results_cell1 rfl]
    go_simp
  · have q0 : decide (ch < 0) = false := by simp; omega
    have q1 : decide ((16 : Int) ≤ ch) = true := by simp; omega
    go_enter Tryd.func57, Tryd.ntmps57
    go_wp2_with fail
    refine bodyPost_ret (v := .agg #[.bool false, .int .i64 0, .int .i64 0, .slice none 0 0]) ?_ rfl ⟨rfl, below_alloc (Below.refl _ w) _⟩
    rw [results_cell1 rfl]
    go_simp
theorem at_any (h : Lk true w 98 b F f v D) (ch : Int) (c : Ch) (hc : c = peek f ch) :
    Calls Tryd.prog 57 #[.pointer (some ⟨b, 0, none⟩), .int .i64 ch] w fun e w' => ∃ r, e = .returned (.agg #[.bool c.had, .int .i64 c.seq, .int .i64 (c.age : Int), r]) ∧ Own w' w.heap.size r c.xs ∧ Below w.heap.size w w' := by
  by_cases hi : 0 ≤ ch ∧ ch ≤ 15
  · rw [hc, peek_in f (k := ch.toNat) (by omega) (by omega)]
    exact at_in h ch.toNat (by omega) ch (by omega)
  · rw [hc, peek_out f (by omega)]
    exact (at_out b ch (by omega) w).mono fun e w' ⟨he, hb⟩ => ⟨_, he, World.ownsRow_nil w' _ 5 1, hb⟩
theorem fresh_any (h : Lk true w 98 b F f v D) (ch : Int) (c : Ch) (hc : c = peek f ch) :
    Calls Tryd.prog 27 #[.pointer (some ⟨b, 0, none⟩), .int .i64 ch] w fun e w' => ∃ r, e = .returned (.tuple #[r, .bool (isF F c)]) ∧ Own w' w.heap.size r c.xs ∧ Below w.heap.size w w' := by
  have HA := Lib.hid (at_any h ch c hc)
  have HL := Lib.hid h
  clear h hc
  go_enter Tryd.func27, Tryd.ntmps27
  go_wp2_with fail
  (with_reducible refine HA.out.mono ?_)
  rintro e w1 ⟨r, rfl, ho, hb⟩
  obtain ⟨ra, rc, er⟩ := ho.byts.len
  have HO := Lib.hid ho
  have HB := Lib.hid (below_alloc hb (.cells #[.bool c.had, .int .i64 c.seq, .int .i64 (c.age : Int), r] 76))
  have HL1 := Lib.hid (HL.out.below HB.out)
  obtain ⟨x0, x1, x2, x3⟩ := (blk_new w1 #[.bool c.had, .int .i64 c.seq, .int .i64 (c.age : Int), r] 76).four
  clear hb ho HA HL
  subst er
  go_wp2_with fail
  go_region_held3 (fun w' => w'.cell? ⟨w1.heap.size, 0, none⟩ = some (.bool c.had) ∧ w'.cell? ⟨w1.heap.size, 1, none⟩ = some (.int .i64 c.seq) ∧ w'.cell? ⟨w1.heap.size, 2, none⟩ = some (.int .i64 (c.age : Int)) ∧ w'.cell? ⟨w1.heap.size, 3, none⟩ = some (.slice ra c.xs.length rc))
    (first | exact ⟨x0, x1, x2, x3⟩ | exact HX2.out)
    (first | (go_at_call 58; (with_reducible refine (isFresh_any true _ 98 b F f v D HL1.out.drw c.had c.seq _ c.age rfl _ (isF F c) rfl).mono ?_); rintro e w2 ⟨rfl, hb⟩; have HX2 := Lib.hid ((show Blk (w1.alloc (.cells #[.bool c.had, .int .i64 c.seq, .int .i64 (c.age : Int), .slice ra c.xs.length rc] 76)).drew w1.heap.size #[.bool c.had, .int .i64 c.seq, .int .i64 (c.age : Int), .slice ra c.xs.length rc] 76 from blk_new w1 _ _).below hb).four; have HB2 := Lib.hid hb; clear hb))
  go_wp2_with fail
  go_ret2
  exact ⟨_, rfl, (HO.out.below (below_alloc (Below.refl _ w1) _)).below (below_call (bel_drewN _ 1) HB2.out), below_call HB.out (below_call (bel_drewN _ 1) HB2.out)⟩
end Go.Proofs.YtolfdfbhignniaaDoor
/-
  link's Take by contracts.
-/
namespace Go.Proofs.YtolfdfbhignniaaDoor
open Go.RowKit

variable {w w' : World} {b F : Nat} {f : Nat → Ch} {v : Nat → Value} {D : Nat → Prop}
theorem take_arg (c q : Int) (u : Value) (xs : List (BitVec 8)) (hu : Byts w u xs) (hn : ¬ Fit c q xs.length) :
    Calls Tryd.prog 48 #[.pointer (some ⟨b, 0, none⟩), .agg #[.int .i64 c, .int .i64 q, u]] w fun e w' => ∃ g, e = .returned (.iface 79 (.pointer (some ⟨g, 0, none⟩))) ∧ w'.cell? ⟨g, 1, none⟩ = some (.int .i64 1) ∧ Below w.heap.size w w' := by
  obtain ⟨ua, uc, eu⟩ := hu.len
  have HN := Lib.hid hn
  have HB := Lib.hid (below_alloc (Below.refl _ w) (.cells #[.int .i64 c, .int .i64 q, u] 84))
  clear hu hn
  subst eu
  go_enter Tryd.func48, Tryd.ntmps48
  go_wp2_with fail
  (with_reducible refine (fits7_any c q _ _ _ false (decide_eq_false HN.out).symm _).mono ?_)
  rintro e w1 ⟨rfl, hb⟩
  have HB1 := Lib.hid (below_call HB.out hb)
  clear hb HB
  go_wp2_with fail
  (with_reducible refine (new_form 1 rfl _ _).mono ?_)
  rintro e w2 ⟨g, hg, rfl, hc, hb⟩
  have HB2 := Lib.hid (below_call HB1.out hb)
  have HC := Lib.hid hc
  clear hb hg hc HB1
  go_wp2_with fail
  go_ret
  exact ⟨g, rfl, HC.out, HB2.out⟩
set_option maxHeartbeats 1000000 in
theorem take_old (h : Lk true w 98 b F f v D) (k : Nat) (hk : k < 16) (q : Int) (u : Value) (xs : List (BitVec 8)) (hu : Byts w u xs) (hq : 0 ≤ q ∧ q ≤ 255) (hl : xs.length ≤ 16) (hf : isF F (f k) = true) (hn : follows q (f k).seq = false) :
    Calls Tryd.prog 48 #[.pointer (some ⟨b, 0, none⟩), .agg #[.int .i64 (k : Int), .int .i64 q, u]] w fun e w' => ∃ g, e = .returned (.iface 79 (.pointer (some ⟨g, 0, none⟩))) ∧ w'.cell? ⟨g, 1, none⟩ = some (.int .i64 4) ∧ Below w.heap.size w w' := by
  obtain ⟨ua, uc, eu⟩ := hu.len
  have HN := Lib.hid hn
  have HF := Lib.hid hf
  have HQ := Lib.hid hq
  have HP := Lib.hid (h.ok k hk).seq
  have HFit := Lib.hid (show Fit (k : Int) q xs.length by unfold Fit; omega)
  have HB := Lib.hid (below_alloc (Below.refl _ w) (.cells #[.int .i64 (k : Int), .int .i64 q, u] 84))
  have HX := Lib.hid (blk_new w #[.int .i64 (k : Int), .int .i64 q, u] 84)
  have HL := Lib.hid h
  have hk0 : (0 : Int) ≤ (k : Int) := by omega
  have hk1 : (k : Int) < 16 := by omega
  obtain ⟨va, vn, vc, ev⟩ := h.sl k hk
  have HEV := Lib.hid ev
  clear hu hn h ev hf hq hl
  subst eu
  go_enter Tryd.func48, Tryd.ntmps48
  go_wp2_with fail
  (with_reducible refine (fits7_any (k : Int) q _ _ _ true (decide_eq_true HFit.out).symm _).mono ?_)
  rintro e w1 ⟨rfl, hb⟩
  have HB1 := Lib.hid (below_call HB.out hb)
  have HL1 := Lib.hid (HL.out.below HB1.out)
  have HX1 := Lib.hid (HX.out.below hb)
  obtain ⟨x0, x1, x2⟩ := HX1.out.three
  obtain ⟨c0, c1, c2, c3⟩ := HL1.out.at_ k hk
  rw [HEV.out] at c3
  clear hb HB HL HX
  go_wp2_with fail
  go_quiet (fail)
  have HBd := Lib.hid (bel_drewN w1 nq)
  have HB2 := Lib.hid (below_call HB1.out HBd.out)
  have HL2 := Lib.hid (HL1.out.below HBd.out)
  have HX2 := Lib.hid (HX1.out.below HBd.out)
  generalize w1.drewN nq = w2 at *
  clear x0 x1 x2 c0 c1 c2 c3 HB1 HL1 HX1 HBd
  obtain ⟨x0, x1, x2⟩ := HX2.out.three
  obtain ⟨c0, c1, c2, c3⟩ := HL2.out.at_ k hk
  rw [HEV.out] at c3
  obtain ⟨p, HPP⟩ : ∃ p, Hid (p = (f k).seq) := ⟨_, Lib.hid rfl⟩
  obtain ⟨a, HPA⟩ : ∃ a, Hid (a = (f k).age) := ⟨_, Lib.hid rfl⟩
  rw [(isF_iff.1 HF.out).1] at c0
  rw [← HPP.out] at c1 HP HN
  rw [← HPA.out] at c2
  have HAF := Lib.hid (show true = (true && decide (a ≤ F)) by rw [HPA.out]; have := (isF_iff.1 HF.out).2; simp; omega)
  go_wp2_with fail
  go_region_held3 (fun w' => w'.cell? ⟨b, 1 + k * 4, none⟩ = some (.bool true) ∧ w'.cell? ⟨b, 1 + k * 4 + 1, none⟩ = some (.int .i64 p) ∧ w'.cell? ⟨b, 1 + k * 4 + 2, none⟩ = some (.int .i64 (a : Int)) ∧ w'.cell? ⟨b, 1 + k * 4 + 3, none⟩ = some (.slice va vn vc) ∧ w'.cell? ⟨w.heap.size, 1, none⟩ = some (.int .i64 q))
    (first | exact ⟨c0, c1, c2, c3, x1⟩ | exact HK.out)
    (first
      | (go_at_call 58; (with_reducible refine (isFresh_any true _ 98 b F f v D HL2.out.drw true p _ a rfl _ true HAF.out).mono ?_); rintro e w3 ⟨rfl, hb⟩; have HB3 := Lib.hid hb; have HK := Lib.hid (show w3.cell? ⟨b, 1 + k * 4, none⟩ = some (.bool true) ∧ w3.cell? ⟨b, 1 + k * 4 + 1, none⟩ = some (.int .i64 p) ∧ w3.cell? ⟨b, 1 + k * 4 + 2, none⟩ = some (.int .i64 (a : Int)) ∧ w3.cell? ⟨b, 1 + k * 4 + 3, none⟩ = some (.slice va vn vc) ∧ w3.cell? ⟨w.heap.size, 1, none⟩ = some (.int .i64 q) from ⟨below_cell hb (show w2.drew.cell? _ = _ from c0), below_cell hb (show w2.drew.cell? _ = _ from c1), below_cell hb (show w2.drew.cell? _ = _ from c2), below_cell hb (show w2.drew.cell? _ = _ from c3), below_cell hb (show w2.drew.cell? _ = _ from x1)⟩); clear hb)
      | (go_at_call 69; (with_reducible refine (follows_any q p false HN.out.symm _ HQ.out HP.out).mono ?_); rintro e w4 ⟨rfl, rfl⟩))
  go_wp2_with fail
  (with_reducible refine (new_form 4 rfl _ _).mono ?_)
  rintro e w4 ⟨g, hg, rfl, hc, hb⟩
  have HB4 := Lib.hid (below_call HB2.out (below_call (bel_drewN w2 1) (below_call HB3.out hb)))
  have HC := Lib.hid hc
  clear hb hg hc
  go_wp2_with fail
  go_ret
  exact ⟨g, rfl, HC.out, HB4.out⟩
end Go.Proofs.YtolfdfbhignniaaDoor
