/-
  link's small calls by contracts: bytes.Clone, isFresh, follows, fits, New.
-/
import Derived.Test.YtmfgfjkpijmgoaaDoorLkMem
import Derived.Test.YtmfgfjkpijmgoaaDoorErrs
import Derived.Test.YtmfgfjkpijmgoaaDoorFit
import Derived.BigQuiet
import Derived.Deep.QuietTactic
import Derived.WalkSpells
namespace Go.Proofs.YtmfgfjkpijmgoaaDoor
open Go.RowKit

theorem clone_any (v : Value) (xs : List (BitVec 8)) (w : World) (hv : Byts w v xs) (hl : xs.length ≤ 1000000) :
    Calls Tryd.prog 29 #[v] w fun e w' => ∃ r, e = .returned r ∧ Own w' w.heap.size r xs ∧ Below w.heap.size w w' := by
  have HV := Lib.hid hv
  have HL := Lib.hid hl
  have hq := fun (w : World) (a : Option Addr) (n c n' c' : Nat) => Lib.run_eql_slice_nil (P := Tryd.prog) w 28 _ a n c n' c' Tryd.underlying28
  rcases show v = .slice none 0 0 ∨ ∃ a n c, v = .slice (some a) n c by
    rcases hv with ⟨_, h | ⟨a, c, h⟩⟩ | ⟨g, o, cap, h, _⟩
    · exact .inl h
    · exact .inr ⟨_, _, _, h⟩
    · exact .inr ⟨_, _, _, h⟩ with rfl | ⟨a, n, c, rfl⟩
  · have HX := Lib.hid (show xs = [] by
      obtain ⟨a, c, e⟩ := hv.len
      simp only [Value.slice.injEq] at e
      exact List.length_eq_zero_iff.1 e.2.1.symm)
    clear hv hl
    go_enter Tryd.func29, Tryd.ntmps29
    go_wp2_with fail
    go_ret
    exact ⟨_, rfl, by rw [HX.out]; exact World.ownsRow_nil w _ 5 1, Below.refl _ w⟩
  · clear hv hl
    have HB := Lib.hid (below_alloc (Below.refl _ w) (.cells #[] 5))
    have HO := Lib.hid (own_lit w w.heap.size [] (Nat.le_refl _) (by unfold maxLen; simp))
    have HV1 := Lib.hid (HV.out.below HB.out)
    have hsz := HB.out.size
    have HLL := Lib.hid (show ([] : List (BitVec 8)).length + xs.length ≤ 140737488355328 by have := HL.out; simp; omega)
    go_enter Tryd.func29, Tryd.ntmps29
    go_wp2_with (at_builtin; refine wpList_app rfl _ _ rfl w.heap.size _ [] rfl HO.out _ xs rfl HV1.out HLL.out hsz ?_; intro v1 w2 hown1 hg1; have HO1 := Lib.hid hown1; have HB2 := Lib.hid (HO.out.grown HB.out hg1); clear hown1 hg1 HO HB HV1 hsz)
    go_ret
    exact ⟨_, rfl, by simpa using HO1.out, HB2.out⟩
theorem ret_bool {a b : Bool} (h : a = b) : Ending.returned (.bool a) = .returned (.bool b) := by rw [h]
theorem isFresh_any (s : Bool) (w : World) (T b F : Nat) (f : Nat → Ch) (v : Nat → Value) (D : Nat → Prop) (h : Lk s w T b F f v D) (had : Bool) (seq A : Int) (age : Nat) (hA : A = (age : Int)) (u : Value) (r : Bool) (hr : r = (had && decide (age ≤ F))) :
    Calls Tryd.prog 27 #[.pointer (some ⟨b, 0, none⟩), .agg #[.bool had, .int .i64 seq, .int .i64 A, u]] w fun e w' => e = .returned (.bool r) ∧ Below w.heap.size w w' := by
  have h0 := h.F_
  have hb := Lib.hid (fun o => bel_drewN (w.alloc o))
  have HB := Lib.hid (below_alloc (Below.refl _ w) (.cells #[.bool had, .int .i64 seq, .int .i64 A, u] 43))
  have h1 := below_cell HB.out h0
  have hblt := h.blt
  have HR := Lib.hid hr
  have HA := Lib.hid hA
  clear h h0 hr hA
  cases had with
  | false =>
    go_enter Tryd.func27, Tryd.ntmps27
    go_wp2_with fail
    go_quiet (fail)
    go_wp2_with fail
    go_ret
    exact ⟨show Ending.returned (.bool false) = _ from ret_bool (by rw [HR.out]; rfl), below_call HB.out (hb.out _ _)⟩
  | true =>
    have q0 : decide (A ≤ (F : Int)) = r := by rw [HR.out, HA.out]; simp
    go_enter Tryd.func27, Tryd.ntmps27
    go_wp2_with fail
    go_quiet (fail)
    go_wp2_with fail
    go_ret
    exact ⟨rfl, below_call HB.out (hb.out _ _)⟩
theorem follows_any (q p : Int) (r : Bool) (hr : r = follows q p) (w : World) (hq : 0 ≤ q ∧ q ≤ 255) (hp : 0 ≤ p ∧ p ≤ 255) :
    Calls Tryd.prog 28 #[.int .i64 q, .int .i64 p] w fun e w' => e = .returned (.bool r) ∧ w = w' := by
  obtain ⟨q0, q1⟩ := hq
  obtain ⟨p0, p1⟩ := hp
  have HR := Lib.hid hr
  clear hr
  go_enter Tryd.func28, Tryd.ntmps28
  go_wp2_with fail
  all_goals
    go_ret
    refine ⟨ret_bool ?_, rfl⟩
    rw [HR.out]
    unfold follows
    simp
    omega
theorem zeroLk16 (C : Array Value) (h : C = #[.int .i64 0] ++ (List.replicate 16 [Value.bool false, .int .i64 0, .int .i64 0, .slice none 0 0]).flatten.toArray) (F : Int) :
    (C.setIfInBounds 0 (.int .i64 F)).size = 65 ∧ (C.setIfInBounds 0 (.int .i64 F))[0]? = some (.int .i64 F) ∧ ∀ k, k < 16 → (C.setIfInBounds 0 (.int .i64 F))[1 + k * 4]? = some (.bool false) ∧ (C.setIfInBounds 0 (.int .i64 F))[1 + k * 4 + 1]? = some (.int .i64 0) ∧ (C.setIfInBounds 0 (.int .i64 F))[1 + k * 4 + 2]? = some (.int .i64 0) ∧ (C.setIfInBounds 0 (.int .i64 F))[1 + k * 4 + 3]? = some (.slice none 0 0) := by
  subst h
  refine ⟨rfl, rfl, fun k hk => ?_⟩
  match k, hk with
  | 0, _ | 1, _ | 2, _ | 3, _ | 4, _ | 5, _ | 6, _ | 7, _ | 8, _ | 9, _ | 10, _ | 11, _ | 12, _ | 13, _ | 14, _ | 15, _ => exact ⟨rfl, rfl, rfl, rfl⟩
  | k + 16, hk => omega
theorem lk_made (s : Bool) (w : World) (T F : Nat) (hF : 1 ≤ F ∧ F ≤ 6000) (C : Array Value) (hC : C = #[.int .i64 0] ++ (List.replicate 16 [Value.bool false, .int .i64 0, .int .i64 0, .slice none 0 0]).flatten.toArray) :
    Lk s (w.alloc (.cells (C.setIfInBounds 0 (.int .i64 (F : Int))) T)) T w.heap.size F (fun _ => noCh) (fun _ => .slice none 0 0) (fun _ => False) := by
  obtain ⟨h1, h2, h3⟩ := zeroLk16 C hC F
  exact ⟨⟨_, heap_alloc_new w _, h1, h2, h3⟩, fun _ _ => ok_none F, fun _ _ => ⟨_, _, _, rfl⟩, fun _ _ _ => byts_nil _, fun _ _ a n c e => by (cases e), fun g hg => hg.elim, hF⟩
theorem zero7 : Tryd.zeroCells55 = #[.int .i64 0] ++ (List.replicate 16 [Value.bool false, .int .i64 0, .int .i64 0, .slice none 0 0]).flatten.toArray := by kernel_rfl
theorem new_any (fresh : Int) (F : Nat) (hF : (F : Int) = min (max fresh 1) 6000) (w : World) :
    Calls Tryd.prog 10 #[.int .i64 fresh] w fun e w' => ∃ b, e = .returned (.pointer (some ⟨b, 0, none⟩)) ∧ w.heap.size ≤ b ∧ Lk true w' 55 b F (fun _ => noCh) (fun _ => .slice none 0 0) (fun _ => False) ∧ Below w.heap.size w w' := by
  have HF := Lib.hid hF
  have HL := Lib.hid (lk_made true w 55 F (by omega) Tryd.zeroCells55 zero7)
  clear hF
  go_enter Tryd.func10, Tryd.ntmps10
  go_wp2_with fail
  all_goals
    go_ret
    refine ⟨w.heap.size, rfl, Nat.le_refl _, ?_, below_alloc (Below.refl _ w) _⟩
    have := HL.out
    rw [show (F : Int) = _ from HF.out] at this
    first
      | (rw [show min (max fresh 1) 6000 = 6000 by omega] at this; exact this)
      | (rw [show min (max fresh 1) 6000 = fresh by omega] at this; exact this)
      | (rw [show min (max fresh 1) 6000 = 1 by omega] at this; exact this)
theorem fits7_any (c q : Int) (a : Option Addr) (n cap : Nat) (r : Bool) (hr : r = decide (Fit c q n)) (w : World) :
    Calls Tryd.prog 25 #[.agg #[.int .i64 c, .int .i64 q, .slice a n cap]] w fun e w' => e = .returned (.bool r) ∧ Below w.heap.size w w' := by
  have HR := Lib.hid hr
  clear hr
  go_enter Tryd.func25, Tryd.ntmps25
  go_wp2_with fail
  all_goals
    go_ret
    refine ⟨ret_bool ?_, below_alloc (Below.refl _ w) _⟩
    rw [HR.out]
    first
      | exact (decide_eq_true (show Fit c q n by unfold Fit; omega)).symm
      | exact (decide_eq_false (show ¬ Fit c q n by unfold Fit; omega)).symm
      | (rw [decide_eq_decide]; unfold Fit; omega)
end Go.Proofs.YtmfgfjkpijmgoaaDoor
