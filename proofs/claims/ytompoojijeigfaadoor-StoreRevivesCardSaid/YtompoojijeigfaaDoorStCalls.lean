/-
  What a store's calls do: holds, spend, Write, Kill, Dead, Revive, Size, Read.
-/
import Derived.Test.YtompoojijeigfaaDoorStMem
import Derived.Test.YtompoojijeigfaaDoorErrs
import Derived.Test.YtompoojijeigfaaDoorBytK
import Derived.Test.YtompoojijeigfaaDoorClone
import Derived.Test.YtompoojijeigfaaDoorCut
import Derived.Lib.Hide
namespace Go.Proofs.YtompoojijeigfaaDoor
open Go.RowKit

variable {w : World} {s B : Nat} {xs : List (BitVec 8)} {dead doomed : Bool} {left : Nat}
/-- What of a store changes: its own two blocks. -/
def own2 (s B : Nat) : Nat → Prop := fun k => k = s ∨ k = B

theorem size_to (h : Sto w s B xs dead doomed left) (n : Nat) (hn : n = xs.length) :
    Calls Tryd.prog 15 #[.pointer (some ⟨s, 0, none⟩)] w fun e w' => e = .returned (.int .i64 (n : Int)) ∧ w = w' := by
  have c0 := h.blk.cell 0 (u := .slice (some ⟨B, 0, none⟩) n n) (by rw [hn]; rfl)
  clear h hn
  go_enter Tryd.func15, Tryd.ntmps15
  go_wp2_with fail
  go_ret
  exact ⟨rfl, rfl⟩
theorem dead_to (h : Sto w s B xs dead doomed left) :
    Calls Tryd.prog 11 #[.pointer (some ⟨s, 0, none⟩)] w fun e w' => e = .returned (.bool dead) ∧ w = w' := by
  have c1 := h.blk.cell 1 (u := .bool dead) rfl
  clear h
  go_enter Tryd.func11, Tryd.ntmps11
  go_wp2_with fail
  go_ret
  exact ⟨rfl, rfl⟩
theorem revive_to (h : Sto w s B xs dead doomed left) :
    Calls Tryd.prog 12 #[.pointer (some ⟨s, 0, none⟩)] w fun e w' => e = .returned (.tuple #[]) ∧ Sto w' s B xs false false left ∧ Keep (own2 s B) w w' := by
  have c1 := h.blk.cell 1 (u := .bool dead) rfl
  have c2 := h.blk.cell 2 (u := .bool doomed) rfl
  have f1 := h.blk.frz 1
  have f2 := h.blk.frz 2
  have H := Lib.hid h
  clear h
  go_enter Tryd.func12, Tryd.ntmps12
  go_wp2_with fail
  go_end0
  have k1 : Keep (own2 s B) w ((w.setCell ⟨s, 1, none⟩ (.bool false)).setCell ⟨s, 2, none⟩ (.bool false)) := ((Keep.refl _ w).store s 1 _ (.inl rfl)).store s 2 _ (.inl rfl)
  have k2 : Keep (fun k => k = s) w ((w.setCell ⟨s, 1, none⟩ (.bool false)).setCell ⟨s, 2, none⟩ (.bool false)) := ((Keep.refl (fun k => k = s) w).store s 1 _ rfl).store s 2 _ rfl
  exact ⟨rfl, ⟨(H.out.blk.set_ 1 _).set_ 2 _, H.out.row.keep k2 (fun e => H.out.ne e.symm), H.out.ne, H.out.len, H.out.most⟩, k1⟩
theorem kill_to (h : Sto w s B xs dead doomed left) (n : Int) (k : Nat) (hk : (k : Int) = max n 0) (hn : n ≤ 9223372036854775807) :
    Calls Tryd.prog 10 #[.pointer (some ⟨s, 0, none⟩), .int .i64 n] w fun e w' => e = .returned (.tuple #[]) ∧ Sto w' s B xs dead true k ∧ Keep (own2 s B) w w' := by
  have c2 := h.blk.cell 2 (u := .bool doomed) rfl
  have c3 := h.blk.cell 3 (u := .int .i64 (left : Int)) rfl
  have f2 := h.blk.frz 2
  have f3 := h.blk.frz 3
  have H := Lib.hid h
  have HN := Lib.hid (show k ≤ 9223372036854775807 by omega)
  have m1 : ∀ (ts : Array TypeId) (t : TypeId) (w : World), (Builtin.max_ ts t #[.int .i64 n, .int .i64 0]).run Tryd.prog w = .ok (.int .i64 (k : Int)) w := fun ts t w => by
    rw [run_max_int2, show (if n < (0 : Int) then (0 : Int) else n) = (k : Int) by split <;> omega]
  clear h hn hk
  go_enter Tryd.func10, Tryd.ntmps10
  go_wp2_with fail
  go_end0
  have k1 : Keep (own2 s B) w ((w.setCell ⟨s, 2, none⟩ (.bool true)).setCell ⟨s, 3, none⟩ (.int .i64 (k : Int))) := ((Keep.refl _ w).store s 2 _ (.inl rfl)).store s 3 _ (.inl rfl)
  have k2 : Keep (fun k => k = s) w ((w.setCell ⟨s, 2, none⟩ (.bool true)).setCell ⟨s, 3, none⟩ (.int .i64 (k : Int))) := ((Keep.refl (fun k => k = s) w).store s 2 _ rfl).store s 3 _ rfl
  exact ⟨rfl, ⟨(H.out.blk.set_ 2 _).set_ 3 _, H.out.row.keep k2 (fun e => H.out.ne e.symm), H.out.ne, H.out.len, HN.out⟩, k1⟩
/-- Do n bytes from at on stand in it? -/
theorem holds_to (h : Sto w s B xs dead doomed left) (at_ n : Int) (hn : -140737488355328 ≤ n) (hn2 : n ≤ 9223372036854775807) (r : Bool) (hr : r = decide (0 ≤ at_ ∧ at_ ≤ (xs.length : Int) - n)) :
    Calls Tryd.prog 18 #[.pointer (some ⟨s, 0, none⟩), .int .i64 at_, .int .i64 n] w fun e w' => e = .returned (.bool r) ∧ w = w' := by
  have hl := h.len
  obtain ⟨m, hm⟩ : ∃ m, m = xs.length := ⟨_, rfl⟩
  rw [← hm] at hr hl
  have c0 := h.blk.cell 0 (u := .slice (some ⟨B, 0, none⟩) m m) (by rw [hm]; rfl)
  have e1 : IntKind.i64.wrap ((m : Int) - n) = (m : Int) - n := by rw [IntKind.wrap_i64]; omega
  clear h hm hn hn2
  by_cases h0 : 0 ≤ at_
  · have g0 : decide (0 ≤ at_) = true := decide_eq_true h0
    have hr2 : r = decide (at_ ≤ (m : Int) - n) := by rw [hr]; simp [h0]
    have HR := Lib.hid hr2
    clear hr hr2 hl
    go_enter Tryd.func18, Tryd.ntmps18
    go_wp2_with fail
    go_ret
    exact ⟨by rw [HR.out]; rfl, rfl⟩
  · have g0 : decide (0 ≤ at_) = false := decide_eq_false h0
    have hr2 : r = false := by rw [hr]; simp [h0]
    subst hr2
    clear hr hl
    go_enter Tryd.func18, Tryd.ntmps18
    go_wp2_with fail
    go_ret
    exact ⟨rfl, rfl⟩
theorem spend_to (h : Sto w s B xs dead doomed left) (n k left' : Nat) (hn : n ≤ 140737488355328) (hk : (doomed = false ∧ k = n ∧ left' = left) ∨ (doomed = true ∧ k = min n left ∧ left' = left - k)) :
    Calls Tryd.prog 19 #[.pointer (some ⟨s, 0, none⟩), .int .i64 (n : Int)] w fun e w' => e = .returned (.int .i64 (k : Int)) ∧ Sto w' s B xs dead doomed left' ∧ Keep (fun k => k = s) w w' := by
  have c2 := h.blk.cell 2 (u := .bool doomed) rfl
  have H := Lib.hid h
  rcases hk with ⟨rfl, rfl, rfl⟩ | ⟨rfl, hk, hl⟩
  · clear h
    go_enter Tryd.func19, Tryd.ntmps19
    go_wp2_with fail
    go_ret
    exact ⟨rfl, H.out, Keep.refl _ w⟩
  · have c3 := h.blk.cell 3 (u := .int .i64 (left : Int)) rfl
    have f3 := h.blk.frz 3
    have hm := h.most
    have m1 : ∀ (ts : Array TypeId) (t : TypeId) (w : World), (Builtin.min_ ts t #[.int .i64 (n : Int), .int .i64 (left : Int)]).run Tryd.prog w = .ok (.int .i64 (k : Int)) w := fun ts t w => by
      rw [run_min_int2, show (if (left : Int) < (n : Int) then (left : Int) else (n : Int)) = (k : Int) by split <;> omega]
    have e1 : IntKind.i64.wrap ((left : Int) - (k : Int)) = (left' : Int) := by rw [IntKind.wrap_i64]; omega
    have HL := Lib.hid (show left' ≤ 9223372036854775807 by omega)
    clear h hm hn hk hl
    go_enter Tryd.func19, Tryd.ntmps19
    go_wp2_with fail
    go_ret
    have k2 : Keep (fun k => k = s) w (w.setCell ⟨s, 3, none⟩ (.int .i64 (left' : Int))) := (Keep.refl (fun k => k = s) w).store s 3 _ rfl
    exact ⟨rfl, ⟨H.out.blk.set_ 3 _, H.out.row.keep k2 (fun e => H.out.ne e.symm), H.out.ne, H.out.len, HL.out⟩, k2⟩
end Go.Proofs.YtompoojijeigfaaDoor
