/-
  The timer of the least number that is not armed.
-/
import Derived.Test.YtaonnkocopngaaaDoorArm
namespace Go.Proofs.YtaonnkocopngaaaDoor
open Go.RowKit

variable {b tb n now : Nat} {A : List Tm} {fp : Nat → Prop} {w w' : World} {vs : Nat → Value} {en : Nat → Ent} {S : Nat → List Nat}
theorem idle_any (ar : Bool) (tg du : Int) (w : World) :
    Calls Tryd.prog 26 #[.agg #[.bool ar, .int .i64 tg, .int .u64 du]] w fun e w' => e = .returned (.bool !ar) ∧ Below w.heap.size w w' := by
  go_enter Tryd.func26, Tryd.ntmps26
  go_wp2_with fail
  go_ret
  exact ⟨rfl, (Below.refl _ w).alloc (Nat.le_refl _) _⟩
/-- The place of the first timer that is not armed, or -1. -/
def Idle (n : Nat) (en : Nat → Ent) (r : Int) : Prop := (r = -1 ∧ ∀ i, i < n → (en i).armed = true) ∨ ∃ m : Nat, r = (m : Int) ∧ m < n ∧ (en m).armed = false ∧ ∀ i, i < m → (en i).armed = true
theorem pick_any (h : Wh w b tb n now vs en S) (hn : n ≤ 64) :
    Calls Tryd.prog 25 #[.slice (some ⟨tb, 0, none⟩) n n, .func (.func 26) #[] #[]] w fun e w' => ∃ r, e = .returned (.int .i64 r) ∧ Idle n en r ∧ Below w.heap.size w w' := by
  have HE := Lib.hid (fun i (hi : i < n) => h.ent i hi)
  clear h
  go_enter Tryd.func25, Tryd.ntmps25
  go_wp2_with fail
  go_loopw [8] (fun s8 wr => ∃ j : Nat, j ≤ n ∧ s8 = .int .i64 (j : Int) ∧ Hid (∀ i, i < j → (en i).armed = true) ∧ Hid (Below w.heap.size w wr)) (fun s8 _ => n - (intOf s8).toNat)
  case atStart => exact ⟨0, by omega, rfl, Lib.hid (fun i hi => by omega), Lib.hid (Below.refl _ w)⟩
  case round =>
    obtain ⟨j, hj, rfl, HA, HB⟩ := hrel
    by_cases hlt : j < n
    · obtain ⟨e0, e1, e2⟩ := HE.out j hlt
      have f0 := below_cell HB.out e0
      have f1 := below_cell HB.out e1
      have f2 := below_cell HB.out e2
      obtain ⟨tg, htg⟩ : ∃ tg, (en j).tag = tg := ⟨_, rfl⟩
      obtain ⟨du, hdu⟩ : ∃ du, (en j).due = du := ⟨_, rfl⟩
      obtain ⟨ar, har⟩ : ∃ ar, (en j).armed = ar := ⟨_, rfl⟩
      rw [har] at f0
      rw [htg] at f1
      rw [hdu] at f2
      have HAR := Lib.hid har
      clear e0 e1 e2 htg hdu har
      cases ar
      · go_wp2_with (go_at_call 26; refine (idle_any _ _ _ _).mono ?_; rintro e w1 ⟨rfl, hb⟩; have HB1 := Lib.hid (below_call HB.out hb); clear hb)
        go_ret
        exact ⟨_, rfl, .inr ⟨j, rfl, hlt, HAR.out, HA.out⟩, HB1.out⟩
      · go_wp2_with (go_at_call 26; refine (idle_any _ _ _ _).mono ?_; rintro e w1 ⟨rfl, hb⟩; have HB1 := Lib.hid (below_call HB.out hb); clear hb)
        go_roundw
        case rel => exact ⟨j + 1, by omega, by go_num, Lib.hid (fun i hi => by
          by_cases c : i = j
          · rw [c]; exact HAR.out
          · exact HA.out i (by omega)), HB1⟩
        case measure => simp [intOf]; omega
    · obtain rfl : j = n := by omega
      go_wp2_with fail
      go_ret
      exact ⟨_, rfl, .inl ⟨rfl, HA.out⟩, HB.out⟩
end Go.Proofs.YtaonnkocopngaaaDoor
