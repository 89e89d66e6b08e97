/-
  crossbuckref01.Same of two rows that are the same: true.
-/
import Derived.Test.YteggehjbkbfdfaaDoorText
import Derived.Deep.QuietTactic
import Derived.BigQuiet
import Derived.WalkSmall
namespace Go.Proofs.YteggehjbkbfdfaaDoor
open Go.RowKit Go.Extern.Stop Go.Stop Go.Extern

/-- The slice v holds the texts xs. -/
def Strs (w : World) (v : Value) (xs : List ByteArray) : Prop :=
  (xs = [] ∧ ∃ a c, v = .slice a 0 c) ∨ ∃ g o cap, v = .slice (some ⟨g, o, none⟩) xs.length cap ∧ xs.length ≤ cap ∧ ∀ (j : Nat) x, xs[j]? = some x → w.cell? ⟨g, o + j, none⟩ = some (.string x)

theorem Strs.below {w w' : World} {v : Value} {xs : List ByteArray} (h : Strs w v xs) (hb : Below w.heap.size w w') : Strs w' v xs := by
  rcases h with h | ⟨g, o, cap, hv, hc, h⟩
  · exact .inl h
  · exact .inr ⟨g, o, cap, hv, hc, fun j x hx => keeps_below hb _ _ (h j x hx)⟩

theorem Strs.of_own {w : World} {B : Nat} {e : TypeId} {v : Value} {xs : List ByteArray} (h : w.ownsRow B e 1 v xs.length (xs.map Value.string)) : Strs w v xs := by
  rcases Nat.eq_zero_or_pos xs.length with h0 | h0
  · have hx : xs = [] := List.length_eq_zero_iff.1 h0
    subst hx
    rcases h.2 with ⟨hv, _⟩ | ⟨g, cap, cur, hv, hB, hg, hcap, _⟩
    · exact .inl ⟨rfl, _, _, hv⟩
    · exact .inl ⟨rfl, _, _, hv⟩
  · obtain ⟨g, cap, hv, hcap, hg, _, hc⟩ := own_some h h0
    exact .inr ⟨g, 0, cap, hv, hcap, str_cells hc⟩

theorem Strs.at {w : World} {v : Value} {xs : List ByteArray} (h : Strs w v xs) (k : Nat) (hk : k < xs.length) :
    ∃ g o cap, v = .slice (some ⟨g, o, none⟩) xs.length cap ∧ xs.length ≤ cap ∧ g < w.heap.size ∧ w.cell? ⟨g, o + k, none⟩ = some (.string xs[k]) := by
  rcases h with ⟨h, _⟩ | ⟨g, o, cap, hv, hc, h⟩
  · subst h; simp at hk
  · have hx := h k _ (List.getElem?_eq_getElem hk)
    exact ⟨g, o, cap, hv, hc, lt_of_cell hx, hx⟩

theorem Strs.len {w : World} {v : Value} {xs : List ByteArray} (h : Strs w v xs) : ∃ a c, v = .slice a xs.length c := by
  rcases h with ⟨h2, a, c, h⟩ | ⟨g, o, cap, hv, _⟩
  · subst h2; exact ⟨a, c, h⟩
  · exact ⟨_, _, hv⟩

set_option maxHeartbeats 2000000 in
theorem same_true (v u : Value) (xs : List ByteArray) (w : World) (hv : Strs w v xs) (hu : Strs w u xs) (hl : xs.length ≤ 1000000) :
    Calls Tryd.prog 13 #[v, u] w fun e w' => e = .returned (.bool true) ∧ Below w.heap.size w w' := by
  obtain ⟨av, cv, ev⟩ := hv.len
  obtain ⟨au, cu, eu⟩ := hu.len
  have HV := Lib.hid hv
  have HU := Lib.hid hu
  clear hv hu
  subst ev eu
  have hne : ((xs.length : Int) != (xs.length : Int)) = false := by simp
  go_enter Tryd.func13, Tryd.ntmps13
  go_wp2
  clear hne
  go_loopw [5] (fun i wr => ∃ k : Nat, k ≤ xs.length ∧ i = .int .i64 k ∧ ∃ m, wr = w.drewN m) (fun i _ => xs.length - (intOf i).toNat)
  case atStart => exact ⟨0, Nat.zero_le _, rfl, 0, rfl⟩
  case round =>
    obtain ⟨k, hk, rfl, m, rfl⟩ := hrel
    by_cases hlt : k < xs.length
    · obtain ⟨g, o, c, e1, hc1, hg1, h1⟩ := HV.out.at k hlt
      obtain ⟨g', o', c', e2, hc2, hg2, h2⟩ := HU.out.at k hlt
      simp only [Value.slice.injEq] at e1 e2
      obtain ⟨rfl, _, rfl⟩ := e1
      obtain ⟨rfl, _, rfl⟩ := e2
      have hltI : (k : Int) < (xs.length : Int) := by omega
      go_wp2
      go_quiet (fail)
      go_wp2
      go_roundw
      case rel => exact ⟨k + 1, by omega, by go_num, _, rfl⟩
      case measure => simp [intOf]; omega
    · go_wp2
      go_ret
      exact ⟨rfl, below_drewN (Below.refl _ _) _⟩
end Go.Proofs.YteggehjbkbfdfaaDoor
