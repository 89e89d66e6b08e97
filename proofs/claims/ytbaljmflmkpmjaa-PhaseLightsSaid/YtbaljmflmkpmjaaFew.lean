/-
  Whether times are few, by a contract.
-/
import Derived.Test.YtbaljmflmkpmjaaPhCalls
namespace Go.Proofs.Ytbaljmflmkpmjaa
open Go.RowKit

/-- The times, one behind the other. -/
def phls (T : PhT) : List Int := [T.am, T.re, T.en, T.tr, T.pr, T.op, T.ov, T.fr, T.ap, T.wa]
def phok (x : Int) : Bool := decide (1 ≤ x ∧ x ≤ 6000)
/-- The first k of them are from 1 to 6000. -/
def phall (T : PhT) : Nat → Bool
  | 0 => true
  | k + 1 => phall T k && (match (phls T)[k]? with | some x => phok x | none => true)
def phfew (T : PhT) : Bool := phall T 10
theorem phall_on {T : PhT} {k : Nat} {x : Int} (h : (phls T)[k]? = some x) : phall T (k + 1) = (phall T k && phok x) := by
  show (phall T k && _) = _
  rw [h]
theorem phall_off {T : PhT} {k : Nat} (h : phall T k = false) : ∀ n, phall T (k + n) = false
  | 0 => h
  | n + 1 => by
    show (phall T (k + n) && _) = false
    rw [phall_off h n]; rfl
/-- What few times are. -/
structure PhFew (T : PhT) : Prop where
  am : 1 ≤ T.am ∧ T.am ≤ 6000
  re : 1 ≤ T.re ∧ T.re ≤ 6000
  en : 1 ≤ T.en ∧ T.en ≤ 6000
  op : 1 ≤ T.op ∧ T.op ≤ 6000
  ov : 1 ≤ T.ov ∧ T.ov ≤ 6000
theorem phfew_some {T : PhT} (h : phfew T = true) : PhFew T := by
  have h1 : ∀ (k : Nat) (x : Int), (phls T)[k]? = some x → k < 10 → 1 ≤ x ∧ x ≤ 6000 := by
    intro k x hx hk
    have ht : phall T (k + 1) = true := by
      cases hh : phall T (k + 1)
      · have := phall_off hh (10 - (k + 1))
        rw [show k + 1 + (10 - (k + 1)) = 10 by omega] at this
        unfold phfew at h
        rw [h] at this
        cases this
      · rfl
    rw [phall_on hx, Bool.and_eq_true] at ht
    exact of_decide_eq_true ht.2
  exact ⟨h1 0 _ rfl (by decide), h1 1 _ rfl (by decide), h1 2 _ rfl (by decide), h1 5 _ rfl (by decide), h1 6 _ rfl (by decide)⟩
theorem PhFew.ok {T : PhT} (h : PhFew T) : PhOk T := by
  have h1 := h.en
  have h2 := h.ov
  exact ⟨by omega, by omega, by omega, by omega⟩
set_option maxHeartbeats 4000000 in
set_option maxRecDepth 10000 in
theorem few_to (T : PhT) (r : Bool) (hr : phfew T = r) (w : World) : Calls Try.prog 10 #[.agg #[.int .i64 T.am, .int .i64 T.re, .int .i64 T.en, .int .i64 T.tr, .int .i64 T.pr, .int .i64 T.op, .int .i64 T.ov, .int .i64 T.fr, .int .i64 T.ap, .int .i64 T.wa]] w fun e w' => e = .returned (.bool r) ∧ Below w.heap.size w w' := by
  obtain ⟨t0, t1, t2, t3, t4, t5, t6, t7, t8, t9⟩ := box10 (blk_new w #[.int .i64 T.am, .int .i64 T.re, .int .i64 T.en, .int .i64 T.tr, .int .i64 T.pr, .int .i64 T.op, .int .i64 T.ov, .int .i64 T.fr, .int .i64 T.ap, .int .i64 T.wa] 23)
  have hN := blk_new (w.alloc (.cells #[.int .i64 T.am, .int .i64 T.re, .int .i64 T.en, .int .i64 T.tr, .int .i64 T.pr, .int .i64 T.op, .int .i64 T.ov, .int .i64 T.fr, .int .i64 T.ap, .int .i64 T.wa] 23)) #[.int .i64 T.am, .int .i64 T.re, .int .i64 T.en, .int .i64 T.tr, .int .i64 T.pr, .int .i64 T.op, .int .i64 T.ov, .int .i64 T.fr, .int .i64 T.ap, .int .i64 T.wa] 3
  have HB := Lib.hid (below_alloc (below_alloc (Below.refl _ w) (.cells #[.int .i64 T.am, .int .i64 T.re, .int .i64 T.en, .int .i64 T.tr, .int .i64 T.pr, .int .i64 T.op, .int .i64 T.ov, .int .i64 T.fr, .int .i64 T.ap, .int .i64 T.wa] 23)) (.cells #[.int .i64 T.am, .int .i64 T.re, .int .i64 T.en, .int .i64 T.tr, .int .i64 T.pr, .int .i64 T.op, .int .i64 T.ov, .int .i64 T.fr, .int .i64 T.ap, .int .i64 T.wa] 3))
  simp only [World.size_alloc] at hN
  have HC := Lib.hid (fun (k : Nat) (x : Int) (h : (phls T)[k]? = some x) => hN.cell k (u := .int .i64 x) (by
    match k, h with
    | 0, h => injection h with h; rw [← h]; rfl
    | 1, h => injection h with h; rw [← h]; rfl
    | 2, h => injection h with h; rw [← h]; rfl
    | 3, h => injection h with h; rw [← h]; rfl
    | 4, h => injection h with h; rw [← h]; rfl
    | 5, h => injection h with h; rw [← h]; rfl
    | 6, h => injection h with h; rw [← h]; rfl
    | 7, h => injection h with h; rw [← h]; rfl
    | 8, h => injection h with h; rw [← h]; rfl
    | 9, h => injection h with h; rw [← h]; rfl
    | k + 10, h => cases h))
  have HR := Lib.hid hr
  clear hr hN
  go_enter Try.func10, Try.ntmps10
  go_wp2_with fail
  generalize (w.alloc (.cells #[.int .i64 T.am, .int .i64 T.re, .int .i64 T.en, .int .i64 T.tr, .int .i64 T.pr, .int .i64 T.op, .int .i64 T.ov, .int .i64 T.fr, .int .i64 T.ap, .int .i64 T.wa] 23)).alloc (.cells #[.int .i64 T.am, .int .i64 T.re, .int .i64 T.en, .int .i64 T.tr, .int .i64 T.pr, .int .i64 T.op, .int .i64 T.ov, .int .i64 T.fr, .int .i64 T.ap, .int .i64 T.wa] 3) = W2 at *
  clear t0 t1 t2 t3 t4 t5 t6 t7 t8 t9
  go_loopw [4] (fun z wr => ∃ k : Nat, k ≤ 10 ∧ z = .int .i64 (k : Int) ∧ Hid (phall T k = true) ∧ wr = W2) (fun z _ => 10 - (intOf z).toNat)
  case atStart => exact ⟨0, by omega, rfl, Lib.hid rfl, rfl⟩
  case round =>
    obtain ⟨k, hk, rfl, HA, rfl⟩ := hrel
    by_cases hlt : k < 10
    · have hltI : (k : Int) < 10 := by omega
      obtain ⟨x, hx⟩ : ∃ x, (phls T)[k]? = some x := ⟨_, List.getElem?_eq_getElem (show k < (phls T).length from hlt)⟩
      have hc := HC.out k x hx
      have HX := Lib.hid hx
      clear hx
      by_cases h1 : x < 1
      · go_wp2_with fail
        go_ret
        refine ⟨?_, HB.out⟩
        have h2 : phall T (k + 1) = false := by rw [phall_on HX.out, show phok x = false by unfold phok; rw [decide_eq_false (by omega)], Bool.and_false]
        have := phall_off h2 (10 - (k + 1))
        rw [show k + 1 + (10 - (k + 1)) = 10 by omega] at this
        rw [← HR.out, show phfew T = false from this]
        rfl
      · by_cases h3 : 6000 < x
        · go_wp2_with fail
          go_ret
          refine ⟨?_, HB.out⟩
          have h2 : phall T (k + 1) = false := by rw [phall_on HX.out, show phok x = false by unfold phok; rw [decide_eq_false (by omega)], Bool.and_false]
          have := phall_off h2 (10 - (k + 1))
          rw [show k + 1 + (10 - (k + 1)) = 10 by omega] at this
          rw [← HR.out, show phfew T = false from this]
          rfl
        · go_wp2_with fail
          go_roundw
          case rel => exact ⟨k + 1, by omega, by go_num, Lib.hid (by rw [phall_on HX.out, HA.out, show phok x = true by unfold phok; rw [decide_eq_true (by omega)]]; rfl), trivial⟩
          case measure => simp [intOf]; omega
    · have hltI : ¬ (k : Int) < 10 := by omega
      have HKK := Lib.hid (show k = 10 by omega)
      go_wp2_with fail
      go_ret
      exact ⟨by rw [← HR.out]; unfold phfew; rw [← HKK.out, HA.out]; rfl, HB.out⟩
theorem box5 {w : World} {g : Nat} {Y : TypeId} {c0 c1 c2 c3 c4 : Value} (h : Blk w g #[c0, c1, c2, c3, c4] Y) : w.cell? ⟨g, 0, none⟩ = some c0 ∧ w.cell? ⟨g, 1, none⟩ = some c1 ∧ w.cell? ⟨g, 2, none⟩ = some c2 ∧ w.cell? ⟨g, 3, none⟩ = some c3 ∧ w.cell? ⟨g, 4, none⟩ = some c4 := ⟨h.cell 0 rfl, h.cell 1 rfl, h.cell 2 rfl, h.cell 3 rfl, h.cell 4 rfl⟩
end Go.Proofs.Ytbaljmflmkpmjaa
