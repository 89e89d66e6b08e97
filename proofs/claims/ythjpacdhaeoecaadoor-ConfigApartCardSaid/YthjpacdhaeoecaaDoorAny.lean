/-
  Encode of any crossing, the program's and the document's; crossings of the same bytes.
-/
import Derived.Test.YthjpacdhaeoecaaDoorHead
import Derived.Test.YthjpacdhaeoecaaDoorCfRenc
namespace Go.Proofs.YthjpacdhaeoecaaDoor
open Go.RowKit

def ecode (T : Nat → Int) (ls : List Ln) : Int := if OkC T ls then 0 else 6
def ebytes (T : Nat → Int) (ls : List Ln) : List (BitVec 8) := if OkC T ls then sealed (cbytes T ls) else []
theorem enc_any (v : Value) (T : Nat → Int) (ls : List Ln) (k : Int) (X : List (BitVec 8)) (hk : k = ecode T ls) (hX : X = ebytes T ls) (w : World) (hv : Els RLn 5 w v ls) :
    Calls Tryd.prog 10 #[.agg (cfc v T)] w fun e w' => ∃ a c r, e = .returned (.tuple #[.slice a X.length c, r]) ∧ Byts w' (.slice a X.length c) X ∧ ErrV w' r k ∧ Below w.heap.size w w' := by
  by_cases h : OkC T ls
  · have e1 : X = sealed (cbytes T ls) := by rw [hX]; exact if_pos h
    have e2 : k = 0 := by rw [hk]; exact if_pos h
    rw [e1, e2]
    refine (enc_yes v T ls h w hv).mono fun e w' ⟨r, he, ho, hb⟩ => ?_
    obtain ⟨a, c, e3⟩ := ho.byts.len
    refine ⟨a, c, .nilIface, by rw [he, e3], by rw [← e3]; exact ho.byts, .inl ⟨rfl, rfl⟩, hb⟩
  · have e1 : X = [] := by rw [hX]; exact if_neg h
    have e2 : k = 6 := by rw [hk]; exact if_neg h
    rw [e1, e2]
    exact (enc_no v T ls h w hv).mono fun e w' ⟨r, he, hr, hb⟩ => ⟨none, 0, r, he, byts_nil w', hr, hb⟩
theorem renc_any (v : Value) (T : Nat → Int) (ls : List Ln) (k : Int) (X : List (BitVec 8)) (hk : k = ecode T ls) (hX : X = ebytes T ls) (w : World) (hv : Els RLn 5 w v ls) (hl : ls.length ≤ 1000) :
    Calls Tryd.prog 11 #[.agg (cfc v T)] w fun e w' => ∃ a c, e = .returned (.tuple #[.slice a X.length c, .int .i64 k]) ∧ Byts w' (.slice a X.length c) X ∧ Below w.heap.size w w' := by
  by_cases h : OkC T ls
  · have e1 : X = sealed (cbytes T ls) := by rw [hX]; exact if_pos h
    have e2 : k = 0 := by rw [hk]; exact if_pos h
    rw [e1, e2]
    refine (renc_yes v T ls h w hv).mono fun e w' ⟨r, he, ho, hb⟩ => ?_
    obtain ⟨a, c, e3⟩ := ho.len
    exact ⟨a, c, by rw [he, e3], by rw [← e3]; exact ho, hb⟩
  · have e1 : X = [] := by rw [hX]; exact if_neg h
    have e2 : k = 6 := by rw [hk]; exact if_neg h
    rw [e1, e2]
    exact (renc_no v T ls h w hv hl).mono fun e w' ⟨he, hb⟩ => ⟨none, 0, he, byts_nil w', hb⟩

theorem layT_congr {T T' : Nat → Int} : ∀ n, (∀ i, i < n → T i = T' i) → layT T n = layT T' n
  | 0, _ => rfl
  | n + 1, h => by unfold layT; rw [layT_congr n (fun i hi => h i (by omega)), h n (by omega)]
theorem body_congr {T T' : Nat → Int} (ls : List Ln) (h : ∀ i, i < 10 → T i = T' i) : body T ls = body T' ls := by unfold body; rw [layT_congr 10 h]
theorem sealed_inj {xs ys : List (BitVec 8)} (h : sealed xs = sealed ys) : xs = ys := by rw [← front_sealed xs, h, front_sealed]
theorem cbytes_iff {T T' : Nat → Int} {ls ls' : List Ln} (h : OkC T ls) (h' : OkC T' ls') : sealed (cbytes T ls) = sealed (cbytes T' ls') ↔ (∀ i, i < 10 → T i = T' i) ∧ ls = ls' := by
  constructor
  · intro e
    have e1 : body T ls = body T' ls' := List.append_cancel_left (sealed_inj e)
    refine ⟨fun i hi => ?_, ?_⟩
    · rw [← rdT_body T ls h.2.1 i hi, e1, rdT_body T' ls' h'.2.1 i hi]
    · have n1 := rdN_body T ls h.1.2
      have n2 := rdN_body T' ls' h'.1.2
      rw [e1, n2] at n1
      rw [← rdLs_body T ls h.2.2, e1, ← n1, rdLs_body T' ls' h'.2.2]
  · rintro ⟨h1, rfl⟩
    unfold cbytes
    rw [body_congr ls h1]
/-- Crossings that are no crossings may be, or have them. -/
theorem two_cx (w : World) (v v' : Value) (T T' : Nat → Int) (ls ls' : List Ln) (h : Els RLn 5 w v ls) (h' : Els RLn 5 w v' ls') : Cx ((w.alloc (.cells (cfc v T) 26)).alloc (.cells (cfc v' T') 26)) w.heap.size v T ls ∧ Cx ((w.alloc (.cells (cfc v T) 26)).alloc (.cells (cfc v' T') 26)) (w.heap.size + 1) v' T' ls' := by
  have hB : Below w.heap.size w ((w.alloc (.cells (cfc v T) 26)).alloc (.cells (cfc v' T') 26)) := below_alloc (below_alloc (Below.refl _ w) _) _
  refine ⟨⟨(blk_new w _ _).below (below_alloc (Below.refl _ _) _), h.below (fun _ _ _ h => h.below hB)⟩, ⟨?_, h'.below (fun _ _ _ h => h.below hB)⟩⟩
  have := blk_new (w.alloc (.cells (cfc v T) 26)) (cfc v' T') 26
  rw [show (w.alloc (.cells (cfc v T) 26)).heap.size = w.heap.size + 1 by simp] at this
  exact this
end Go.Proofs.YthjpacdhaeoecaaDoor
