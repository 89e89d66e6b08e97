/-
  Encode and Decode of anything, beside the document's.
-/
import Derived.Test.YtdgehinmkbhjlaaDoorMay
namespace Go.Proofs.YtdgehinmkbhjlaaDoor
open Go.RowKit

/-- The error v is of the code k (0: none). -/
def ErrV (w : World) (v : Value) (k : Int) : Prop := (v = .nilIface ∧ k = 0) ∨ ∃ g, v = .iface 50 (.pointer (some ⟨g, 0, none⟩)) ∧ w.cell? ⟨g, 1, none⟩ = some (.int .i64 k)
theorem ErrV.below {w w' : World} {v : Value} {k : Int} (h : ErrV w v k) (hb : Below w.heap.size w w') : ErrV w' v k := by
  rcases h with h | ⟨g, h1, h2⟩
  · exact .inl h
  · exact .inr ⟨g, h1, below_cell hb h2⟩
theorem code_err {w : World} {v : Value} {k : Int} (h : ErrV w v k) : Calls Tryd.prog 14 #[v] w fun e w' => e = .returned (.int .i64 k) ∧ w = w' := by
  rcases h with ⟨rfl, rfl⟩ | ⟨g, rfl, h⟩
  · exact code_nil w
  · exact code_place g k w h

theorem enc_pair (c q : Int) (xs : List (BitVec 8)) : ∃ (X : List (BitVec 8)) (k : Int),
    (∀ u w, Byts w u xs → Calls Tryd.prog 10 #[.agg #[.int .i64 c, .int .i64 q, u]] w fun e w' => ∃ r e2, e = .returned (.tuple #[r, e2]) ∧ Byts w' r X ∧ ErrV w' e2 k ∧ Below w.heap.size w w') ∧
    (∀ u w, Byts w u xs → Calls Tryd.prog 11 #[.agg #[.int .i64 c, .int .i64 q, u]] w fun e w' => ∃ r, e = .returned (.tuple #[r, .int .i64 k]) ∧ Byts w' r X ∧ Below w.heap.size w w') := by
  by_cases h : Fit c q xs.length
  · obtain ⟨x, y, rfl, rfl, hx⟩ := fit_bytes h
    exact ⟨sealed (frm x y xs), 0, fun u w hu => (enc_yes x y u xs w hu hx h.2.2.2.2).mono fun e w' ⟨r, h1, h2, h3⟩ => ⟨r, _, h1, h2.byts, .inl ⟨rfl, rfl⟩, h3⟩,
      fun u w hu => (renc_yes x y u xs w hu hx h.2.2.2.2).mono fun e w' ⟨r, h1, h2, h3⟩ => ⟨r, h1, h2.byts, h3⟩⟩
  · exact ⟨[], 1, fun u w hu => (enc_no c q u xs w hu h).mono fun e w' ⟨g, _, h1, h2, h3⟩ => ⟨_, _, h1, byts_nil _, .inr ⟨g, rfl, h2⟩, h3⟩,
      fun u w hu => (renc_no c q u xs w hu h).mono fun e w' ⟨h1, h3⟩ => ⟨_, h1, byts_nil _, h3⟩⟩

theorem dec_pair (b : List (BitVec 8)) (hl : b.length ≤ 1000000) : ∃ (c q : Int) (ys : List (BitVec 8)) (k : Int),
    (∀ u w, Byts w u b → Calls Tryd.prog 12 #[u] w fun e w' => ∃ v e2, e = .returned (.tuple #[.agg #[.int .i64 c, .int .i64 q, v], e2]) ∧ Byts w' v ys ∧ ErrV w' e2 k ∧ Below w.heap.size w w') ∧
    (∀ u w, Byts w u b → Calls Tryd.prog 13 #[u] w fun e w' => ∃ v, e = .returned (.tuple #[.agg #[.int .i64 c, .int .i64 q, v], .int .i64 k]) ∧ Byts w' v ys ∧ Below w.heap.size w w') := by
  cases ho : opens b with
  | false =>
    exact ⟨0, 0, [], 3, fun u w hu => (dec_sum u b w hu hl ho).mono fun e w' ⟨g, _, h1, h2, h3⟩ => ⟨_, _, h1, byts_nil _, .inr ⟨g, rfl, h2⟩, h3⟩,
      fun u w hu => (rdec_sum u b w hu hl ho).mono fun e w' ⟨h1, h3⟩ => ⟨_, h1, byts_nil _, h3⟩⟩
  | true =>
    by_cases hf : Form (front b)
    · obtain ⟨x, y, xs, he, hx, hxl⟩ := form_frm hf
      exact ⟨x.toNat, y.toNat, xs, 0, fun u w hu => (dec_yes u b x y xs w hu hl ho he hx hxl).mono fun e w' ⟨v, h1, h2, h3⟩ => ⟨v, _, h1, h2, .inl ⟨rfl, rfl⟩, h3⟩,
        fun u w hu => (rdec_yes u b x y xs w hu hl ho he hx hxl).mono fun e w' ⟨v, h1, h2, h3⟩ => ⟨v, h1, h2, h3⟩⟩
    · exact ⟨0, 0, [], 2, fun u w hu => (dec_form u b w hu hl ho hf).mono fun e w' ⟨g, _, h1, h2, h3⟩ => ⟨_, _, h1, byts_nil _, .inr ⟨g, rfl, h2⟩, h3⟩,
        fun u w hu => (rdec_form u b w hu hl ho hf).mono fun e w' ⟨h1, h3⟩ => ⟨_, h1, byts_nil _, h3⟩⟩
/-- Bytes are refused, or are the telegram x, y, xs, whose bytes they are. -/
theorem dec_cases (b : List (BitVec 8)) (hl : b.length ≤ 1000000) :
    (∀ u w, Byts w u b → Calls Tryd.prog 12 #[u] w fun e w' => ∃ g, e = .returned (.tuple #[.agg #[.int .i64 0, .int .i64 0, .slice none 0 0], .iface 50 (.pointer (some ⟨g, 0, none⟩))]) ∧ Below w.heap.size w w') ∨
    ∃ (x y : BitVec 8) (ys : List (BitVec 8)), b = sealed (frm x y ys) ∧ x.toNat ≤ 15 ∧ ys.length ≤ 16 ∧
      (∀ u w, Byts w u b → Calls Tryd.prog 12 #[u] w fun e w' => ∃ v, e = .returned (.tuple #[.agg #[.int .i64 (x.toNat : Int), .int .i64 (y.toNat : Int), v], .nilIface]) ∧ Byts w' v ys ∧ Below w.heap.size w w') := by
  cases ho : opens b with
  | false => exact .inl fun u w hu => (dec_sum u b w hu hl ho).mono fun e w' ⟨g, _, h1, _, h3⟩ => ⟨g, h1, h3⟩
  | true =>
    by_cases hf : Form (front b)
    · obtain ⟨x, y, xs, he, hx, hxl⟩ := form_frm hf
      exact .inr ⟨x, y, xs, by rw [← he]; exact (sealed_front ho).symm, hx, hxl, fun u w hu => dec_yes u b x y xs w hu hl ho he hx hxl⟩
    · exact .inl fun u w hu => (dec_form u b w hu hl ho hf).mono fun e w' ⟨g, _, h1, _, h3⟩ => ⟨g, h1, h3⟩
end Go.Proofs.YtdgehinmkbhjlaaDoor
