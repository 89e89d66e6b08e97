/-
  What crc.Open and the document's own answer of any bytes.
-/
import Derived.Test.YtecfobmmbdmdgaaCrcOpen
namespace Go.Proofs.Ytecfobmmbdmdgaa
open Go.RowKit

/-- Are the bytes a Seal? -/
def opens (xs : List (BitVec 8)) : Bool := decide (2 ≤ xs.length) && decide (crcSum xs = 0#16)
def front (xs : List (BitVec 8)) : List (BitVec 8) := xs.take (xs.length - 2)

theorem split_two {xs : List (BitVec 8)} (h : 2 ≤ xs.length) : ∃ f a b, xs = f ++ [a, b] := by
  have hl : (xs.drop (xs.length - 2)).length = 2 := by simp; omega
  rcases ht : xs.drop (xs.length - 2) with _ | ⟨a, _ | ⟨b, _ | ⟨c, t⟩⟩⟩
  · rw [ht] at hl; simp at hl
  · rw [ht] at hl; simp at hl
  · refine ⟨xs.take (xs.length - 2), a, b, ?_⟩
    rw [← ht]
    exact (List.take_append_drop _ _).symm
  · rw [ht] at hl; simp at hl
theorem front_two (f : List (BitVec 8)) (a b : BitVec 8) : front (f ++ [a, b]) = f := by simp [front]
theorem cat_inj {h l : BitVec 8} {s : BitVec 16} (e : cat h l = s) : h = hi s ∧ l = lo s := by
  have h1 := cat_toNat h l
  have h2 := l.isLt
  have h3 := h.isLt
  rw [e] at h1
  constructor
  · apply BitVec.eq_of_toNat_eq
    simp [hi, h1]
    omega
  · apply BitVec.eq_of_toNat_eq
    simp [lo, h1]
    omega
theorem opens_two (f : List (BitVec 8)) (a b : BitVec 8) : opens (f ++ [a, b]) = decide (cat a b = crcSum f) := by
  have := sum_zero_iff f a b
  simp [opens, this]
theorem opens_sealed (xs : List (BitVec 8)) : opens (sealed xs) = true := by
  unfold sealed
  rw [opens_two]
  simp [cat_hilo]
theorem front_sealed (xs : List (BitVec 8)) : front (sealed xs) = xs := by
  unfold sealed
  exact front_two _ _ _
theorem sealed_front {xs : List (BitVec 8)} (h : opens xs = true) : sealed (front xs) = xs := by
  have h2 : 2 ≤ xs.length := by simp [opens] at h; exact h.1
  obtain ⟨f, a, b, rfl⟩ := split_two h2
  rw [opens_two] at h
  have h := of_decide_eq_true h
  rw [front_two]
  unfold sealed
  obtain ⟨e1, e2⟩ := cat_inj h
  rw [← e1, ← e2]
theorem length_front {xs : List (BitVec 8)} : (front xs).length ≤ xs.length := by simp [front]

/-- A slice that holds f and two bytes more. -/
theorem Byts.two {w : World} {v : Value} {f : List (BitVec 8)} {a b : BitVec 8} (h : Byts w v (f ++ [a, b])) :
    ∃ g o cap, v = .slice (some ⟨g, o, none⟩) (f.length + 2) cap ∧ f.length + 2 ≤ cap ∧ Byts w (.slice (some ⟨g, o, none⟩) f.length cap) f ∧ (∀ (j : Nat) x, f[j]? = some x → w.cell? ⟨g, o + j, none⟩ = some (cel x)) ∧
      w.cell? ⟨g, o + f.length, none⟩ = some (.int .u8 (a.toNat : Int)) ∧ w.cell? ⟨g, o + (f.length + 1), none⟩ = some (.int .u8 (b.toNat : Int)) := by
  rcases h with ⟨h, _⟩ | ⟨g, o, cap, hv, hc, h⟩
  · simp at h
  · have hc' : f.length + 2 ≤ cap := by simpa using hc
    have hf : ∀ (j : Nat) x, f[j]? = some x → w.cell? ⟨g, o + j, none⟩ = some (cel x) := fun j x hx => by
      have hj : j < f.length := by
        rcases Nat.lt_or_ge j f.length with h1 | h1
        · exact h1
        · rw [List.getElem?_eq_none h1] at hx; cases hx
      exact h j x (by rw [List.getElem?_append_left hj]; exact hx)
    refine ⟨g, o, cap, by simpa using hv, hc', .inr ⟨g, o, cap, rfl, by omega, hf⟩, hf, h _ a ?_, h _ b ?_⟩
    · rw [List.getElem?_append_right (by omega)]; simp
    · rw [List.getElem?_append_right (by omega)]; simp

theorem open_t (v : Value) (xs : List (BitVec 8)) (w : World) (hv : Byts w v xs) (hl : xs.length ≤ 140737488351232) (ho : opens xs = true) :
    Calls Try.prog 38 #[v] w fun e w' => ∃ r, e = .returned (.tuple #[r, .bool true]) ∧ Own w' w.heap.size r (front xs) ∧ Below w.heap.size w w' := by
  have h2 : 2 ≤ xs.length := by simp [opens] at ho; exact ho.1
  obtain ⟨f, a, b, rfl⟩ := split_two h2
  rw [opens_two] at ho
  have ho := of_decide_eq_true ho
  obtain ⟨g, o, cap, rfl, hc, hf, hcs, hh, hb⟩ := hv.two
  rw [front_two]
  exact open_yes g o f.length (f.length + 2) cap f a b w rfl hf hcs hh hb rfl (by simp at hl; omega) hc ho
theorem open_f (v : Value) (xs : List (BitVec 8)) (w : World) (hv : Byts w v xs) (hl : xs.length ≤ 140737488351232) (ho : opens xs = false) :
    Calls Try.prog 38 #[v] w fun e w' => e = .returned (.tuple #[.slice none 0 0, .bool false]) ∧ Below w.heap.size w w' := by
  rcases Nat.lt_or_ge xs.length 2 with h2 | h2
  · exact short_no v xs w hv h2
  · obtain ⟨f, a, b, rfl⟩ := split_two h2
    rw [opens_two] at ho
    have ho := of_decide_eq_false ho
    obtain ⟨g, o, cap, rfl, hc, hf, hcs, hh, hb⟩ := hv.two
    simp at hl
    exact other_no g o f.length (f.length + 2) cap f a b w hf hh hb (by omega) rfl (by omega) hc ho
end Go.Proofs.Ytecfobmmbdmdgaa
