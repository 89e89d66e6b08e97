/-
  Channels as plain data: fresh or stale, a tick older, which number may follow which.
-/
import Derived.Test.YtmfgfjkpijmgoaaDoorCore
namespace Go.Proofs.YtmfgfjkpijmgoaaDoor

/-- What is known of a channel: whether a telegram came, its number, how many ticks ago, what it said. -/
structure Ch where
  had : Bool
  seq : Int
  age : Nat
  xs : List (BitVec 8)
def noCh : Ch := ⟨false, 0, 0, []⟩
/-- Fresh for F ticks: is the channel? -/
def isF (F : Nat) (c : Ch) : Bool := c.had && decide (c.age ≤ F)
structure OkCh (F : Nat) (c : Ch) : Prop where
  seq : 0 ≤ c.seq ∧ c.seq ≤ 255
  age : c.age ≤ F + 1
  stale : isF F c = false → c.xs = []
  none : c.had = false → c.seq = 0 ∧ c.age = 0
  len : c.xs.length ≤ 16
theorem isF_iff {F : Nat} {c : Ch} : isF F c = true ↔ c.had = true ∧ c.age ≤ F := by simp [isF]
theorem isF_no {F : Nat} {c : Ch} : isF F c = false ↔ c.had = false ∨ F < c.age := by
  unfold isF
  cases c.had <;> simp
theorem ok_none (F : Nat) : OkCh F noCh := ⟨by simp [noCh], by simp [noCh], fun _ => rfl, fun _ => ⟨rfl, rfl⟩, by simp [noCh]⟩
/-- A tick later. -/
def older (F : Nat) (c : Ch) : Ch := if isF F c = true then ⟨true, c.seq, c.age + 1, if c.age + 1 ≤ F then c.xs else []⟩ else c
theorem older_stale {F : Nat} {c : Ch} (h : isF F c = false) : older F c = c := by
  unfold older; rw [if_neg (by rw [h]; decide)]
theorem older_stays {F : Nat} {c : Ch} (h : isF F c = true) (h2 : c.age + 1 ≤ F) : older F c = ⟨true, c.seq, c.age + 1, c.xs⟩ := by
  unfold older; rw [if_pos h, if_pos h2]
theorem older_ends {F : Nat} {c : Ch} (h : isF F c = true) (h2 : F < c.age + 1) : older F c = ⟨true, c.seq, c.age + 1, []⟩ := by
  unfold older; rw [if_pos h, if_neg (by omega)]
theorem ok_older {F : Nat} {c : Ch} (h : OkCh F c) : OkCh F (older F c) := by
  cases hf : isF F c with
  | false => rw [older_stale hf]; exact h
  | true =>
    obtain ⟨h1, h2⟩ := isF_iff.1 hf
    by_cases h3 : c.age + 1 ≤ F
    · rw [older_stays hf h3]
      exact ⟨h.seq, by simp; omega, fun hn => by simp [isF] at hn; omega, fun hn => by simp at hn, h.len⟩
    · rw [older_ends hf (by omega)]
      exact ⟨h.seq, by simp; omega, fun _ => rfl, fun hn => by simp at hn, by simp⟩
theorem older_had {F : Nat} {c : Ch} (h : OkCh F c) (hh : c.had = true) : (older F c).had = true ∧ (older F c).seq = c.seq ∧ (older F c).age = min (c.age + 1) (F + 1) ∧ ((older F c).xs = c.xs ∨ isF F (older F c) = false) := by
  cases hf : isF F c with
  | false =>
    rw [older_stale hf]
    have h1 := h.age
    have h2 : F < c.age := by
      rcases isF_no.1 hf with h3 | h3
      · rw [hh] at h3; cases h3
      · exact h3
    exact ⟨hh, rfl, by omega, .inl rfl⟩
  | true =>
    have h2 := (isF_iff.1 hf).2
    by_cases h3 : c.age + 1 ≤ F
    · rw [older_stays hf h3]
      exact ⟨rfl, rfl, by simp only; omega, .inl rfl⟩
    · rw [older_ends hf (by omega)]
      exact ⟨rfl, rfl, by simp only; omega, .inr (isF_no.2 (.inr (by simp only; omega)))⟩
theorem older_not {F : Nat} {c : Ch} (hh : c.had = false) : older F c = c := older_stale (isF_no.2 (.inl hh))
theorem ok_taken {F : Nat} {q : Int} {xs : List (BitVec 8)} (h0 : 0 ≤ q) (h1 : q ≤ 255) (hl : xs.length ≤ 16) : OkCh F ⟨true, q, 0, xs⟩ :=
  ⟨⟨h0, h1⟩, by simp, fun hn => by simp [isF] at hn, fun hn => by simp at hn, hl⟩
/-- May a telegram of the number q come behind one of the number p? -/
def follows (q p : Int) : Bool := decide (1 ≤ (q - p) % 256 ∧ (q - p) % 256 ≤ 16)
/-- What is known of a channel, or of what is none. -/
def peek (f : Nat → Ch) (ch : Int) : Ch := if 0 ≤ ch ∧ ch ≤ 15 then f ch.toNat else noCh
theorem peek_in (f : Nat → Ch) {k : Nat} {ch : Int} (h : ch = (k : Int)) (hk : k < 16) : peek f ch = f k := by
  subst h; unfold peek; rw [if_pos (by omega)]; rfl
theorem peek_out (f : Nat → Ch) {ch : Int} (h : ch < 0 ∨ 15 < ch) : peek f ch = noCh := by
  unfold peek; rw [if_neg (by omega)]
end Go.Proofs.YtmfgfjkpijmgoaaDoor
