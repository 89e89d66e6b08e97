/-
  What a step does, phase by phase; what is kept in mind of amber and red, of the entry barriers, and of how long the road is open: plain mathematics.
-/
import Derived.Test.YtbaljmflmkpmjaaPhMath
namespace Go.Proofs.Ytbaljmflmkpmjaa

theorem phl_near {s : Int} (h0 : 1 ≤ s) (h1 : s ≤ 1000) : phl s = s + 1 := by
  unfold phl
  rw [if_neg (by omega), if_pos (by omega)]
theorem phs_cases {T : PhT} {p s : Int} {cl ur a b c d ob : Bool} {p' s' : Int} (ht : PhOk T) (h0 : 0 ≤ p) (h1 : p ≤ 6) (h2 : 1 ≤ s) (h3 : s ≤ 1000) (h : phs T p s ⟨cl, ur, a, b, c, d, ob⟩ = (p', s')) :
    (p' = p ∧ s' = s + 1) ∨ (1 ≤ p ∧ p ≤ 5 ∧ p' = 6 ∧ s' = 1) ∨ (p = 0 ∧ p' = 1 ∧ s' = 1 ∧ (ur = true ∨ (ur = false ∧ cl = true ∧ T.op ≤ s))) ∨ (p = 1 ∧ p' = 2 ∧ s' = 1 ∧ T.am ≤ s) ∨ (p = 2 ∧ p' = 3 ∧ s' = 1 ∧ T.re ≤ s) ∨
    (p = 3 ∧ p' = 4 ∧ s' = 1 ∧ T.en ≤ s ∧ (ob = false ∨ (ob = true ∧ T.en + T.ov ≤ s))) ∨ (p = 4 ∧ p' = 5 ∧ s' = 1) ∨ (p = 6 ∧ p' = 1 ∧ s' = 1) ∨ (p = 6 ∧ p' = 0 ∧ s' = 1) := by
  unfold phs at h
  rcases ho : phn T p s ⟨cl, ur, a, b, c, d, ob⟩ with _ | q
  · rw [ho, phgo_none] at h
    injection h with e1 e2
    rw [phl_near h2 h3] at e2
    exact Or.inl ⟨e1.symm, e2.symm⟩
  · rw [ho, phgo_some] at h
    injection h with e1 e2
    subst e1 e2
    rcases phn_some ht ho with ⟨a0, a1, _, a2⟩ | ⟨a0, a1, a2⟩ | ⟨a0, a1, a2, a3, a4⟩ | ⟨a0, a1, a2, a3⟩ | ⟨a0, a1, a2, a3⟩ | ⟨a0, a1, a2, a3, a4⟩ | ⟨a0, a1, a2, a3, a4, a5⟩ | ⟨a0, a1, a2, a3, a4⟩ | ⟨a0, a1, a2⟩ | ⟨a0, a1, a2, a3, a4⟩ | ⟨a0, a1⟩ | ⟨a0, a1, a2⟩
    · exact Or.inr (Or.inl ⟨a0, a1, a2, rfl⟩)
    · exact Or.inr (Or.inr (Or.inl ⟨a0, a2, rfl, Or.inl a1⟩))
    · exact Or.inr (Or.inr (Or.inl ⟨a0, a4, rfl, Or.inr ⟨a1, a2, a3⟩⟩))
    · exact Or.inr (Or.inr (Or.inr (Or.inl ⟨a0, a3, rfl, a2⟩)))
    · exact Or.inr (Or.inr (Or.inr (Or.inr (Or.inl ⟨a0, a3, rfl, a2⟩))))
    · exact Or.inr (Or.inr (Or.inr (Or.inr (Or.inr (Or.inl ⟨a0, a4, rfl, a2, Or.inl a3⟩)))))
    · exact Or.inr (Or.inr (Or.inr (Or.inr (Or.inr (Or.inl ⟨a0, a5, rfl, a2, Or.inr ⟨a3, a4⟩⟩)))))
    · exact Or.inr (Or.inr (Or.inr (Or.inr (Or.inr (Or.inr (Or.inl ⟨a0, a4, rfl⟩))))))
    · exact Or.inr (Or.inr (Or.inr (Or.inr (Or.inr (Or.inr (Or.inr (Or.inl ⟨a0, a2, rfl⟩)))))))
    · exact Or.inr (Or.inr (Or.inr (Or.inr (Or.inr (Or.inr (Or.inr (Or.inr ⟨a0, a4, rfl⟩)))))))
    · omega
    · omega
/-- What is kept in mind of amber (a ticks), red (r ticks), and whether entry barriers are down, behind k ticks. -/
def WInv (T : PhT) (p s a r : Int) (dn : Bool) (k : Nat) : Prop := 0 ≤ a ∧ a ≤ k ∧ 0 ≤ r ∧ r ≤ k ∧ 1 ≤ s ∧ s ≤ k + 1 ∧
  ((p = 0 ∧ a = 0 ∧ r = 0 ∧ dn = false) ∨ (p = 1 ∧ a = s ∧ r = 0 ∧ dn = false) ∨ (p = 2 ∧ T.am ≤ a ∧ r = s ∧ dn = false) ∨ (3 ≤ p ∧ p ≤ 5 ∧ dn = true) ∨ (p = 6 ∧ a = 0 ∧ r = 0 ∧ dn = false))
theorem winv_up {T : PhT} {s : Int} {k : Nat} (h0 : 1 ≤ s) (h1 : s ≤ k + 1) : WInv T 0 s 0 0 false k := ⟨by omega, by omega, by omega, by omega, h0, h1, Or.inl ⟨rfl, rfl, rfl, rfl⟩⟩
theorem winv_raise {T : PhT} {s : Int} {k : Nat} (h0 : 1 ≤ s) (h1 : s ≤ k + 1) : WInv T 6 s 0 0 false k := ⟨by omega, by omega, by omega, by omega, h0, h1, Or.inr (Or.inr (Or.inr (Or.inr ⟨rfl, rfl, rfl, rfl⟩)))⟩
theorem winv_amber {T : PhT} {s m : Int} {k : Nat} (h0 : 1 ≤ s) (h1 : m = s) (h2 : m ≤ k) : WInv T 1 s m 0 false k := ⟨by omega, by omega, by omega, by omega, h0, by omega, Or.inr (Or.inl ⟨rfl, h1, rfl, rfl⟩)⟩
theorem winv_red {T : PhT} {s m r : Int} {k : Nat} (h0 : 1 ≤ s) (h1 : 0 ≤ m) (h2 : m ≤ k) (h3 : T.am ≤ m) (h4 : r = s) (h5 : r ≤ k) : WInv T 2 s m r false k := ⟨by omega, by omega, by omega, by omega, h0, by omega, Or.inr (Or.inr (Or.inl ⟨rfl, h3, h4, rfl⟩))⟩
theorem winv_down {T : PhT} {p s m r : Int} {k : Nat} (h0 : 1 ≤ s) (h1 : s ≤ k + 1) (h2 : 0 ≤ m) (h3 : m ≤ k) (h4 : 0 ≤ r) (h5 : r ≤ k) (h6 : 3 ≤ p) (h7 : p ≤ 5) : WInv T p s m r true k := ⟨h2, h3, h4, h5, h0, h1, Or.inr (Or.inr (Or.inr (Or.inl ⟨h6, h7, rfl⟩)))⟩
theorem winv_zero (T : PhT) : WInv T 0 1 0 0 false 0 := winv_up (by omega) (by omega)
theorem winv_range {T : PhT} {p s m r : Int} {dn : Bool} {k : Nat} (h : WInv T p s m r dn k) : 0 ≤ p ∧ p ≤ 6 := by
  obtain ⟨_, _, _, _, _, _, h | h | h | h | h⟩ := h <;> omega
theorem winv_step {T : PhT} {p s : Int} {cl ur a b c d ob : Bool} {p' s' : Int} (ht : PhOk T) {m r : Int} {dn : Bool} {k : Nat} (hk : k ≤ 500) (hi : WInv T p s m r dn k) (h : phs T p s ⟨cl, ur, a, b, c, d, ob⟩ = (p', s')) :
    (p' = 0 ∧ WInv T 0 s' 0 0 false (k + 1)) ∨ (p' = 6 ∧ WInv T 6 s' 0 0 false (k + 1)) ∨ (p' = 1 ∧ WInv T 1 s' (m + 1) 0 false (k + 1)) ∨ (p' = 2 ∧ WInv T 2 s' m (r + 1) false (k + 1)) ∨
    (p' = 3 ∧ dn = true ∧ WInv T 3 s' m r true (k + 1)) ∨ (p' = 3 ∧ dn = false ∧ T.am ≤ m ∧ T.re ≤ r ∧ WInv T 3 s' m r true (k + 1)) ∨ (p' = 4 ∧ dn = true ∧ WInv T 4 s' m r true (k + 1)) ∨ (p' = 5 ∧ dn = true ∧ WInv T 5 s' m r true (k + 1)) := by
  have hp := winv_range hi
  obtain ⟨m0, m1, r0, r1, s0, s1, hc⟩ := hi
  rcases phs_cases ht hp.1 hp.2 s0 (by omega) h with ⟨e1, e2⟩ | ⟨e0, e4, e1, e2⟩ | ⟨e0, e1, e2, _⟩ | ⟨e0, e1, e2, e3⟩ | ⟨e0, e1, e2, e3⟩ | ⟨e0, e1, e2, _⟩ | ⟨e0, e1, e2⟩ | ⟨e0, e1, e2⟩ | ⟨e0, e1, e2⟩
  · rcases hc with ⟨f0, f1, f2, f3⟩ | ⟨f0, f1, f2, f3⟩ | ⟨f0, f1, f2, f3⟩ | ⟨f0, f1, f2⟩ | ⟨f0, f1, f2, f3⟩
    · exact Or.inl ⟨by omega, winv_up (by omega) (by omega)⟩
    · exact Or.inr (Or.inr (Or.inl ⟨by omega, winv_amber (by omega) (by omega) (by omega)⟩))
    · exact Or.inr (Or.inr (Or.inr (Or.inl ⟨by omega, winv_red (by omega) (by omega) (by omega) f1 (by omega) (by omega)⟩)))
    · rcases (show p = 3 ∨ p = 4 ∨ p = 5 by omega) with g | g | g
      · exact Or.inr (Or.inr (Or.inr (Or.inr (Or.inl ⟨by omega, f2, winv_down (by omega) (by omega) m0 (by omega) r0 (by omega) (by omega) (by omega)⟩))))
      · exact Or.inr (Or.inr (Or.inr (Or.inr (Or.inr (Or.inr (Or.inl ⟨by omega, f2, winv_down (by omega) (by omega) m0 (by omega) r0 (by omega) (by omega) (by omega)⟩))))))
      · exact Or.inr (Or.inr (Or.inr (Or.inr (Or.inr (Or.inr (Or.inr ⟨by omega, f2, winv_down (by omega) (by omega) m0 (by omega) r0 (by omega) (by omega) (by omega)⟩))))))
    · exact Or.inr (Or.inl ⟨by omega, winv_raise (by omega) (by omega)⟩)
  · exact Or.inr (Or.inl ⟨by omega, winv_raise (by omega) (by omega)⟩)
  · have f1 : m = 0 := by rcases hc with h | h | h | h | h <;> omega
    exact Or.inr (Or.inr (Or.inl ⟨by omega, winv_amber (by omega) (by omega) (by omega)⟩))
  · have f1 : m = s ∧ r = 0 := by rcases hc with h | h | h | h | h <;> omega
    exact Or.inr (Or.inr (Or.inr (Or.inl ⟨by omega, winv_red (by omega) (by omega) (by omega) (by omega) (by omega) (by omega)⟩)))
  · rcases hc with ⟨f0, f1, f2, f3⟩ | ⟨f0, f1, f2, f3⟩ | ⟨f0, f1, f2, f3⟩ | ⟨f0, f1, f2⟩ | ⟨f0, f1, f2, f3⟩
    · omega
    · omega
    · exact Or.inr (Or.inr (Or.inr (Or.inr (Or.inr (Or.inl ⟨by omega, f3, f1, by omega, winv_down (by omega) (by omega) m0 (by omega) r0 (by omega) (by omega) (by omega)⟩)))))
    · omega
    · omega
  · rcases hc with ⟨f0, _⟩ | ⟨f0, _⟩ | ⟨f0, _⟩ | ⟨f0, f1, f2⟩ | ⟨f0, _⟩
    · omega
    · omega
    · omega
    · exact Or.inr (Or.inr (Or.inr (Or.inr (Or.inr (Or.inr (Or.inl ⟨by omega, f2, winv_down (by omega) (by omega) m0 (by omega) r0 (by omega) (by omega) (by omega)⟩))))))
    · omega
  · rcases hc with ⟨f0, _⟩ | ⟨f0, _⟩ | ⟨f0, _⟩ | ⟨f0, f1, f2⟩ | ⟨f0, _⟩
    · omega
    · omega
    · omega
    · exact Or.inr (Or.inr (Or.inr (Or.inr (Or.inr (Or.inr (Or.inr ⟨by omega, f2, winv_down (by omega) (by omega) m0 (by omega) r0 (by omega) (by omega) (by omega)⟩))))))
    · omega
  · have f1 : m = 0 := by rcases hc with h | h | h | h | h <;> omega
    exact Or.inr (Or.inr (Or.inl ⟨by omega, winv_amber (by omega) (by omega) (by omega)⟩))
  · exact Or.inl ⟨by omega, winv_up (by omega) (by omega)⟩
/-- For how many ticks, one behind the other, entry barriers are to be down, behind k ticks. -/
def XInv (p s e : Int) (k : Nat) : Prop := 0 ≤ e ∧ e ≤ k ∧ 1 ≤ s ∧ s ≤ k + 1 ∧ 0 ≤ p ∧ p ≤ 6 ∧ (p = 3 → e = s) ∧ (p ≤ 2 ∨ p = 6 → e = 0)
theorem xinv_zero : XInv 0 1 0 0 := ⟨by omega, by omega, by omega, by omega, by omega, by omega, by omega, by omega⟩
theorem xinv_step {T : PhT} {p s : Int} {cl ur a b c d ob : Bool} {p' s' : Int} (ht : PhOk T) {m : Int} {k : Nat} (hk : k ≤ 500) (hi : XInv p s m k) (h : phs T p s ⟨cl, ur, a, b, c, d, ob⟩ = (p', s')) :
    (p' = 0 ∧ XInv 0 s' 0 (k + 1)) ∨ (p' = 1 ∧ XInv 1 s' 0 (k + 1)) ∨ (p' = 2 ∧ XInv 2 s' 0 (k + 1)) ∨ (p' = 6 ∧ XInv 6 s' 0 (k + 1)) ∨ (p' = 3 ∧ XInv 3 s' (m + 1) (k + 1)) ∨
    (p = 3 ∧ p' = 4 ∧ T.en ≤ m ∧ ob = false ∧ XInv 4 s' (m + 1) (k + 1)) ∨ (p = 3 ∧ p' = 4 ∧ T.en ≤ m ∧ ob = true ∧ T.en + T.ov ≤ m ∧ XInv 4 s' (m + 1) (k + 1)) ∨
    (p = 4 ∧ p' = 4 ∧ XInv 4 s' (m + 1) (k + 1)) ∨ (p = 4 ∧ p' = 5 ∧ XInv 5 s' (m + 1) (k + 1)) ∨ (p = 5 ∧ p' = 5 ∧ XInv 5 s' (m + 1) (k + 1)) := by
  obtain ⟨m0, m1, s0, s1, p0, p1, g0, g1⟩ := hi
  have X : ∀ (q u v : Int), 0 ≤ v → v ≤ k + 1 → 1 ≤ u → u ≤ k + 2 → 0 ≤ q → q ≤ 6 → (q = 3 → v = u) → (q ≤ 2 ∨ q = 6 → v = 0) → XInv q u v (k + 1) := fun q u v a0 a1 a2 a3 a4 a5 a6 a7 => ⟨a0, by omega, a2, by omega, a4, a5, a6, a7⟩
  rcases phs_cases ht p0 p1 s0 (by omega) h with ⟨e1, e2⟩ | ⟨e0, e4, e1, e2⟩ | ⟨e0, e1, e2, _⟩ | ⟨e0, e1, e2, e3⟩ | ⟨e0, e1, e2, e3⟩ | ⟨e0, e1, e2, e3, e4⟩ | ⟨e0, e1, e2⟩ | ⟨e0, e1, e2⟩ | ⟨e0, e1, e2⟩
  · rcases (show p = 0 ∨ p = 1 ∨ p = 2 ∨ p = 3 ∨ p = 4 ∨ p = 5 ∨ p = 6 by omega) with f | f | f | f | f | f | f
    · exact Or.inl ⟨by omega, X _ _ _ (by omega) (by omega) (by omega) (by omega) (by omega) (by omega) (by omega) (by omega)⟩
    · exact Or.inr (Or.inl ⟨by omega, X _ _ _ (by omega) (by omega) (by omega) (by omega) (by omega) (by omega) (by omega) (by omega)⟩)
    · exact Or.inr (Or.inr (Or.inl ⟨by omega, X _ _ _ (by omega) (by omega) (by omega) (by omega) (by omega) (by omega) (by omega) (by omega)⟩))
    · have := g0 f
      exact Or.inr (Or.inr (Or.inr (Or.inr (Or.inl ⟨by omega, X _ _ _ (by omega) (by omega) (by omega) (by omega) (by omega) (by omega) (by omega) (by omega)⟩))))
    · exact Or.inr (Or.inr (Or.inr (Or.inr (Or.inr (Or.inr (Or.inr (Or.inl ⟨f, by omega, X _ _ _ (by omega) (by omega) (by omega) (by omega) (by omega) (by omega) (by omega) (by omega)⟩)))))))
    · exact Or.inr (Or.inr (Or.inr (Or.inr (Or.inr (Or.inr (Or.inr (Or.inr (Or.inr ⟨f, by omega, X _ _ _ (by omega) (by omega) (by omega) (by omega) (by omega) (by omega) (by omega) (by omega)⟩))))))))
    · exact Or.inr (Or.inr (Or.inr (Or.inl ⟨by omega, X _ _ _ (by omega) (by omega) (by omega) (by omega) (by omega) (by omega) (by omega) (by omega)⟩)))
  · exact Or.inr (Or.inr (Or.inr (Or.inl ⟨by omega, X _ _ _ (by omega) (by omega) (by omega) (by omega) (by omega) (by omega) (by omega) (by omega)⟩)))
  · exact Or.inr (Or.inl ⟨by omega, X _ _ _ (by omega) (by omega) (by omega) (by omega) (by omega) (by omega) (by omega) (by omega)⟩)
  · exact Or.inr (Or.inr (Or.inl ⟨by omega, X _ _ _ (by omega) (by omega) (by omega) (by omega) (by omega) (by omega) (by omega) (by omega)⟩))
  · have := g1 (by omega)
    exact Or.inr (Or.inr (Or.inr (Or.inr (Or.inl ⟨by omega, X _ _ _ (by omega) (by omega) (by omega) (by omega) (by omega) (by omega) (by omega) (by omega)⟩))))
  · have := g0 e0
    rcases e4 with e4 | ⟨e4, e5⟩
    · exact Or.inr (Or.inr (Or.inr (Or.inr (Or.inr (Or.inl ⟨e0, by omega, by omega, e4, X _ _ _ (by omega) (by omega) (by omega) (by omega) (by omega) (by omega) (by omega) (by omega)⟩)))))
    · exact Or.inr (Or.inr (Or.inr (Or.inr (Or.inr (Or.inr (Or.inl ⟨e0, by omega, by omega, e4, by omega, X _ _ _ (by omega) (by omega) (by omega) (by omega) (by omega) (by omega) (by omega) (by omega)⟩))))))
  · exact Or.inr (Or.inr (Or.inr (Or.inr (Or.inr (Or.inr (Or.inr (Or.inr (Or.inl ⟨e0, by omega, X _ _ _ (by omega) (by omega) (by omega) (by omega) (by omega) (by omega) (by omega) (by omega)⟩))))))))
  · exact Or.inr (Or.inl ⟨by omega, X _ _ _ (by omega) (by omega) (by omega) (by omega) (by omega) (by omega) (by omega) (by omega)⟩)
  · exact Or.inl ⟨by omega, X _ _ _ (by omega) (by omega) (by omega) (by omega) (by omega) (by omega) (by omega) (by omega)⟩
/-- For how many ticks the road is open, behind k ticks. -/
def OInv (p s e : Int) (k : Nat) : Prop := 0 ≤ e ∧ e ≤ k + 1 ∧ 1 ≤ s ∧ s ≤ k + 1 ∧ 0 ≤ p ∧ p ≤ 6 ∧ (p = 0 → e = s) ∧ (¬ p = 0 → e = 0)
theorem oinv_zero : OInv 0 1 1 0 := ⟨by omega, by omega, by omega, by omega, by omega, by omega, by omega, by omega⟩
theorem oinv_step {T : PhT} {p s : Int} {cl ur a b c d ob : Bool} {p' s' : Int} (ht : PhOk T) {m : Int} {k : Nat} (hk : k ≤ 500) (hi : OInv p s m k) (h : phs T p s ⟨cl, ur, a, b, c, d, ob⟩ = (p', s')) :
    (p = 0 ∧ p' = 0 ∧ OInv 0 s' (m + 1) (k + 1)) ∨ (p = 0 ∧ p' = 1 ∧ ur = true ∧ OInv 1 s' 0 (k + 1)) ∨ (p = 0 ∧ p' = 1 ∧ ur = false ∧ cl = true ∧ T.op ≤ m ∧ OInv 1 s' 0 (k + 1)) ∨
    (¬ p = 0 ∧ p' = 0 ∧ OInv 0 s' (m + 1) (k + 1)) ∨ (¬ p = 0 ∧ ¬ p' = 0 ∧ OInv p' s' 0 (k + 1)) := by
  obtain ⟨m0, m1, s0, s1, p0, p1, g0, g1⟩ := hi
  have X : ∀ (q u v : Int), 0 ≤ v → v ≤ k + 2 → 1 ≤ u → u ≤ k + 2 → 0 ≤ q → q ≤ 6 → (q = 0 → v = u) → (¬ q = 0 → v = 0) → OInv q u v (k + 1) := fun q u v a0 a1 a2 a3 a4 a5 a6 a7 => ⟨a0, by omega, a2, by omega, a4, a5, a6, a7⟩
  rcases phs_cases ht p0 p1 s0 (by omega) h with ⟨e1, e2⟩ | ⟨e0, e4, e1, e2⟩ | ⟨e0, e1, e2, e3⟩ | ⟨e0, e1, e2, e3⟩ | ⟨e0, e1, e2, e3⟩ | ⟨e0, e1, e2, e3, e4⟩ | ⟨e0, e1, e2⟩ | ⟨e0, e1, e2⟩ | ⟨e0, e1, e2⟩
  · by_cases f : p = 0
    · have := g0 f
      exact Or.inl ⟨f, by omega, X _ _ _ (by omega) (by omega) (by omega) (by omega) (by omega) (by omega) (by omega) (by omega)⟩
    · exact Or.inr (Or.inr (Or.inr (Or.inr ⟨f, by omega, X _ _ _ (by omega) (by omega) (by omega) (by omega) (by omega) (by omega) (by omega) (by omega)⟩)))
  · exact Or.inr (Or.inr (Or.inr (Or.inr ⟨by omega, by omega, X _ _ _ (by omega) (by omega) (by omega) (by omega) (by omega) (by omega) (by omega) (by omega)⟩)))
  · have := g0 e0
    rcases e3 with e3 | ⟨e3, e4, e5⟩
    · exact Or.inr (Or.inl ⟨e0, e1, e3, X _ _ _ (by omega) (by omega) (by omega) (by omega) (by omega) (by omega) (by omega) (by omega)⟩)
    · exact Or.inr (Or.inr (Or.inl ⟨e0, e1, e3, e4, by omega, X _ _ _ (by omega) (by omega) (by omega) (by omega) (by omega) (by omega) (by omega) (by omega)⟩))
  · exact Or.inr (Or.inr (Or.inr (Or.inr ⟨by omega, by omega, X _ _ _ (by omega) (by omega) (by omega) (by omega) (by omega) (by omega) (by omega) (by omega)⟩)))
  · exact Or.inr (Or.inr (Or.inr (Or.inr ⟨by omega, by omega, X _ _ _ (by omega) (by omega) (by omega) (by omega) (by omega) (by omega) (by omega) (by omega)⟩)))
  · exact Or.inr (Or.inr (Or.inr (Or.inr ⟨by omega, by omega, X _ _ _ (by omega) (by omega) (by omega) (by omega) (by omega) (by omega) (by omega) (by omega)⟩)))
  · exact Or.inr (Or.inr (Or.inr (Or.inr ⟨by omega, by omega, X _ _ _ (by omega) (by omega) (by omega) (by omega) (by omega) (by omega) (by omega) (by omega)⟩)))
  · exact Or.inr (Or.inr (Or.inr (Or.inr ⟨by omega, by omega, X _ _ _ (by omega) (by omega) (by omega) (by omega) (by omega) (by omega) (by omega) (by omega)⟩)))
  · have := g1 (by omega)
    exact Or.inr (Or.inr (Or.inr (Or.inl ⟨by omega, e1, X _ _ _ (by omega) (by omega) (by omega) (by omega) (by omega) (by omega) (by omega) (by omega)⟩)))
/-- Any phase but the failed one, behind k ticks. -/
def PhInv (p s : Int) (k : Nat) : Prop := 1 ≤ s ∧ s ≤ k + 1 ∧ 0 ≤ p ∧ p ≤ 6
theorem rinv_zero : PhInv 0 1 0 := ⟨by omega, by omega, by omega, by omega⟩
theorem rinv_step {T : PhT} {p s : Int} {cl ur a b c d ob : Bool} {p' s' : Int} (ht : PhOk T) {k : Nat} (hk : k ≤ 900) (hi : PhInv p s k) (h : phs T p s ⟨cl, ur, a, b, c, d, ob⟩ = (p', s')) : PhInv p' s' (k + 1) := by
  obtain ⟨s0, s1, p0, p1⟩ := hi
  have X : ∀ (q u : Int), 1 ≤ u → u ≤ k + 2 → 0 ≤ q → q ≤ 6 → PhInv q u (k + 1) := fun q u a0 a1 a2 a3 => ⟨a0, by omega, a2, a3⟩
  rcases phs_cases ht p0 p1 s0 (by omega) h with ⟨e1, e2⟩ | ⟨e0, e4, e1, e2⟩ | ⟨e0, e1, e2, e3⟩ | ⟨e0, e1, e2, e3⟩ | ⟨e0, e1, e2, e3⟩ | ⟨e0, e1, e2, e3, e4⟩ | ⟨e0, e1, e2⟩ | ⟨e0, e1, e2⟩ | ⟨e0, e1, e2⟩
  all_goals exact X _ _ (by omega) (by omega) (by omega) (by omega)
/-- What is not to be closed, and not urgent: raised at once, .. -/
theorem phs_raise {T : PhT} {p s : Int} {k : Nat} {a c ob : Bool} (hk : k ≤ 900) (hi : PhInv p s k) : ∃ s', PhInv (if p = 0 then 0 else 6) s' (k + 1) ∧ phs T p s ⟨false, false, a, false, c, false, ob⟩ = (if p = 0 then 0 else 6, s') := by
  obtain ⟨s0, s1, p0, p1⟩ := hi
  have hl := phl_near s0 (by omega)
  rcases (show p = 0 ∨ (1 ≤ p ∧ p ≤ 5) ∨ p = 6 by omega) with rfl | h | rfl
  · exact ⟨s + 1, ⟨by omega, by omega, by decide, by decide⟩, by unfold phs phn; simp [phgo, hl]⟩
  · refine ⟨1, ⟨by omega, by omega, by split <;> omega, by split <;> omega⟩, ?_⟩
    unfold phs phn
    rw [if_pos ⟨h.1, h.2, rfl⟩, if_neg (by omega)]
    rfl
  · exact ⟨s + 1, ⟨by omega, by omega, by decide, by decide⟩, by unfold phs phn; simp [phgo, hl]⟩
/-- .. kept so as long as not both barriers are up, .. -/
theorem phs_stay {T : PhT} {p s : Int} {k : Nat} {a c ob : Bool} (hp : p = 0 ∨ p = 6) (hk : k ≤ 900) (hi : PhInv p s k) : PhInv p (s + 1) (k + 1) ∧ phs T p s ⟨false, false, a, true, c, false, ob⟩ = (p, s + 1) := by
  obtain ⟨s0, s1, p0, p1⟩ := hi
  have hl := phl_near s0 (by omega)
  refine ⟨⟨by omega, by omega, p0, p1⟩, ?_⟩
  rcases hp with rfl | rfl
  · unfold phs phn; simp [phgo, hl]
  · unfold phs phn; simp [phgo, hl]
/-- .. and open when they are. -/
theorem phs_open {T : PhT} {p s : Int} {k : Nat} {a c ob : Bool} (hp : p = 0 ∨ p = 6) (hk : k ≤ 900) (hi : PhInv p s k) : ∃ s', phs T p s ⟨false, false, a, true, c, true, ob⟩ = (0, s') := by
  obtain ⟨s0, s1, p0, p1⟩ := hi
  have hl := phl_near s0 (by omega)
  rcases hp with rfl | rfl
  · exact ⟨s + 1, by unfold phs phn; simp [phgo, hl]⟩
  · exact ⟨1, by unfold phs phn; simp [phgo]⟩
/-- What failed stays so, what is no phase fails. -/
theorem phs_fail {T : PhT} {p s : Int} {y : PhW} (hp : p < 0 ∨ 6 < p) : ∃ s', phs T p s y = (7, s') := by
  unfold phs phn
  rw [if_neg (by omega), if_neg (by omega), if_neg (by omega), if_neg (by omega), if_neg (by omega), if_neg (by omega), if_neg (by omega)]
  by_cases h : p = 7
  · rw [if_pos (Or.inr h), h]; exact ⟨_, rfl⟩
  · rw [if_neg (by omega)]; exact ⟨_, rfl⟩
end Go.Proofs.Ytbaljmflmkpmjaa
