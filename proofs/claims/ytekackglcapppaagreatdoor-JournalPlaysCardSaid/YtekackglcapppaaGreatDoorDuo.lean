/-
  Two journals side by side: the program's and the document's, each over a store of its own.
-/
import Derived.Test.YtekackglcapppaaGreatDoorYJr
import Derived.Test.YtekackglcapppaaGreatDoorYJn

namespace Go.Proofs.YtekackglcapppaaGreatDoor
open Go.RowKit

def ofJ (s B x y q : Nat) : Nat → Prop := fun k => k = s ∨ k = B ∨ k = x ∨ k = y ∨ k = q
/-- The program's store (blocks s, B) and journal (b) at S, j; the document's (x, y; q) at T, i; nothing older than w0 has changed. -/
structure Duo (w0 w : World) (s B b x y q hh : Nat) (S : Ss) (j : Jt) (T : Ss) (i : Jt) : Prop where
  sto : StoS w s B S
  rst : RSt w x y T
  jo : Jo w (ofJ s B x y q) b s hh j
  ro : Ro w (ofJ s B x y b) q x hh i
  he : hh = S.xs.length / 2
  re : hh = T.xs.length / 2
  bel : Below w0.heap.size w0 w
  s_ : w0.heap.size ≤ s
  B_ : w0.heap.size ≤ B
  b_ : w0.heap.size ≤ b
  x_ : w0.heap.size ≤ x
  y_ : w0.heap.size ≤ y
  q_ : w0.heap.size ≤ q
  sx : s ≠ x ∧ s ≠ y ∧ B ≠ x ∧ B ≠ y
variable {w0 w w' : World} {s B b x y q hh : Nat} {S T S' T' : Ss} {j i j' i' : Jt}
theorem Duo.below (h : Duo w0 w s B b x y q hh S j T i) (hb : Below w.heap.size w w') : Duo w0 w' s B b x y q hh S j T i :=
  ⟨h.sto.below hb, h.rst.below hb, h.jo.below hb, h.ro.below hb, h.he, h.re, h.bel.trans (hb.mono h.bel.size), h.s_, h.B_, h.b_, h.x_, h.y_, h.q_, h.sx⟩
theorem Duo.lt (h : Duo w0 w s B b x y q hh S j T i) : s < w.heap.size ∧ B < w.heap.size ∧ b < w.heap.size ∧ x < w.heap.size ∧ y < w.heap.size ∧ q < w.heap.size :=
  ⟨h.sto.lt.1, h.sto.lt.2, h.jo.lt, h.rst.lt.1, h.rst.lt.2, h.ro.lt⟩
theorem Duo.apart (h : Duo w0 w s B b x y q hh S j T i) : b ≠ s ∧ b ≠ B ∧ b ≠ x ∧ b ≠ y ∧ b ≠ q ∧ q ≠ s ∧ q ≠ B ∧ q ≠ x ∧ q ≠ y := by
  have h1 := h.jo.not
  have h2 := h.ro.not
  unfold ofJ at h1 h2
  exact ⟨fun e => h1 (.inl e), fun e => h1 (.inr (.inl e)), fun e => h1 (.inr (.inr (.inl e))), fun e => h1 (.inr (.inr (.inr (.inl e)))), fun e => h1 (.inr (.inr (.inr (.inr e)))), fun e => h2 (.inl e), fun e => h2 (.inr (.inl e)), fun e => h2 (.inr (.inr (.inl e))), fun e => h2 (.inr (.inr (.inr (.inl e))))⟩
/-- The program's Append. -/
theorem Duo.append (h : Duo w0 w s B b x y q hh S j T i) (v : Value) (d : List (BitVec 8)) (hv : Byts w0 v d) (c : Int) (hp : japp S j d = (S', j', c)) :
    Calls Tryz.prog 10 #[.pointer (some ⟨b, 0, none⟩), v] w fun e w' => ∃ u, e = .returned u ∧ ErrJ w' w.heap.size u c ∧ Duo w0 w' s B b x y q hh S' j' T i ∧ Keep (own3 b s B) w w' := by
  have hl := h.lt
  have ha := h.apart
  have hsx := h.sx
  have hnew : ∀ g, own3 b s B g → w0.heap.size ≤ g := fun g hg => by rcases hg with rfl | rfl | rfl; exact h.b_; exact h.s_; exact h.B_
  refine (append_to h.sto h.jo ⟨.inl rfl, .inr (.inl rfl), fun k hk => by rcases hk with rfl | rfl | rfl | rfl | rfl <;> omega⟩ h.he v d (fun w' hk => hv.below (below_keep h.bel hk hnew)) S' j' c hp).mono fun e w' ⟨u, he, h1, h2, h3, h4⟩ => ⟨u, he, h1, ⟨h2, ?_, h3, ?_, ?_, h.re, below_keep h.bel h4 hnew, h.s_, h.B_, h.b_, h.x_, h.y_, h.q_, h.sx⟩, h4⟩
  · exact h.rst.keep h4 (fun hg => by rcases hg with hg | hg | hg <;> omega) (fun hg => by rcases hg with hg | hg | hg <;> omega)
  · exact h.ro.keep h4 (fun hg => by rcases hg with hg | hg | hg <;> omega) fun k hk => .inl (by rcases hk with rfl | rfl | rfl; exact .inr (.inr (.inr (.inr rfl))); exact .inl rfl; exact .inr (.inl rfl))
  · rw [japp_len h.jo.facts.2.1 hp]; exact h.he
/-- The document's. -/
theorem Duo.rappend (h : Duo w0 w s B b x y q hh S j T i) (v : Value) (d : List (BitVec 8)) (hv : Byts w0 v d) (c : Int) (hp : japp T i d = (T', i', c)) :
    Calls Tryz.prog 11 #[.pointer (some ⟨q, 0, none⟩), v] w fun e w' => ∃ cc, e = .returned (.int .i64 cc) ∧ cc = c ∧ Duo w0 w' s B b x y q hh S j T' i' := by
  have hl := h.lt
  have ha := h.apart
  have hsx := h.sx
  have hnew : ∀ g, (fun k => k = q ∨ k = x ∨ k = y) g → w0.heap.size ≤ g := fun g hg => by rcases hg with rfl | rfl | rfl; exact h.q_; exact h.x_; exact h.y_
  refine (rappend_to h.rst h.ro ⟨.inr (.inr (.inl rfl)), .inr (.inr (.inr (.inl rfl))), fun k hk => by rcases hk with rfl | rfl | rfl | rfl | rfl <;> omega⟩ h.re v d (fun w' hk => hv.below (below_keep h.bel hk hnew)) T' i' c hp).mono fun e w' ⟨cc, he, h1, h2, h3, h4⟩ => ⟨cc, he, h1, ?_, h2, ?_, h3, h.he, ?_, below_keep h.bel h4 hnew, h.s_, h.B_, h.b_, h.x_, h.y_, h.q_, h.sx⟩
  · exact h.sto.keep h4 (fun hg => by rcases hg with hg | hg | hg <;> omega) (fun hg => by rcases hg with hg | hg | hg <;> omega)
  · exact h.jo.keep h4 (fun hg => by rcases hg with hg | hg | hg <;> omega) fun k hk => .inl (by rcases hk with rfl | rfl | rfl; exact .inr (.inr (.inr (.inr rfl))); exact .inr (.inr (.inl rfl)); exact .inr (.inr (.inr (.inl rfl))))
  · rw [japp_len h.ro.facts.2.1 hp]; exact h.re
theorem Duo.own2 (h : Duo w0 w s B b x y q hh S j T i) (hs : StoS w' s B S') (he : S'.xs = S.xs) (hk : Keep (Go.Proofs.YtekackglcapppaaGreatDoor.own2 s B) w w') : Duo w0 w' s B b x y q hh S' j T i := by
  have ha := h.apart
  have hsx := h.sx
  refine ⟨hs, h.rst.keep hk (fun hg => by rcases hg with hg | hg <;> omega) (fun hg => by rcases hg with hg | hg <;> omega), ?_, ?_, by rw [he]; exact h.he, h.re, below_keep h.bel hk fun g hg => (by rcases hg with rfl | rfl; exact h.s_; exact h.B_), h.s_, h.B_, h.b_, h.x_, h.y_, h.q_, h.sx⟩
  · exact h.jo.keep hk (fun hg => by rcases hg with hg | hg <;> omega) fun k hk => .inl (by rcases hk with rfl | rfl; exact .inl rfl; exact .inr (.inl rfl))
  · exact h.ro.keep hk (fun hg => by rcases hg with hg | hg <;> omega) fun k hk => .inl (by rcases hk with rfl | rfl; exact .inl rfl; exact .inr (.inl rfl))
theorem Duo.rown2 (h : Duo w0 w s B b x y q hh S j T i) (hs : RSt w' x y T') (he : T'.xs = T.xs) (hk : Keep (fun k => k = x ∨ k = y) w w') : Duo w0 w' s B b x y q hh S j T' i := by
  have ha := h.apart
  have hsx := h.sx
  refine ⟨h.sto.keep hk (fun hg => by rcases hg with hg | hg <;> omega) (fun hg => by rcases hg with hg | hg <;> omega), hs, ?_, ?_, h.he, by rw [he]; exact h.re, below_keep h.bel hk fun g hg => (by rcases hg with rfl | rfl; exact h.x_; exact h.y_), h.s_, h.B_, h.b_, h.x_, h.y_, h.q_, h.sx⟩
  · exact h.jo.keep hk (fun hg => by rcases hg with hg | hg <;> omega) fun k hk => .inl (by rcases hk with rfl | rfl; exact .inr (.inr (.inl rfl)); exact .inr (.inr (.inr (.inl rfl))))
  · exact h.ro.keep hk (fun hg => by rcases hg with hg | hg <;> omega) fun k hk => .inl (by rcases hk with rfl | rfl; exact .inr (.inr (.inl rfl)); exact .inr (.inr (.inr (.inl rfl))))
theorem Duo.kill (h : Duo w0 w s B b x y q hh S j T i) (n : Int) (k : Nat) (hk : (k : Int) = max n 0) (hn : n ≤ 9223372036854775807) :
    Calls Tryz.prog 12 #[.pointer (some ⟨s, 0, none⟩), .int .i64 n] w fun e w' => e = .returned (.tuple #[]) ∧ Duo w0 w' s B b x y q hh ⟨S.xs, S.dead, some k⟩ j T i := by
  obtain ⟨l, hs, hl⟩ := h.sto
  exact (kill_to hs n k hk hn).mono fun e w' ⟨he, h1, h2⟩ => ⟨he, h.own2 ⟨k, h1, fun L hL => by cases hL; rfl⟩ rfl h2⟩
theorem Duo.rkill (h : Duo w0 w s B b x y q hh S j T i) (n : Int) (k : Nat) (hk : (k : Int) = max n 0) (hn : n ≤ 9223372036854775807) :
    Calls Tryz.prog 13 #[.pointer (some ⟨x, 0, none⟩), .int .i64 n] w fun e w' => e = .returned (.tuple #[]) ∧ Duo w0 w' s B b x y q hh S j ⟨T.xs, T.dead, some k⟩ i :=
  (rskill_to h.rst n k hk hn).mono fun _ _ ⟨he, h1, h2⟩ => ⟨he, h.rown2 h1 rfl h2⟩
theorem Duo.revive (h : Duo w0 w s B b x y q hh S j T i) :
    Calls Tryz.prog 14 #[.pointer (some ⟨s, 0, none⟩)] w fun e w' => e = .returned (.tuple #[]) ∧ Duo w0 w' s B b x y q hh ⟨S.xs, false, none⟩ j T i := by
  obtain ⟨l, hs, hl⟩ := h.sto
  exact (revive_to hs).mono fun e w' ⟨he, h1, h2⟩ => ⟨he, h.own2 ⟨l, h1, fun L hL => by cases hL⟩ rfl h2⟩
theorem Duo.rrevive (h : Duo w0 w s B b x y q hh S j T i) :
    Calls Tryz.prog 15 #[.pointer (some ⟨x, 0, none⟩)] w fun e w' => e = .returned (.tuple #[]) ∧ Duo w0 w' s B b x y q hh S j ⟨T.xs, false, none⟩ i :=
  (rsrevive_to h.rst).mono fun _ _ ⟨he, h1, h2⟩ => ⟨he, h.rown2 h1 rfl h2⟩
theorem Duo.open_ (h : Duo w0 w s B b x y q hh S j T i) :
    Calls Tryz.prog 7 #[.pointer (some ⟨s, 0, none⟩)] w fun e w' => ∃ b', e = .returned (.pointer (some ⟨b', 0, none⟩)) ∧ Duo w0 w' s B b' x y q hh S (jopen S.xs) T i := by
  have hl := h.lt
  refine (open_to h.sto (ofJ s B x y q) (fun k hk => by rcases hk with rfl | rfl | rfl | rfl | rfl <;> omega) hh h.he).mono fun e w' ⟨b', he, h1, h2, h3⟩ => ⟨b', he, h.sto.below h3, h.rst.below h3, h2, ?_, h.he, h.re, h.bel.trans (h3.mono h.bel.size), h.s_, h.B_, Nat.le_trans h.bel.size h1, h.x_, h.y_, h.q_, h.sx⟩
  refine (h.ro.more (Y := ofJ s B x y b') fun k hk => ?_).below h3
  rcases hk with rfl | rfl | rfl | rfl | rfl
  · exact .inl (.inl rfl)
  · exact .inl (.inr (.inl rfl))
  · exact .inl (.inr (.inr (.inl rfl)))
  · exact .inl (.inr (.inr (.inr (.inl rfl))))
  · exact .inr h1
theorem Duo.ropen (h : Duo w0 w s B b x y q hh S j T i) :
    Calls Tryz.prog 8 #[.pointer (some ⟨x, 0, none⟩)] w fun e w' => ∃ q', e = .returned (.pointer (some ⟨q', 0, none⟩)) ∧ Duo w0 w' s B b x y q' hh S j T (jopen T.xs) := by
  have hl := h.lt
  refine (ropen_to h.rst (ofJ s B x y b) (fun k hk => by rcases hk with rfl | rfl | rfl | rfl | rfl <;> omega) hh h.re).mono fun e w' ⟨q', he, h1, h2, h3⟩ => ⟨q', he, h.sto.below h3, h.rst.below h3, ?_, h2, h.he, h.re, h.bel.trans (h3.mono h.bel.size), h.s_, h.B_, h.b_, h.x_, h.y_, Nat.le_trans h.bel.size h1, h.sx⟩
  refine (h.jo.more (Y := ofJ s B x y q') fun k hk => ?_).below h3
  rcases hk with rfl | rfl | rfl | rfl | rfl
  · exact .inl (.inl rfl)
  · exact .inl (.inr (.inl rfl))
  · exact .inl (.inr (.inr (.inl rfl)))
  · exact .inl (.inr (.inr (.inr (.inl rfl))))
  · exact .inr h1
/-- Both, opened for the first time. -/
theorem duo_new {t : Nat} (hM : MineS w0 w s B hh S) (hR : RSt w x y S) (ht : s < t ∧ B < t ∧ t ≤ x ∧ t ≤ y ∧ w0.heap.size ≤ t) :
    Calls Tryz.prog 7 #[.pointer (some ⟨s, 0, none⟩)] w fun e w' => ∃ b, e = .returned (.pointer (some ⟨b, 0, none⟩)) ∧
      Calls Tryz.prog 8 #[.pointer (some ⟨x, 0, none⟩)] w' fun e w'' => ∃ q, e = .returned (.pointer (some ⟨q, 0, none⟩)) ∧ Duo w0 w'' s B b x y q hh S (jopen S.xs) S (jopen S.xs) := by
  have hl := hM.sto.lt
  have hr := hR.lt
  refine (open_to hM.sto (fun k => k = s ∨ k = B ∨ k = x ∨ k = y) (fun k hk => by rcases hk with rfl | rfl | rfl | rfl <;> omega) hh hM.he).mono fun e w' ⟨b, he, h1, h2, h3⟩ => ⟨b, he, ?_⟩
  have hz := h3.size
  have hbl := h2.lt
  refine (ropen_to (hR.below h3) (ofJ s B x y b) (fun k hk => by rcases hk with rfl | rfl | rfl | rfl | rfl <;> omega) hh hM.he).mono fun e w'' ⟨q, he, h4, h5, h6⟩ => ⟨q, he, (hM.sto.below h3).below h6, (hR.below h3).below h6, ?_, h5, hM.he, hM.he, (hM.bel.trans (h3.mono hM.bel.size)).trans (h6.mono (Nat.le_trans hM.bel.size hz)), hM.s_, hM.B_, Nat.le_trans hM.bel.size h1, by omega, by omega, by have := hM.bel.size; omega, by omega⟩
  refine (h2.more (Y := ofJ s B x y q) fun k hk => ?_).below h6
  rcases hk with rfl | rfl | rfl | rfl | rfl
  · exact .inl (.inl rfl)
  · exact .inl (.inr (.inl rfl))
  · exact .inl (.inr (.inr (.inl rfl)))
  · exact .inl (.inr (.inr (.inr rfl)))
  · exact .inr h4
end Go.Proofs.YtekackglcapppaaGreatDoor
