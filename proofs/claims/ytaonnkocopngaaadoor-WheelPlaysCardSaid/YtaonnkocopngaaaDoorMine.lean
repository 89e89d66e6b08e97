/-
  A wheel of a law's own, and what its calls do to it.
-/
import Derived.Test.YtaonnkocopngaaaDoorSmall
namespace Go.Proofs.YtaonnkocopngaaaDoor
open Go.RowKit

/-- A wheel of a law's own: nothing older has changed. -/
def Mine (w wr : World) (b n now : Nat) (A : List Tm) : Prop := ∃ fp, Wl wr b n now A fp ∧ Below w.heap.size w wr ∧ ∀ g, fp g → w.heap.size ≤ g
variable {b n now : Nat} {A : List Tm} {w w1 w2 : World}
theorem Mine.below (h : Mine w w1 b n now A) : Below w.heap.size w w1 := let ⟨_, _, h, _⟩ := h; h
theorem Mine.still (h : Mine w w1 b n now A) (hb : Below w1.heap.size w1 w2) : Mine w w2 b n now A := by
  obtain ⟨fp, h1, h2, h3⟩ := h
  exact ⟨fp, h1.below hb, below_call h2 hb, h3⟩
theorem Mine.drew (h : Mine w w1 b n now A) (m : Nat) : Mine w (w1.drewN m) b n now A := h.still (below_drewN w1 m)
theorem mine_tick (h : Mine w w1 b n now A) (hn : now ≤ 100000000) :
    Calls Tryd.prog 17 #[.pointer (some ⟨b, 0, none⟩)] w1 fun e w2 => ∃ v, e = .returned v ∧ Ints w2 v ((A.filter fun a => a.due == now + 1).map Tm.tag) ∧ Mine w w2 b n (now + 1) (A.filter fun a => a.due != now + 1) := by
  obtain ⟨fp, h1, h2, h3⟩ := h
  exact (tick_on h1 hn h2 h3).mono fun e w2 ⟨v, e1, e2, fp', e3, e4, e5, _, _, _⟩ => ⟨v, e1, e2, fp', e3, e4, e5⟩
theorem mine_arm (h : Mine w w1 b n now A) (hn : now ≤ 100000000) (m k : Nat) (hm : Least n A m) (t tag : Int) (ht : t = (k : Int)) (h1 : 1 ≤ k) (h2 : k ≤ 16777215) :
    Calls Tryd.prog 12 #[.pointer (some ⟨b, 0, none⟩), .int .i64 t, .int .i64 tag] w1 fun e w2 => e = .returned (.tuple #[.int .i64 (m : Int), .nilIface]) ∧ Mine w w2 b n now (A ++ [⟨m, tag, now + k⟩]) := by
  obtain ⟨fp, e1, e2, e3⟩ := h
  exact (arm_ok e1 hn m k hm t tag ht h1 h2).mono fun e w2 ⟨e4, e5⟩ => by
    obtain ⟨fp', r1, r2, r3, _, _⟩ := e5.on e2 e3
    exact ⟨e4, fp', r1, r2, r3⟩
theorem mine_new (pool : Int) (n : Nat) (h0 : (n : Int) = min (max pool 0) 64) (h : Below w.heap.size w w1) :
    Calls Tryd.prog 10 #[.int .i64 pool] w1 fun e w2 => ∃ b, e = .returned (.pointer (some ⟨b, 0, none⟩)) ∧ Mine w w2 b n 0 [] :=
  (new_any pool n h0 w1).mono fun e w2 ⟨b, fp, e1, e2, e3, e4⟩ => ⟨b, e1, fp, e2, below_call h e3, fun g hg => Nat.le_trans h.size (e4 g hg)⟩
theorem mine_left (h : Mine w w1 b n now A) (hn : now ≤ 100000000) (a : Tm) (ha : a ∈ A) (t : Int) (ht : t = (a.num : Int)) (r : Int) (hr : r = ((a.due - now : Nat) : Int)) :
    Calls Tryd.prog 22 #[.pointer (some ⟨b, 0, none⟩), .int .i64 t] w1 fun e w2 => e = .returned (.int .i64 r) ∧ Mine w w2 b n now A := by
  subst hr
  obtain ⟨fp, e1, e2, e3⟩ := h
  exact (left_in e1 hn a ha t ht).mono fun e w2 ⟨r1, r2⟩ => ⟨r1, fp, e1.below r2, below_call e2 r2, e3⟩
theorem mine_left0 (h : Mine w w1 b n now A) (t : Int) (hno : ∀ a ∈ A, (a.num : Int) ≠ t) :
    Calls Tryd.prog 22 #[.pointer (some ⟨b, 0, none⟩), .int .i64 t] w1 fun e w2 => e = .returned (.int .i64 0) ∧ w2 = w1 := by
  obtain ⟨fp, e1, e2, e3⟩ := h
  exact left_out e1 t hno
theorem mine_free (h : Mine w w1 b n now A) (r : Int) (hr : r = ((n - A.length : Nat) : Int)) :
    Calls Tryd.prog 20 #[.pointer (some ⟨b, 0, none⟩)] w1 fun e w2 => e = .returned (.int .i64 r) ∧ Mine w w2 b n now A := by
  subst hr
  obtain ⟨fp, e1, e2, e3⟩ := h
  exact (free_any e1).mono fun e w2 ⟨r1, r2⟩ => ⟨r1, fp, e1.below r2, below_call e2 r2, e3⟩
theorem mine_cancel (h : Mine w w1 b n now A) (hn : now ≤ 100000000) (a : Tm) (ha : a ∈ A) (t : Int) (ht : t = (a.num : Int)) :
    Calls Tryd.prog 15 #[.pointer (some ⟨b, 0, none⟩), .int .i64 t] w1 fun e w2 => e = .returned (.bool true) ∧ Mine w w2 b n now (A.filter fun c => c.num != a.num) := by
  obtain ⟨fp, e1, e2, e3⟩ := h
  exact (cancel_in e1 hn a ha t ht).mono fun e w2 ⟨e4, e5⟩ => by
    obtain ⟨fp', r1, r2, r3, _, _⟩ := e5.on e2 e3
    exact ⟨e4, fp', r1, r2, r3⟩

end Go.Proofs.YtaonnkocopngaaaDoor
