/-
  The walk of crossbucklaw09.DelayBounds: true, whatever it is given.
-/
import Derived.Test.YtkagkfgnnhdofaaDoorSmall
namespace Go.Proofs.YtkagkfgnnhdofaaDoor
open Go.RowKit

/-- Two crossings in blocks of their own. -/
def Two (w : World) (B : Nat) (u u' : Value) (T T' : Nat → Int) (ls ls' : List Ln) : Prop := Blk w B (cfc u T) 39 ∧ Blk w (B + 1) (cfc u' T') 39 ∧ Els RLn 5 w u ls ∧ Els RLn 5 w u' ls'
theorem Two.below {w w' : World} {B : Nat} {u u' : Value} {T T' : Nat → Int} {ls ls' : List Ln} (h : Two w B u u' T T' ls ls') (hb : Below w.heap.size w w') : Two w' B u u' T T' ls ls' :=
  ⟨h.1.below hb, h.2.1.below hb, h.2.2.1.below (fun _ _ _ h => h.below hb), h.2.2.2.below (fun _ _ _ h => h.below hb)⟩
theorem two_new (w : World) (u u' : Value) (T T' : Nat → Int) (ls ls' : List Ln) (h : Els RLn 5 w u ls) (h' : Els RLn 5 w u' ls') :
    Two ((w.alloc (.cells (cfc u T) 39)).alloc (.cells (cfc u' T') 39)) w.heap.size u u' T T' ls ls' ∧ Below w.heap.size w ((w.alloc (.cells (cfc u T) 39)).alloc (.cells (cfc u' T') 39)) := by
  have hb := below_alloc (below_alloc (Below.refl _ w) (.cells (cfc u T) 39)) (.cells (cfc u' T') 39)
  refine ⟨⟨(blk_new w _ _).below (below_alloc (Below.refl _ _) _), ?_, h.below (fun _ _ _ h => h.below hb), h'.below (fun _ _ _ h => h.below hb)⟩, hb⟩
  have := blk_new (w.alloc (.cells (cfc u T) 39)) (cfc u' T') 39
  rw [show (w.alloc (.cells (cfc u T) 39)).heap.size = w.heap.size + 1 by simp] at this
  exact this

set_option maxHeartbeats 2000000 in
theorem bounds_long (a av : Option Addr) (n c m cv : Nat) (T T' : Nat → Int) (ls ls' : List Ln) (w : World) (hv : Els RLn 5 w (.slice a n c) ls) (hu : Els RLn 5 w (.slice av m cv) ls') (hl : 20 < n ∨ 20 < m) :
    Calls Tryd.prog 8 #[.agg (cfc (.slice a n c) T), .agg (cfc (.slice av m cv) T')] w fun e w' => e = .returned (.bool true) ∧ Below w.heap.size w w' := by
  obtain ⟨ht, hb⟩ := two_new w _ _ T T' _ _ hv hu
  have HT := Lib.hid ht
  have HB := Lib.hid hb
  clear ht hb hv hu
  unfold cfc at *
  go_enter Tryd.func8, Tryd.ntmps8
  go_wp2_with fail
  (with_reducible refine (small_true _).mono ?_)
  rintro e w1 ⟨rfl, hb⟩
  have HT1 := Lib.hid (HT.out.below hb)
  have HB1 := Lib.hid (below_call HB.out hb)
  have c0 := HT1.out.1.cell 0 (u := .slice a n c) rfl
  have d0 := HT1.out.2.1.cell 0 (u := .slice av m cv) rfl
  clear hb HB HT
  by_cases h : 20 < n
  · have q1 : decide ((20 : Int) < (n : Int)) = true := decide_eq_true (by omega)
    clear hl h
    go_wp2_with fail
    go_ret
    exact ⟨rfl, HB1.out⟩
  · have q1 : decide ((20 : Int) < (n : Int)) = false := decide_eq_false (by omega)
    have q2 : decide ((20 : Int) < (m : Int)) = true := decide_eq_true (by omega)
    clear hl h
    go_wp2_with fail
    go_ret
    exact ⟨rfl, HB1.out⟩
set_option maxHeartbeats 4000000 in
theorem bounds_main (a av : Option Addr) (n c m cv : Nat) (T T' : Nat → Int) (ls ls' : List Ln) (w : World) (hv : Els RLn 5 w (.slice a n c) ls) (hu : Els RLn 5 w (.slice av m cv) ls') (hn : n ≤ 20) (hm : m ≤ 20) :
    Calls Tryd.prog 8 #[.agg (cfc (.slice a n c) T), .agg (cfc (.slice av m cv) T')] w fun e w' => e = .returned (.bool true) ∧ Below w.heap.size w w' := by
  obtain ⟨ht, hb⟩ := two_new w _ _ T T' _ _ hv hu
  have HT := Lib.hid ht
  have HB := Lib.hid hb
  have q1 : decide ((20 : Int) < (n : Int)) = false := decide_eq_false (by omega)
  have q2 : decide ((20 : Int) < (m : Int)) = false := decide_eq_false (by omega)
  obtain ⟨k1, hk1⟩ : ∃ k : Int, k = if OkC T ls then 0 else 6 := ⟨_, rfl⟩
  obtain ⟨k2, hk2⟩ : ∃ k : Int, k = if OkC T' ls' then 0 else 6 := ⟨_, rfl⟩
  obtain ⟨n1, hn1⟩ : ∃ k : Int, k = if OkC T ls then bnd T else 0 := ⟨_, rfl⟩
  obtain ⟨n2, hn2⟩ : ∃ k : Int, k = if OkC T' ls' then bnd T' else 0 := ⟨_, rfl⟩
  have H1 := Lib.hid (fun w h => bound_any (.slice a n c) T ls k1 hk1 n1 hn1 w h)
  have H2 := Lib.hid (fun w h => bound_any (.slice av m cv) T' ls' k2 hk2 n2 hn2 w h)
  have HK1 := Lib.hid hk1
  have HK2 := Lib.hid hk2
  have HN1 := Lib.hid hn1
  have HN2 := Lib.hid hn2
  have HO1 := Lib.hid (fun h : OkC T ls => And.intro (okC_time h (i := 8) (by omega)) (And.intro (okC_time h (i := 7) (by omega)) (okC_time h (i := 3) (by omega))))
  have HO2 := Lib.hid (fun h : OkC T' ls' => And.intro (okC_time h (i := 8) (by omega)) (And.intro (okC_time h (i := 7) (by omega)) (okC_time h (i := 3) (by omega))))
  clear ht hb hv hu hn hm hk1 hk2 hn1 hn2
  unfold cfc at *
  go_enter Tryd.func8, Tryd.ntmps8
  go_wp2_with fail
  (with_reducible refine (small_true _).mono ?_)
  rintro e w1 ⟨rfl, hb⟩
  have HT1 := Lib.hid (HT.out.below hb)
  have HB1 := Lib.hid (below_call HB.out hb)
  obtain ⟨c0, c1, c2, c3, c4, c5, c6, c7, c8, c9, c10⟩ := Blk.eleven (v := .slice a n c) (T := T) HT1.out.1
  have d0 := HT1.out.2.1.cell 0 (u := .slice av m cv) rfl
  have hv1 := HT1.out.2.2.1
  clear hb HB HT
  go_wp2_with fail
  (with_reducible refine (H1.out _ hv1).mono ?_)
  rintro e w2 ⟨r, rfl, he, hb⟩
  have HE2 := Lib.hid he
  have HT2 := Lib.hid (HT1.out.below hb)
  have HB2 := Lib.hid (below_call HB1.out hb)
  clear he hb hv1 HT1 HB1 c0 c1 c2 c3 c4 c5 c6 c7 c8 c9 c10 d0
  obtain ⟨c0, c1, c2, c3, c4, c5, c6, c7, c8, c9, c10⟩ := Blk.eleven (v := .slice av m cv) (T := T') HT2.out.2.1
  have hv2 := HT2.out.2.2.2
  go_wp2_with fail
  (with_reducible refine (H2.out _ hv2).mono ?_)
  rintro e w3 ⟨r3, rfl, he, hb⟩
  have HF3 := Lib.hid he
  have HE3 := Lib.hid (HE2.out.below hb)
  have HT3 := Lib.hid (HT2.out.below hb)
  have HB3 := Lib.hid (below_call HB2.out hb)
  clear he hb hv2 HT2 HB2 HE2 c0 c1 c2 c3 c4 c5 c6 c7 c8 c9 c10 H1 H2
  have hk1 := HK1.out
  have hk2 := HK2.out
  have hn1 := HN1.out
  have hn2 := HN2.out
  by_cases h1 : OkC T ls
  · rw [if_pos h1] at hk1 hn1
    subst hk1 hn1
    obtain rfl := HE3.out.nil
    by_cases h2 : OkC T' ls'
    · rw [if_pos h2] at hk2 hn2
      subst hk2 hn2
      obtain rfl := HF3.out.nil
      obtain ⟨⟨x0, x1⟩, ⟨x2, x3⟩, x4, x5⟩ := HO1.out h1
      obtain ⟨⟨y0, y1⟩, ⟨y2, y3⟩, y4, y5⟩ := HO2.out h2
      obtain ⟨c0, c1, c2, c3, c4, c5, c6, c7, c8, c9, c10⟩ := Blk.eleven (v := .slice a n c) (T := T) HT3.out.1
      obtain ⟨d0, d1, d2, d3, d4, d5, d6, d7, d8, d9, d10⟩ := Blk.eleven (v := .slice av m cv) (T := T') HT3.out.2.1
      unfold bnd
      clear h1 h2 HE3 HF3 HT3 HO1 HO2 HK1 HK2 HN1 HN2
      have q3 : decide (12 ≤ T 8 + 2 * T 7 + T 3 + 8) = true := decide_eq_true (by omega)
      go_wp2_with fail
      go_ret
      exact ⟨rfl, HB3.out⟩
    · rw [if_neg h2] at hk2 hn2
      subst hk2 hn2
      obtain ⟨g, rfl, hg⟩ := HF3.out.not (by decide)
      clear h1 h2 HE3 HF3 HT3 HO1 HO2 HK1 HK2 HN1 HN2
      go_wp2_with fail
      go_ret
      exact ⟨rfl, HB3.out⟩
  · rw [if_neg h1] at hk1 hn1
    subst hk1 hn1
    obtain ⟨g, rfl, hg⟩ := HE3.out.not (by decide)
    by_cases h2 : OkC T' ls'
    · rw [if_pos h2] at hk2 hn2
      subst hk2 hn2
      obtain rfl := HF3.out.nil
      clear h1 h2 HE3 HF3 HT3 HO1 HO2 HK1 HK2 HN1 HN2
      go_wp2_with fail
      go_ret
      exact ⟨rfl, HB3.out⟩
    · rw [if_neg h2] at hk2 hn2
      subst hk2 hn2
      obtain ⟨g', rfl, hg'⟩ := HF3.out.not (by decide)
      clear h1 h2 HE3 HF3 HT3 HO1 HO2 HK1 HK2 HN1 HN2
      go_wp2_with fail
      go_ret
      exact ⟨rfl, HB3.out⟩

theorem lawBounds_any (u u' : Value) (T T' : Nat → Int) (ls ls' : List Ln) (w : World) (hv : Els RLn 5 w u ls) (hv' : Els RLn 5 w u' ls') :
    Calls Tryd.prog 8 #[.agg (cfc u T), .agg (cfc u' T')] w fun e w' => e = .returned (.bool true) ∧ Below w.heap.size w w' := by
  obtain ⟨a, c, e⟩ := hv.len
  obtain ⟨a', c', e'⟩ := hv'.len
  subst e e'
  by_cases h : 20 < ls.length ∨ 20 < ls'.length
  · exact bounds_long a a' _ c _ c' T T' ls ls' w hv hv' h
  · exact bounds_main a a' _ c _ c' T T' ls ls' w hv hv' (by omega) (by omega)
end Go.Proofs.YtkagkfgnnhdofaaDoor
