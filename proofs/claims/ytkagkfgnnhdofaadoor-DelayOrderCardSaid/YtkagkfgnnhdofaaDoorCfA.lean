/-
  config's within and times by contract; lines and crossings in memory.
-/
import Derived.Test.YtkagkfgnnhdofaaDoorCfMath
import Derived.Test.YtkagkfgnnhdofaaDoorErrs
import Derived.Test.YtkagkfgnnhdofaaDoorBlk
import Derived.BigRegion
namespace Go.Proofs.YtkagkfgnnhdofaaDoor
open Go.RowKit

/-- The cells of a crossing whose Lines are v. -/
def cfc (v : Value) (T : Nat → Int) : Array Value := #[v, .int .i64 (T 0), .int .i64 (T 1), .int .i64 (T 2), .int .i64 (T 3), .int .i64 (T 4), .int .i64 (T 5), .int .i64 (T 6), .int .i64 (T 7), .int .i64 (T 8), .int .i64 (T 9)]
theorem cfc_at (v : Value) (T : Nat → Int) (i : Nat) (h : i < 10) : (cfc v T)[i + 1]? = some (.int .i64 (T i)) := by
  match i, h with
  | 0, _ => rfl
  | 1, _ => rfl
  | 2, _ => rfl
  | 3, _ => rfl
  | 4, _ => rfl
  | 5, _ => rfl
  | 6, _ => rfl
  | 7, _ => rfl
  | 8, _ => rfl
  | 9, _ => rfl
  | n + 10, h => omega
/-! A crossing's block, cell by cell. -/
theorem apart11 (g : Nat) (w : World) (u0 u1 u2 u3 u4 u5 u6 u7 u8 u9 u10 : Value) : Apart g w (((((((((((w.setCell ⟨g, 0, none⟩ u0).setCell ⟨g, 1, none⟩ u1).setCell ⟨g, 2, none⟩ u2).setCell ⟨g, 3, none⟩ u3).setCell ⟨g, 4, none⟩ u4).setCell ⟨g, 5, none⟩ u5).setCell ⟨g, 6, none⟩ u6).setCell ⟨g, 7, none⟩ u7).setCell ⟨g, 8, none⟩ u8).setCell ⟨g, 9, none⟩ u9).setCell ⟨g, 10, none⟩ u10) := ((((((((((Apart.set_ g 0 _ _).trans (Apart.set_ g 1 _ _)).trans (Apart.set_ g 2 _ _)).trans (Apart.set_ g 3 _ _)).trans (Apart.set_ g 4 _ _)).trans (Apart.set_ g 5 _ _)).trans (Apart.set_ g 6 _ _)).trans (Apart.set_ g 7 _ _)).trans (Apart.set_ g 8 _ _)).trans (Apart.set_ g 9 _ _)).trans (Apart.set_ g 10 _ _)
theorem Blk.eleven {w : World} {g : Nat} {v : Value} {T : Nat → Int} {TT : TypeId} (h : Blk w g (cfc v T) TT) : w.cell? ⟨g, 0, none⟩ = some v ∧ w.cell? ⟨g, 1, none⟩ = some (.int .i64 (T 0)) ∧ w.cell? ⟨g, 2, none⟩ = some (.int .i64 (T 1)) ∧ w.cell? ⟨g, 3, none⟩ = some (.int .i64 (T 2)) ∧ w.cell? ⟨g, 4, none⟩ = some (.int .i64 (T 3)) ∧ w.cell? ⟨g, 5, none⟩ = some (.int .i64 (T 4)) ∧ w.cell? ⟨g, 6, none⟩ = some (.int .i64 (T 5)) ∧ w.cell? ⟨g, 7, none⟩ = some (.int .i64 (T 6)) ∧ w.cell? ⟨g, 8, none⟩ = some (.int .i64 (T 7)) ∧ w.cell? ⟨g, 9, none⟩ = some (.int .i64 (T 8)) ∧ w.cell? ⟨g, 10, none⟩ = some (.int .i64 (T 9)) :=
  ⟨h.cell 0 rfl, h.cell 1 rfl, h.cell 2 rfl, h.cell 3 rfl, h.cell 4 rfl, h.cell 5 rfl, h.cell 6 rfl, h.cell 7 rfl, h.cell 8 rfl, h.cell 9 rfl, h.cell 10 rfl⟩
theorem Blk.frz11 {w : World} {g : Nat} {C : Array Value} {TT : TypeId} (h : Blk w g C TT) : w.frozen? ⟨g, 0, none⟩ = false ∧ w.frozen? ⟨g, 1, none⟩ = false ∧ w.frozen? ⟨g, 2, none⟩ = false ∧ w.frozen? ⟨g, 3, none⟩ = false ∧ w.frozen? ⟨g, 4, none⟩ = false ∧ w.frozen? ⟨g, 5, none⟩ = false ∧ w.frozen? ⟨g, 6, none⟩ = false ∧ w.frozen? ⟨g, 7, none⟩ = false ∧ w.frozen? ⟨g, 8, none⟩ = false ∧ w.frozen? ⟨g, 9, none⟩ = false ∧ w.frozen? ⟨g, 10, none⟩ = false :=
  ⟨h.frz 0, h.frz 1, h.frz 2, h.frz 3, h.frz 4, h.frz 5, h.frz 6, h.frz 7, h.frz 8, h.frz 9, h.frz 10⟩
theorem bel11 {w0 w1 : World} {g : Nat} (h : Below w0.heap.size w0 w1) (hg : w0.heap.size ≤ g) (u0 u1 u2 u3 u4 u5 u6 u7 u8 u9 u10 : Value) : Below w0.heap.size w0 (((((((((((w1.setCell ⟨g, 0, none⟩ u0).setCell ⟨g, 1, none⟩ u1).setCell ⟨g, 2, none⟩ u2).setCell ⟨g, 3, none⟩ u3).setCell ⟨g, 4, none⟩ u4).setCell ⟨g, 5, none⟩ u5).setCell ⟨g, 6, none⟩ u6).setCell ⟨g, 7, none⟩ u7).setCell ⟨g, 8, none⟩ u8).setCell ⟨g, 9, none⟩ u9).setCell ⟨g, 10, none⟩ u10) :=
  below_apart h (apart11 g w1 u0 u1 u2 u3 u4 u5 u6 u7 u8 u9 u10) hg

/-- The addresses of the times of a crossing at block g. -/
def ptrs (g : Nat) : Array Value := #[.pointer (some ⟨g, 1, none⟩), .pointer (some ⟨g, 2, none⟩), .pointer (some ⟨g, 3, none⟩), .pointer (some ⟨g, 4, none⟩), .pointer (some ⟨g, 5, none⟩), .pointer (some ⟨g, 6, none⟩), .pointer (some ⟨g, 7, none⟩), .pointer (some ⟨g, 8, none⟩), .pointer (some ⟨g, 9, none⟩), .pointer (some ⟨g, 10, none⟩)]
theorem ptrs0 (g : Nat) (w : World) : (Instr.index 66 (.agg (ptrs g)) (.int .i64 0)).run Tryd.prog w = .ok (.pointer (some ⟨g, 1, none⟩)) w := by kernel_rfl
theorem ptrs1 (g : Nat) (w : World) : (Instr.index 66 (.agg (ptrs g)) (.int .i64 1)).run Tryd.prog w = .ok (.pointer (some ⟨g, 2, none⟩)) w := by kernel_rfl
theorem ptrs2 (g : Nat) (w : World) : (Instr.index 66 (.agg (ptrs g)) (.int .i64 2)).run Tryd.prog w = .ok (.pointer (some ⟨g, 3, none⟩)) w := by kernel_rfl
theorem ptrs3 (g : Nat) (w : World) : (Instr.index 66 (.agg (ptrs g)) (.int .i64 3)).run Tryd.prog w = .ok (.pointer (some ⟨g, 4, none⟩)) w := by kernel_rfl
theorem ptrs4 (g : Nat) (w : World) : (Instr.index 66 (.agg (ptrs g)) (.int .i64 4)).run Tryd.prog w = .ok (.pointer (some ⟨g, 5, none⟩)) w := by kernel_rfl
theorem ptrs5 (g : Nat) (w : World) : (Instr.index 66 (.agg (ptrs g)) (.int .i64 5)).run Tryd.prog w = .ok (.pointer (some ⟨g, 6, none⟩)) w := by kernel_rfl
theorem ptrs6 (g : Nat) (w : World) : (Instr.index 66 (.agg (ptrs g)) (.int .i64 6)).run Tryd.prog w = .ok (.pointer (some ⟨g, 7, none⟩)) w := by kernel_rfl
theorem ptrs7 (g : Nat) (w : World) : (Instr.index 66 (.agg (ptrs g)) (.int .i64 7)).run Tryd.prog w = .ok (.pointer (some ⟨g, 8, none⟩)) w := by kernel_rfl
theorem ptrs8 (g : Nat) (w : World) : (Instr.index 66 (.agg (ptrs g)) (.int .i64 8)).run Tryd.prog w = .ok (.pointer (some ⟨g, 9, none⟩)) w := by kernel_rfl
theorem ptrs9 (g : Nat) (w : World) : (Instr.index 66 (.agg (ptrs g)) (.int .i64 9)).run Tryd.prog w = .ok (.pointer (some ⟨g, 10, none⟩)) w := by kernel_rfl
theorem ptrs_index (g i : Nat) (h : i < 10) (w : World) : (Instr.index 66 (.agg (ptrs g)) (.int .i64 (i : Int))).run Tryd.prog w = .ok (.pointer (some ⟨g, i + 1, none⟩)) w := by
  rcases i with _ | _ | _ | _ | _ | _ | _ | _ | _ | _ | i
  · exact ptrs0 g w
  · exact ptrs1 g w
  · exact ptrs2 g w
  · exact ptrs3 g w
  · exact ptrs4 g w
  · exact ptrs5 g w
  · exact ptrs6 g w
  · exact ptrs7 g w
  · exact ptrs8 g w
  · exact ptrs9 g w
  · omega
/-- A line at a place. -/
def RLn (w : World) (g o : Nat) (l : Ln) : Prop := w.cell? ⟨g, o, none⟩ = some (.int .i64 l.k) ∧ w.cell? ⟨g, o + 1, none⟩ = some (.int .i64 l.g) ∧ w.cell? ⟨g, o + 2, none⟩ = some (.int .i64 l.a) ∧ w.cell? ⟨g, o + 3, none⟩ = some (.int .i64 l.b) ∧ w.cell? ⟨g, o + 4, none⟩ = some (.int .i64 l.c)
theorem RLn.below {w w' : World} (hb : Below w.heap.size w w') {g o : Nat} {l : Ln} (h : RLn w g o l) : RLn w' g o l := ⟨below_cell hb h.1, below_cell hb h.2.1, below_cell hb h.2.2.1, below_cell hb h.2.2.2.1, below_cell hb h.2.2.2.2⟩
/-- A line's cells. -/
def lnc (l : Ln) : Array Value := #[.int .i64 l.k, .int .i64 l.g, .int .i64 l.a, .int .i64 l.b, .int .i64 l.c]

theorem within_any (n m : Int) (r : Bool) (hr : r = decide (1 ≤ n ∧ n ≤ m)) (w : World) : Calls Tryd.prog 33 #[.int .i64 n, .int .i64 m] w fun e w' => e = .returned (.bool r) ∧ w = w' := by
  subst hr
  go_enter Tryd.func33, Tryd.ntmps33
  by_cases h : 1 ≤ n
  · have q0 : decide (1 ≤ n) = true := decide_eq_true h
    have e : decide (1 ≤ n ∧ n ≤ m) = decide (n ≤ m) := by simp [h]
    rw [e]
    clear e h
    go_wp2
    go_ret
    exact ⟨rfl, rfl⟩
  · have q0 : decide (1 ≤ n) = false := decide_eq_false h
    have e : decide (1 ≤ n ∧ n ≤ m) = false := by simp; omega
    rw [e]
    clear e h
    go_wp2
    go_ret
    exact ⟨rfl, rfl⟩

set_option maxHeartbeats 2000000 in
theorem times_any (g : Nat) (w : World) : Calls Tryd.prog 34 #[.pointer (some ⟨g, 1, none⟩)] w fun e w' => e = .returned (.agg (ptrs g)) ∧ Below w.heap.size w w' := by
  go_enter Tryd.func34, Tryd.ntmps34
  go_wp2_with fail
  go_big_region
  go_wp2_with fail
  refine bodyPost_ret (v := .agg (ptrs g)) ?_ rfl ⟨rfl, below_call (below_alloc (Below.refl _ w) _) (bel_drew _)⟩
  rw [results_cell1 rfl]
  go_simp
  rfl

/-- One of a line's speeds. -/
def spd (l : Ln) (j : Nat) : Int := if j = 0 then l.a else if j = 1 then l.b else l.c
theorem spd0 (a b c : Int) (w : World) : (Instr.index 32 (.agg #[.int .i64 a, .int .i64 b, .int .i64 c]) (.int .i64 0)).run Tryd.prog w = .ok (.int .i64 a) w := by kernel_rfl
theorem spd1 (a b c : Int) (w : World) : (Instr.index 32 (.agg #[.int .i64 a, .int .i64 b, .int .i64 c]) (.int .i64 1)).run Tryd.prog w = .ok (.int .i64 b) w := by kernel_rfl
theorem spd2 (a b c : Int) (w : World) : (Instr.index 32 (.agg #[.int .i64 a, .int .i64 b, .int .i64 c]) (.int .i64 2)).run Tryd.prog w = .ok (.int .i64 c) w := by kernel_rfl
theorem spd_index (l : Ln) (j : Nat) (h : j < 3) (w : World) : (Instr.index 32 (.agg #[.int .i64 l.a, .int .i64 l.b, .int .i64 l.c]) (.int .i64 (j : Int))).run Tryd.prog w = .ok (.int .i64 (spd l j)) w := by
  rcases j with _ | _ | _ | j
  · exact spd0 _ _ _ w
  · exact spd1 _ _ _ w
  · exact spd2 _ _ _ w
  · omega
theorem spd_at (l : Ln) (j : Nat) (h : j < 3) : (#[.int .i64 l.k, .int .i64 l.g, .int .i64 l.a, .int .i64 l.b, .int .i64 l.c] : Array Value)[2 + j]? = some (.int .i64 (spd l j)) := by
  match j, h with
  | 0, _ => rfl
  | 1, _ => rfl
  | 2, _ => rfl
  | n + 3, h => omega
theorem okL_iff (l : Ln) : OkL l ↔ (1 ≤ l.g ∧ l.g < l.k ∧ l.k ≤ 1000000) ∧ ∀ j, j < 3 → 1 ≤ spd l j ∧ spd l j ≤ 5000 := by
  constructor
  · intro h
    refine ⟨⟨h.1, h.2.1, h.2.2.1⟩, fun j hj => ?_⟩
    unfold spd
    obtain ⟨h1, h2, h3, h4, h5, h6, h7, h8, h9⟩ := h
    split
    · omega
    · split <;> omega
  · intro ⟨h, hs⟩
    have h0 := hs 0 (by omega)
    have h1 := hs 1 (by omega)
    have h2 := hs 2 (by omega)
    simp [spd] at h0 h1 h2
    exact ⟨h.1, h.2.1, h.2.2, h0.1, h0.2, h1.1, h1.2, h2.1, h2.2⟩

theorem checkLine_head (l : Ln) (hbad : ¬ (1 ≤ l.g ∧ l.g < l.k ∧ l.k ≤ 1000000)) (w : World) :
    Calls Tryd.prog 35 #[.agg #[.int .i64 l.k, .int .i64 l.g, .int .i64 l.a, .int .i64 l.b, .int .i64 l.c]] w fun e w' => ∃ r, e = .returned r ∧ ErrV w' r 6 ∧ Below w.heap.size w w' := by
  obtain ⟨k, g, a, b, c⟩ := l
  dsimp only at hbad ⊢
  have HB := Lib.hid (below_alloc (Below.refl _ w) (.cells #[.int .i64 k, .int .i64 g, .int .i64 a, .int .i64 b, .int .i64 c] 34))
  go_enter Tryd.func35, Tryd.ntmps35
  by_cases h1 : g < 1
  · have q1 : decide (g < 1) = true := decide_eq_true h1
    clear hbad h1
    go_wp2_with fail
    (with_reducible refine (new_form 6 (by decide) _ _).mono ?_)
    rintro e w1 ⟨x, hx, rfl, hc, hb⟩
    have HX := Lib.hid hc
    have HB1 := Lib.hid (below_call HB.out hb)
    clear hx hc hb
    go_wp2_with fail
    go_ret
    exact ⟨_, rfl, .inr ⟨x, by decide, rfl, HX.out⟩, HB1.out⟩
  · have q1 : decide (g < 1) = false := decide_eq_false h1
    by_cases h2 : k ≤ g
    · have q2 : decide (k ≤ g) = true := decide_eq_true h2
      clear hbad h1 h2
      go_wp2_with fail
      (with_reducible refine (new_form 6 (by decide) _ _).mono ?_)
      rintro e w1 ⟨x, hx, rfl, hc, hb⟩
      have HX := Lib.hid hc
      have HB1 := Lib.hid (below_call HB.out hb)
      clear hx hc hb
      go_wp2_with fail
      go_ret
      exact ⟨_, rfl, .inr ⟨x, by decide, rfl, HX.out⟩, HB1.out⟩
    · have q2 : decide (k ≤ g) = false := decide_eq_false h2
      have q3 : decide (1000000 < k) = true := decide_eq_true (by omega)
      clear hbad h1 h2
      go_wp2_with fail
      (with_reducible refine (new_form 6 (by decide) _ _).mono ?_)
      rintro e w1 ⟨x, hx, rfl, hc, hb⟩
      have HX := Lib.hid hc
      have HB1 := Lib.hid (below_call HB.out hb)
      clear hx hc hb
      go_wp2_with fail
      go_ret
      exact ⟨_, rfl, .inr ⟨x, by decide, rfl, HX.out⟩, HB1.out⟩

set_option maxHeartbeats 1000000 in
theorem checkLine_tail (l : Ln) (code : Int) (hcode : code = if OkL l then 0 else 6) (hh : 1 ≤ l.g ∧ l.g < l.k ∧ l.k ≤ 1000000) (w : World) :
    Calls Tryd.prog 35 #[.agg #[.int .i64 l.k, .int .i64 l.g, .int .i64 l.a, .int .i64 l.b, .int .i64 l.c]] w fun e w' => ∃ r, e = .returned r ∧ ErrV w' r code ∧ Below w.heap.size w w' := by
  have HCODE := Lib.hid hcode
  clear hcode
  have HO := Lib.hid (okL_iff l)
  have HH := Lib.hid hh
  obtain ⟨k, g, a, b, c⟩ := l
  dsimp only at hh ⊢
  obtain ⟨h1, h2, h3⟩ := hh
  have q1 : decide (g < 1) = false := decide_eq_false (by omega)
  have q2 : decide (k ≤ g) = false := decide_eq_false (by omega)
  have q3 : decide (1000000 < k) = false := decide_eq_false (by omega)
  have HB := Lib.hid (below_alloc (Below.refl _ w) (.cells #[.int .i64 k, .int .i64 g, .int .i64 a, .int .i64 b, .int .i64 c] 34))
  clear h1 h2 h3
  go_enter Tryd.func35, Tryd.ntmps35
  go_wp2_with fail
  go_loopw [23] (fun i wr => ∃ j : Nat, j ≤ 3 ∧ i = .int .i64 (j : Int) ∧ Hid (∀ m, m < j → 1 ≤ spd ⟨k, g, a, b, c⟩ m ∧ spd ⟨k, g, a, b, c⟩ m ≤ 5000) ∧ Hid (Below w.heap.size w wr)) (fun i _ => 3 - (intOf i).toNat)
  case atStart => exact ⟨0, by omega, rfl, Lib.hid (fun m hm => by omega), HB⟩
  case round =>
    obtain ⟨j, hj, rfl, HS, HBr⟩ := hrel
    clear HB
    by_cases hlt : j < 3
    · have hix := spd_index ⟨k, g, a, b, c⟩ j hlt
      obtain ⟨s, hs⟩ : ∃ s, s = spd ⟨k, g, a, b, c⟩ j := ⟨_, rfl⟩
      rw [← hs] at hix
      dsimp only at hix
      have HSJ := Lib.hid hs
      clear hs
      by_cases hok : 1 ≤ s ∧ s ≤ 5000
      · have HK := Lib.hid hok
        clear hok
        go_wp2_with fail
        (with_reducible refine (within_any s 5000 true (by have := HK.out; simp; omega) _).mono ?_)
        rintro e w1 ⟨rfl, rfl⟩
        go_wp2_with fail
        go_roundw
        case rel =>
          refine ⟨j + 1, by omega, by go_num, Lib.hid (fun m hm => ?_), HBr⟩
          by_cases hmj : m < j
          · exact HS.out m hmj
          · obtain rfl : m = j := by omega
            rw [← HSJ.out]; exact HK.out
        case measure => simp [intOf]; omega
      · have HK := Lib.hid hok
        clear hok
        go_wp2_with fail
        (with_reducible refine (within_any s 5000 false (by have := HK.out; simp; omega) _).mono ?_)
        rintro e w1 ⟨rfl, rfl⟩
        go_wp2_with fail
        (with_reducible refine (new_form 6 (by decide) _ _).mono ?_)
        rintro e w1 ⟨x, hx, rfl, hc, hb⟩
        have HX := Lib.hid hc
        have HB1 := Lib.hid (below_call HBr.out hb)
        clear hx hc hb
        go_wp2_with fail
        go_ret
        refine ⟨_, rfl, ?_, HB1.out⟩
        rw [HCODE.out, if_neg (fun h => HK.out (by have := (HO.out.1 h).2 j hlt; rw [← HSJ.out] at this; exact this))]
        exact .inr ⟨x, by decide, rfl, HX.out⟩
    · go_wp2_with fail
      go_ret
      refine ⟨_, rfl, ?_, HBr.out⟩
      obtain rfl : j = 3 := by omega
      rw [HCODE.out, if_pos (HO.out.2 ⟨HH.out, HS.out⟩)]
      exact .inl ⟨rfl, rfl⟩
theorem checkLine_any (l : Ln) (w : World) :
    Calls Tryd.prog 35 #[.agg #[.int .i64 l.k, .int .i64 l.g, .int .i64 l.a, .int .i64 l.b, .int .i64 l.c]] w fun e w' => ∃ r, e = .returned r ∧ ErrV w' r (if OkL l then 0 else 6) ∧ Below w.heap.size w w' := by
  by_cases hh : 1 ≤ l.g ∧ l.g < l.k ∧ l.k ≤ 1000000
  · exact checkLine_tail l _ rfl hh w
  · rw [if_neg (fun h => hh ((okL_iff l).1 h).1)]
    exact checkLine_head l hh w
end Go.Proofs.YtkagkfgnnhdofaaDoor
