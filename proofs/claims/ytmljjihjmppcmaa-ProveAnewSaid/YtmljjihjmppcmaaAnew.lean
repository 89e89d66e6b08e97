/-
  The walk of crossbucklaw18.ProveAnew: true, whatever it is given.
-/
import Derived.Test.YtmljjihjmppcmaaSmall
namespace Go.Proofs.Ytmljjihjmppcmaa
open Go.RowKit

set_option maxHeartbeats 1000000 in
set_option maxRecDepth 10000 in
theorem anew_out (x : Int) (a b c d : Bool) (n l : Int) (w : World) (h : ¬ ((a && c) = false ∧ 0 ≤ n ∧ n ≤ 300 ∧ 1 ≤ l)) : Calls Try.prog 5 #[.int .i64 x, .agg #[.bool a, .bool b, .bool c, .bool d], .int .i64 n, .int .i64 l] w fun e w' => e = .returned (.bool true) ∧ Below w.heap.size w w' := by
  have HB0 := Lib.hid (below_alloc (Below.refl _ w) (.cells #[.bool a, .bool b, .bool c, .bool d] 23))
  have HX0 := Lib.hid (box4b w a b c d)
  have hcs : (a = true ∧ c = true) ∨ (a = false ∧ n < 0) ∨ (a = true ∧ c = false ∧ n < 0) ∨ (a = false ∧ ¬ n < 0 ∧ 300 < n) ∨ (a = true ∧ c = false ∧ ¬ n < 0 ∧ 300 < n) ∨ (a = false ∧ ¬ n < 0 ∧ ¬ 300 < n ∧ l < 1) ∨ (a = true ∧ c = false ∧ ¬ n < 0 ∧ ¬ 300 < n ∧ l < 1) := by
    cases a <;> cases c <;> simp at h ⊢ <;> omega
  clear h
  rcases hcs with ⟨rfl, rfl⟩ | ⟨rfl, h1⟩ | ⟨rfl, rfl, h1⟩ | ⟨rfl, h1, h2⟩ | ⟨rfl, rfl, h1, h2⟩ | ⟨rfl, h1, h2, h3⟩ | ⟨rfl, rfl, h1, h2, h3⟩
  all_goals
    go_enter Try.func5, Try.ntmps5
    go_wp2_with fail
    (with_reducible refine (small_true _).mono ?_)
    rintro e w1 ⟨rfl, hb⟩
    have HB := Lib.hid (below_call HB0.out hb)
    obtain ⟨c0, c1, c2, c3⟩ := (HX0.out.below hb).four
    clear hb HB0 HX0
    go_wp2_with fail
    go_ret
    exact ⟨rfl, HB.out⟩
set_option maxHeartbeats 4000000 in
set_option maxRecDepth 10000 in
theorem anew_main (x : Int) (a b c d : Bool) (n L : Nat) (w : World) (h : (a && c) = false) (hn : n ≤ 300) (h1 : 1 ≤ L) (hl : (L : Int) ≤ 9223372036854775807) : Calls Try.prog 5 #[.int .i64 x, .agg #[.bool a, .bool b, .bool c, .bool d], .int .i64 (n : Int), .int .i64 (L : Int)] w fun e w' => e = .returned (.bool true) ∧ Below w.heap.size w w' := by
  have HB0 := Lib.hid (below_alloc (Below.refl _ w) (.cells #[.bool a, .bool b, .bool c, .bool d] 23))
  have HX0 := Lib.hid (box4b w a b c d)
  have H1 := Lib.hid (step_to x a b c d (L : Int) 0 (by rw [h, pvs_no]) hl)
  have H2 := Lib.hid (proved_to 0 (L : Int) false (by simp) )
  have H3 := Lib.hid (fun k : Nat => step_to ((pcap k L : Nat) : Int) true false true false (L : Int) ((pcap (k + 1) L : Nat) : Int) (by
    have := pvs_run (fun _ => true) k L h1
    have e : ∀ k, prun (fun _ => true) k = k := fun k => by
      induction k with
      | zero => rfl
      | succ k ih => simp [prun, ih]
    rw [e, e] at this
    exact this) hl)
  have p0 : ¬ (n : Int) < 0 := by omega
  have p1 : ¬ 300 < (n : Int) := by omega
  have p2 : ¬ (L : Int) < 1 := by omega
  have HL := Lib.hid h1
  have hcs : (a = false) ∨ (a = true ∧ c = false) := by cases a <;> cases c <;> simp_all
  clear h h1 hn hl
  rcases hcs with rfl | ⟨rfl, rfl⟩
  all_goals
    go_enter Try.func5, Try.ntmps5
    go_wp2_with fail
    (with_reducible refine (small_true _).mono ?_)
    rintro e w1 ⟨rfl, hb⟩
    have HB := Lib.hid (below_call HB0.out hb)
    obtain ⟨c0, c1, c2, c3⟩ := (HX0.out.below hb).four
    clear hb HB0 HX0
    go_wp2_with fail
    (with_reducible refine (H1.out _).mono ?_)
    rintro e w2 ⟨rfl, hb⟩
    replace HB := Lib.hid (below_call HB.out hb)
    clear hb c0 c1 c2 c3
    go_wp2_with fail
    (with_reducible refine (H2.out _).mono ?_)
    rintro e w3 ⟨rfl, rfl⟩
    go_wp2_with fail
    go_loopw [10, 11] (fun y z wr => ∃ k : Nat, k ≤ n ∧ y = .int .i64 ((pcap k L : Nat) : Int) ∧ z = .int .i64 (k : Int) ∧ Hid (Below w.heap.size w wr)) (fun _ z _ => n - (intOf z).toNat)
    case atStart => exact ⟨0, by omega, rfl, rfl, HB⟩
    case round =>
      obtain ⟨k, hk, rfl, rfl, HB2⟩ := hrel
      clear HB
      by_cases hlt : k < n
      · have hltI : (k : Int) < (n : Int) := by omega
        have H4 := Lib.hid (H3.out k)
        go_wp2_with fail
        (with_reducible refine (H4.out _).mono ?_)
        rintro e w4 ⟨rfl, hb⟩
        replace HB2 := Lib.hid (below_call HB2.out hb)
        clear hb
        go_wp2_with fail
        go_roundw
        case rel => exact ⟨k + 1, by omega, rfl, by go_num, HB2⟩
        case measure => simp [intOf]; omega
      · have hltI : ¬ (k : Int) < (n : Int) := by omega
        clear p0 p1 p2
        obtain ⟨q, hq⟩ : ∃ q : Nat, q = pcap k L := ⟨_, rfl⟩
        rw [← hq]
        have hcs2 : (n < L ∧ q = n) ∨ (L ≤ n ∧ q = L) := by
          unfold pcap at hq
          by_cases hh : k ≤ L
          · rw [if_pos hh] at hq; omega
          · rw [if_neg hh] at hq; omega
        clear hq hlt hk
        rcases hcs2 with ⟨g, rfl⟩ | ⟨g, rfl⟩
        · have g1 : (q : Int) ≤ (L : Int) := by omega
          have g2 : ¬ (L : Int) ≤ (q : Int) := by omega
          have g4 : ¬ L ≤ q := by omega
          have g3 : ((q : Int) == (q : Int)) = true := by simp
          have H5 := Lib.hid (proved_to (q : Int) (L : Int) false (by simp; omega))
          clear g
          go_wp2_with fail
          (with_reducible refine (H5.out _).mono ?_)
          rintro e w4 ⟨rfl, rfl⟩
          go_wp2_with fail
          go_ret
          exact ⟨by simp, HB2.out⟩
        · have g3 : ((q : Int) == (q : Int)) = true := by simp
          have H5 := Lib.hid (proved_to (q : Int) (q : Int) true (by have := HL.out; simp; omega))
          rcases (show q = n ∨ q < n by omega) with g4 | g4
          · have g1 : (n : Int) ≤ (q : Int) := by omega
            have g2 : (q : Int) ≤ (n : Int) := by omega
            have g5 : ((q : Int) == (n : Int)) = true := by simp [g4]
            clear g g4
            go_wp2_with fail
            (with_reducible refine (H5.out _).mono ?_)
            rintro e w4 ⟨rfl, rfl⟩
            go_wp2_with fail
            go_ret
            exact ⟨rfl, HB2.out⟩
          · have g1 : ¬ (n : Int) ≤ (q : Int) := by omega
            have g2 : (q : Int) ≤ (n : Int) := by omega
            have g5 : (q : Int) < (n : Int) := by omega
            clear g g4
            go_wp2_with fail
            (with_reducible refine (H5.out _).mono ?_)
            rintro e w4 ⟨rfl, rfl⟩
            go_wp2_with fail
            go_ret
            exact ⟨rfl, HB2.out⟩
theorem anew_any (x : Int) (a b c d : Bool) (n l : Int) (w : World) (hl : l ≤ 9223372036854775807) : Calls Try.prog 5 #[.int .i64 x, .agg #[.bool a, .bool b, .bool c, .bool d], .int .i64 n, .int .i64 l] w fun e w' => e = .returned (.bool true) ∧ Below w.heap.size w w' := by
  by_cases h : (a && c) = false ∧ 0 ≤ n ∧ n ≤ 300 ∧ 1 ≤ l
  · obtain ⟨h0, h1, h2, h3⟩ := h
    obtain ⟨k, rfl⟩ : ∃ k : Nat, n = (k : Int) := ⟨n.toNat, by omega⟩
    obtain ⟨m, rfl⟩ : ∃ m : Nat, l = (m : Int) := ⟨l.toNat, by omega⟩
    exact anew_main x a b c d k m w h0 (by omega) (by omega) hl
  · exact anew_out x a b c d n l w h
end Go.Proofs.Ytmljjihjmppcmaa
