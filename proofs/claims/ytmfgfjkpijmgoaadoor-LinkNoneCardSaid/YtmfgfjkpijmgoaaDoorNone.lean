/-
  The walk of crossbucklaw07.LinkNone: true, whatever it is given.
-/
import Derived.Test.YtmfgfjkpijmgoaaDoorSmall
import Derived.Test.YtmfgfjkpijmgoaaDoorAged
import Derived.Test.YtmfgfjkpijmgoaaDoorRlkC
namespace Go.Proofs.YtmfgfjkpijmgoaaDoor
open Go.RowKit



set_option maxHeartbeats 1000000 in
theorem none_out (fresh ch n : Int) (w : World) (hbad : n < 0 ∨ 500 < n) :
    Calls Tryd.prog 7 #[.int .i64 fresh, .int .i64 ch, .int .i64 n] w fun e w' => e = .returned (.bool true) ∧ Below w.heap.size w w' := by
  obtain ⟨F, hF⟩ := fresh_nat fresh
  have HF := Lib.hid hF
  have HBAD := Lib.hid hbad
  clear hF hbad
  go_enter Tryd.func7, Tryd.ntmps7
  go_wp2_with fail
  (with_reducible refine (small_true w).mono ?_)
  rintro e w1 ⟨rfl, hb⟩
  have HB := Lib.hid hb
  clear hb
  go_wp2_with fail
  (with_reducible refine (ln_new fresh F HF.out HB.out).mono ?_)
  rintro e w2 ⟨b, rfl, hl⟩
  have HL := Lib.hid hl
  clear hl
  by_cases c0 : n < 0
  · have q0 : decide (n < 0) = true := decide_eq_true c0
    clear c0
    go_wp2_with fail
    go_ret
    exact ⟨rfl, HL.out.bel⟩
  · have q0 : decide (n < 0) = false := decide_eq_false c0
    have q1 : decide (500 < n) = true := by have := HBAD.out; simp; omega
    clear c0
    go_wp2_with fail
    go_ret
    exact ⟨rfl, HL.out.bel⟩
set_option maxHeartbeats 2000000 in
theorem none_main (fresh ch : Int) (n : Nat) (w : World) (hn : n ≤ 500) :
    Calls Tryd.prog 7 #[.int .i64 fresh, .int .i64 ch, .int .i64 (n : Int)] w fun e w' => e = .returned (.bool true) ∧ Below w.heap.size w w' := by
  obtain ⟨F, hF⟩ := fresh_nat fresh
  have HF := Lib.hid hF
  have q0 : decide ((n : Int) < 0) = false := by simp
  have q1 : decide ((500 : Int) < (n : Int)) = false := by simp; omega
  clear hF
  go_enter Tryd.func7, Tryd.ntmps7
  go_wp2_with fail
  (with_reducible refine (small_true w).mono ?_)
  rintro e w1 ⟨rfl, hb⟩
  have HB := Lib.hid hb
  clear hb
  go_wp2_with fail
  (with_reducible refine (ln_new fresh F HF.out HB.out).mono ?_)
  rintro e w2 ⟨b, rfl, hl⟩
  have HL := Lib.hid hl
  clear hl
  go_wp2_with fail
  go_loopw [9] (fun u9 wr => ∃ i : Nat, i ≤ n ∧ u9 = .int .i64 (i : Int) ∧ Hid (Ln w wr b F (fun _ => noCh))) (fun u9 _ => n - (intOf u9).toNat)
  case atStart => exact ⟨0, by omega, rfl, HL⟩
  case round =>
    obtain ⟨i, hi, rfl, HLr⟩ := hrel
    clear HL
    by_cases hlt : i < n
    · have hlz : (i : Int) < (n : Int) := by omega
      go_wp2_with fail
      (with_reducible refine (ln_tick HLr.out).mono ?_)
      rintro e w3 ⟨rfl, hl, _⟩
      rw [older_none] at hl
      have HL3 := Lib.hid hl
      clear hl HLr
      go_wp2_with fail
      go_roundw
      case rel => exact ⟨i + 1, by omega, by go_num, HL3⟩
      case measure => simp [intOf]; omega
    · have hge : (n : Int) ≤ (i : Int) := by omega
      have HP := Lib.hid (show noCh = peek (fun _ => noCh) ch by unfold peek; split <;> rfl)
      go_wp2_with fail
      (with_reducible refine (ln_fresh HLr.out ch noCh HP.out false rfl).mono ?_)
      rintro e w3 ⟨r3, rfl, ho, hl, _⟩
      obtain ⟨a3, c3, er⟩ := ho.byts.len
      have HL3 := Lib.hid hl
      clear ho hl HLr
      subst er
      rw [show noCh.xs.length = 0 from rfl]
      go_wp2_with fail
      (with_reducible refine (ln_at HL3.out ch noCh HP.out).mono ?_)
      rintro e w4 ⟨r4, rfl, ho, hl, _⟩
      have HL4 := Lib.hid hl
      have HO4 := Lib.hid ho.byts
      clear ho hl HL3
      rw [show noCh.had = false from rfl, show noCh.seq = 0 from rfl, show ((noCh.age : Nat) : Int) = 0 from rfl]
      go_wp2_with fail
      (with_reducible refine (rsame_yes false 0 0 _ _ noCh.xs _ HO4.out (byts_nil _)).mono ?_)
      rintro e w5 ⟨rfl, hb⟩
      have HL5 := Lib.hid (HL4.out.still hb)
      clear hb HL4 HO4
      by_cases hc : 0 ≤ ch ∧ ch ≤ 15
      · obtain ⟨c0, c1⟩ := hc
        have s0 : decide (0 ≤ ch) = true := decide_eq_true c0
        have s1 : decide (ch ≤ 15) = true := decide_eq_true c1
        have HT := Lib.hid (show tcode F (fun _ => noCh) ch 0 ([] : List (BitVec 8)).length = 0 by
          unfold tcode
          rw [if_neg (by simp only [Decidable.not_not]; exact ⟨c0, c1, by simp, by simp, by simp⟩), if_neg (by rw [show isF F noCh = false from rfl]; simp)])
        clear c0 c1
        go_wp2_with fail
        (with_reducible refine (ln_take HL5.out ch 0 _ [] (byts_nil _)).mono ?_)
        rintro e w6 ⟨e6, rfl, he, hl, _⟩
        rw [HT.out] at he
        have HE := he.nil
        have HL6 := Lib.hid hl.bel
        subst HE
        clear he hl
        go_wp2_with fail
        go_ret
        exact ⟨rfl, HL6.out⟩
      · have HT := Lib.hid (show tcode F (fun _ => noCh) ch 0 ([] : List (BitVec 8)).length = 1 by
          unfold tcode
          rw [if_pos (fun h => hc ⟨h.1, h.2.1⟩)])
        have HCC := Lib.hid hc
        clear hc
        go_wp2_with fail
        (with_reducible refine (ln_take HL5.out ch 0 _ [] (byts_nil _)).mono ?_)
        rintro e w6 ⟨e6, rfl, he, hl, _⟩
        rw [HT.out] at he
        obtain ⟨g6, rfl, _⟩ := he.not (by decide)
        have HL6 := Lib.hid hl.bel
        clear he hl
        by_cases c0 : 0 ≤ ch
        · have s0 : decide (0 ≤ ch) = true := decide_eq_true c0
          have s1 : decide (ch ≤ 15) = false := decide_eq_false fun c1 => HCC.out ⟨c0, c1⟩
          clear c0
          go_wp2_with fail
          go_ret
          exact ⟨rfl, HL6.out⟩
        · have s0 : decide (0 ≤ ch) = false := decide_eq_false c0
          clear c0
          go_wp2_with fail
          go_ret
          exact ⟨rfl, HL6.out⟩
theorem none_any (fresh ch n : Int) (w : World) :
    Calls Tryd.prog 7 #[.int .i64 fresh, .int .i64 ch, .int .i64 n] w fun e w' => e = .returned (.bool true) ∧ Below w.heap.size w w' := by
  by_cases h : n < 0 ∨ 500 < n
  · exact none_out fresh ch n w h
  · obtain ⟨k, rfl⟩ : ∃ k : Nat, n = (k : Int) := ⟨n.toNat, by omega⟩
    exact none_main fresh ch k w (by omega)
end Go.Proofs.YtmfgfjkpijmgoaaDoor
