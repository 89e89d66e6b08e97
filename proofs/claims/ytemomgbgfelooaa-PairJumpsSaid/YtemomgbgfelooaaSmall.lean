/-
  The walk of crossbucklaw10.small: true.
-/
import Derived.Test.YtemomgbgfelooaaPrRest
import Derived.Test.YtemomgbgfelooaaPrEq
import Derived.StillTailTactics
namespace Go.Proofs.Ytemomgbgfelooaa
open Go.RowKit

abbrev on4 : Array Value := #[.int .i64 1, .int .i64 3, .int .i64 2, .int .i64 0]
theorem on4_at (k : Nat) (h : k < 4) : on4[k]? = some (.int .i64 (ron (k + 1))) := by
  match k, h with
  | 0, _ => rfl
  | 1, _ => rfl
  | 2, _ => rfl
  | 3, _ => rfl
  | n + 4, h => omega
set_option maxHeartbeats 4000000 in
theorem small_true (w : World) : Calls Try.prog 9 #[] w fun e w' => e = .returned (.bool true) ∧ Below w.heap.size w w' := by
  have h1 := blk_new w #[.int .i64 0, .int .i64 0, .bool false] 23
  have k1 := below_alloc (Below.refl _ (w.alloc (.cells #[.int .i64 0, .int .i64 0, .bool false] 23))) (.cells on4 3)
  have h2 := blk_new (w.alloc (.cells #[.int .i64 0, .int .i64 0, .bool false] 23)) on4 3
  rw [show (w.alloc (.cells #[.int .i64 0, .int .i64 0, .bool false] 23)).heap.size = w.heap.size + 1 by simp] at h2
  have HB0 := Lib.hid (below_alloc (below_alloc (Below.refl _ w) (.cells #[.int .i64 0, .int .i64 0, .bool false] 23)) (.cells on4 3))
  have HP0 := Lib.hid (h1.below k1)
  have HL0 := Lib.hid h2
  clear h1 k1 h2
  go_enter Try.func9, Try.ntmps9
  go_wp2_with fail
  go_loopw [3] (fun i wr => ∃ k : Nat, k ≤ 4 ∧ i = .int .i64 (k : Int) ∧ Hid (Below w.heap.size w wr) ∧ Hid (Blk wr w.heap.size #[.int .i64 (ron k), .int .i64 (k : Int), .bool false] 23) ∧ Hid (Blk wr (w.heap.size + 1) on4 3)) (fun i _ => 4 - (intOf i).toNat)
  case atStart => exact ⟨0, by omega, rfl, HB0, HP0, HL0⟩
  case round =>
    obtain ⟨k, hk, rfl, HB, HP, HL⟩ := hrel
    clear HB0 HP0 HL0
    by_cases hlt : k < 4
    · have HPd := Lib.hid (HP.out.below (bel_drew wr))
      have HLd := Lib.hid (HL.out.below (bel_drew wr))
      have HBd := Lib.hid (below_call HB.out (bel_drew wr))
      have hltI : (k : Int) < 4 := by omega
      have HS := Lib.hid (step_to _ _ _ _ _ _ _ (stp_on k (s := (k : Int)) false (by omega)) ⟨by omega, by omega⟩)
      have c3 := HL.out.cell k (on4_at k hlt)
      obtain ⟨c0, c1, c2⟩ := HP.out.three
      go_wp2_with fail
      go_still_tail 5, (by kernel_rfl)
      change wpList _ _ _ _ _ wr.drew
      generalize wr.drew = w2 at *
      clear c0 c1 c2 c3 HP HL HB
      go_wp2_with fail
      (with_reducible refine (HS.out _).mono ?_)
      rintro e w3 ⟨rfl, hb⟩
      have HB3 := Lib.hid (below_call HBd.out hb)
      have HP3 := Lib.hid (HPd.out.below hb)
      have HL3 := Lib.hid (HLd.out.below hb)
      obtain ⟨c0, c1, c2⟩ := HP3.out.three
      obtain ⟨f0, f1, f2, _⟩ := HP3.out.frz4
      clear hb HBd HPd HLd HS
      go_wp2_with fail
      go_roundw
      case rel => exact ⟨k + 1, by omega, by go_num, Lib.hid (bel_put3 HB3.out (Nat.le_refl _) _ _ _), Lib.hid (HP3.out.put3 _ _ _), Lib.hid (HL3.out.far3 (by omega) _ _ _)⟩
      case measure => simp [intOf]; omega
    · have HK := Lib.hid (show k = 4 by omega)
      have HP4 := Lib.hid (show Blk wr w.heap.size #[.int .i64 0, .int .i64 4, .bool false] 23 by have := HP.out; rw [HK.out] at this; exact this)
      have hltI : ¬ (k : Int) < 4 := by omega
      obtain ⟨c0, c1, c2⟩ := HP4.out.three
      clear HP HL hlt
      go_wp2_with fail
      (with_reducible refine (step_to 0 4 false 2 2 3 false rfl (by omega) _).mono ?_)
      rintro e w3 ⟨rfl, hb⟩
      have HB3 := Lib.hid (below_alloc (below_call HB.out hb) (.cells #[.int .i64 2, .int .i64 3, .bool false] 23))
      have HQ3 := Lib.hid (blk_new w3 #[.int .i64 2, .int .i64 3, .bool false] 23)
      have HP3 := Lib.hid ((HP4.out.below hb).below (below_alloc (Below.refl _ w3) (.cells #[.int .i64 2, .int .i64 3, .bool false] 23)))
      clear hb HB HP4 c0 c1 c2
      obtain ⟨c0, c1, c2⟩ := HP3.out.three
      go_wp2_with fail
      (with_reducible refine (step_to 0 4 false 3 3 4 true rfl (by omega) _).mono ?_)
      rintro e w4 ⟨rfl, hb⟩
      have HB4 := Lib.hid (below_alloc (below_call HB3.out hb) (.cells #[.int .i64 3, .int .i64 4, .bool true] 23))
      have HJ4 := Lib.hid (blk_new w4 #[.int .i64 3, .int .i64 4, .bool true] 23)
      have HP4 := Lib.hid ((HP3.out.below hb).below (below_alloc (Below.refl _ w4) (.cells #[.int .i64 3, .int .i64 4, .bool true] 23)))
      have HQ4 := Lib.hid ((HQ3.out.below hb).below (below_alloc (Below.refl _ w4) (.cells #[.int .i64 3, .int .i64 4, .bool true] 23)))
      clear hb HB3 HP3 HQ3 c0 c1 c2
      obtain ⟨c0, c1, c2⟩ := HP4.out.three
      have q1 := eql_same 0 4 false
      have q2 := eql_same 2 3 false
      have q3 := eql_same 3 4 true
      go_wp2_with fail
      (with_reducible refine (axles_to 0 4 false 1 rfl _).mono ?_)
      rintro e w5 ⟨rfl, hb⟩
      have HB5 := Lib.hid (below_call HB4.out hb)
      have HP5 := Lib.hid (HP4.out.below hb)
      have HQ5 := Lib.hid (HQ4.out.below hb)
      have HJ5 := Lib.hid (HJ4.out.below hb)
      clear hb HB4 HP4 HQ4 HJ4 c0 c1 c2
      obtain ⟨c0, c1, c2⟩ := HP5.out.three
      go_wp2_with fail
      (with_reducible refine (rest_to 0 4 false true rfl _).mono ?_)
      rintro e w6 ⟨rfl, hb⟩
      have HB6 := Lib.hid (below_call HB5.out hb)
      have HP6 := Lib.hid (HP5.out.below hb)
      have HQ6 := Lib.hid (HQ5.out.below hb)
      have HJ6 := Lib.hid (HJ5.out.below hb)
      clear hb HB5 HP5 HQ5 HJ5 c0 c1 c2
      obtain ⟨c0, c1, c2⟩ := HQ6.out.three
      go_wp2_with fail
      (with_reducible refine (axles_to 2 3 false 0 rfl _).mono ?_)
      rintro e w7 ⟨rfl, hb⟩
      have HB7 := Lib.hid (below_call HB6.out hb)
      have HP7 := Lib.hid (HP6.out.below hb)
      have HQ7 := Lib.hid (HQ6.out.below hb)
      have HJ7 := Lib.hid (HJ6.out.below hb)
      clear hb HB6 HP6 HQ6 HJ6 c0 c1 c2
      obtain ⟨c0, c1, c2⟩ := HQ7.out.three
      go_wp2_with fail
      (with_reducible refine (axles_to 0 (-1) false (-1) rfl _).mono ?_)
      rintro e w8 ⟨rfl, hb⟩
      have HB8 := Lib.hid (below_call HB7.out hb)
      have HP8 := Lib.hid (HP7.out.below hb)
      have HQ8 := Lib.hid (HQ7.out.below hb)
      have HJ8 := Lib.hid (HJ7.out.below hb)
      clear hb HB7 HP7 HQ7 HJ7 c0 c1 c2
      obtain ⟨c0, c1, c2⟩ := HJ8.out.three
      obtain ⟨d0, d1, d2⟩ := HQ8.out.three
      go_wp2_with fail
      (with_reducible refine (rest_to 2 3 false false rfl _).mono ?_)
      rintro e w9 ⟨rfl, hb⟩
      have HB9 := Lib.hid (below_call HB8.out hb)
      have HP9 := Lib.hid (HP8.out.below hb)
      have HQ9 := Lib.hid (HQ8.out.below hb)
      have HJ9 := Lib.hid (HJ8.out.below hb)
      clear hb HB8 HP8 HQ8 HJ8 c0 c1 c2 d0 d1 d2
      obtain ⟨c0, c1, c2⟩ := HJ9.out.three
      go_wp2_with fail
      (with_reducible refine (step_to 3 4 true 2 2 5 true rfl (by omega) _).mono ?_)
      rintro e w10 ⟨rfl, hb⟩
      have HB10 := Lib.hid (below_call HB9.out hb)
      have HP10 := Lib.hid (HP9.out.below hb)
      have HQ10 := Lib.hid (HQ9.out.below hb)
      have HJ10 := Lib.hid (HJ9.out.below hb)
      clear hb HB9 HP9 HQ9 HJ9 c0 c1 c2
      obtain ⟨c0, c1, c2⟩ := HJ10.out.three
      go_wp2_with fail
      (with_reducible refine (step_to 2 5 true 0 0 6 true rfl (by omega) _).mono ?_)
      rintro e w11 ⟨rfl, hb⟩
      have HB11 := Lib.hid (below_call HB10.out hb)
      have HP11 := Lib.hid (HP10.out.below hb)
      have HQ11 := Lib.hid (HQ10.out.below hb)
      have HJ11 := Lib.hid (HJ10.out.below hb)
      clear hb HB10 HP10 HQ10 HJ10 c0 c1 c2
      obtain ⟨c0, c1, c2⟩ := HJ11.out.three
      go_wp2_with fail
      (with_reducible refine (rest_to 0 6 true false rfl _).mono ?_)
      rintro e w12 ⟨rfl, hb⟩
      have HB12 := Lib.hid (below_call HB11.out hb)
      have HP12 := Lib.hid (HP11.out.below hb)
      have HQ12 := Lib.hid (HQ11.out.below hb)
      have HJ12 := Lib.hid (HJ11.out.below hb)
      clear hb HB11 HP11 HQ11 HJ11 c0 c1 c2
      obtain ⟨c0, c1, c2⟩ := HJ12.out.three
      go_wp2_with fail
      go_ret
      exact ⟨rfl, HB12.out⟩
end Go.Proofs.Ytemomgbgfelooaa
