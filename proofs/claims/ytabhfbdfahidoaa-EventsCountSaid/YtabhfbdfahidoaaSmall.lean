/-
  The small case of every law of layer 24: true.
-/
import Derived.Test.YtabhfbdfahidoaaLogs
namespace Go.Proofs.Ytabhfbdfahidoaa
open Go.RowKit

theorem els_ev2 {w : World} {g : Nat} {T : TypeId} {a b c d e f : Int} (h : Blk w g #[.int .u64 a, .int .i64 b, .int .i64 c, .int .u64 d, .int .i64 e, .int .i64 f] T) (cp : Nat) : Els REv 3 w (.slice (some ⟨g, 0, none⟩) 2 cp) [⟨a, b, c⟩, ⟨d, e, f⟩] := by
  refine ⟨_, cp, rfl, fun j y hy => ⟨g, 0, rfl, ?_⟩⟩
  match j, hy with
  | 0, hy => simp at hy; subst hy; exact ⟨h.cell 0 rfl, h.cell 1 rfl, h.cell 2 rfl⟩
  | 1, hy => simp at hy; subst hy; exact ⟨h.cell 3 rfl, h.cell 4 rfl, h.cell 5 rfl⟩
  | j + 2, hy => simp at hy
set_option maxHeartbeats 4000000 in
theorem small_true (w : World) : Calls Try.prog 7 #[] w fun e w' => e = .returned (.bool true) ∧ Below w.heap.size w w' := by
  have HNEW := Lib.hid (evnew_to 2 2 (by omega) w)
  go_enter Try.func7, Try.ntmps7
  go_wp2_with fail
  (with_reducible refine HNEW.out.mono ?_)
  rintro e w1 ⟨rfl, hw⟩
  have H1 : Hid (Lg1 w w1 w.heap.size 2 []) := Lib.hid (by rw [hw]; exact lg1_new w 2 (by decide) (by decide) (Below.refl _ w))
  clear hw HNEW
  obtain ⟨b, hb⟩ : ∃ b, b = w.heap.size := ⟨_, rfl⟩
  rw [← hb] at H1
  rw [← hb]
  clear hb
  go_wp2_with fail
  (with_reducible refine (lg1_add H1.out (by decide) ⟨1, 1, 5⟩).mono ?_)
  rintro e w2 ⟨rfl, h⟩
  have H2 := Lib.hid h
  clear h H1
  go_wp2_with fail
  (with_reducible refine (lg1_add H2.out (by decide) ⟨2, 0, 0⟩).mono ?_)
  rintro e w3 ⟨rfl, h⟩
  have H3 := Lib.hid h
  clear h H2
  go_wp2_with fail
  (with_reducible refine (lg1_add H3.out (by decide) ⟨3, 0, 0⟩).mono ?_)
  rintro e w4 ⟨rfl, h⟩
  have H4 := Lib.hid h
  clear h H3
  go_wp2_with fail
  (with_reducible refine (lg1_all H4.out (by decide)).mono ?_)
  rintro e w5 ⟨v5, rfl, ho, hb5⟩
  have HO5 : Hid (Els REv 3 w5 v5 [⟨2, 0, 0⟩, ⟨3, 0, 0⟩]) := Lib.hid ho.els
  have H5 := Lib.hid (H4.out.keep hb5)
  have HA := Lib.hid (below_alloc (Below.refl _ w5) (.cells #[.int .u64 2, .int .i64 0, .int .i64 0, .int .u64 3, .int .i64 0, .int .i64 0] 31))
  have HS := Lib.hid (evsame_to v5 _ [⟨2, 0, 0⟩, ⟨3, 0, 0⟩] _ (HO5.out.below fun g o y h => h.below HA.out) (els_ev2 (blk_new w5 #[.int .u64 2, .int .i64 0, .int .i64 0, .int .u64 3, .int .i64 0, .int .i64 0] 31) 2) (by decide))
  clear ho hb5 H4
  go_wp2_with fail
  (with_reducible refine HS.out.mono ?_)
  rintro e w6 ⟨rfl, hb6⟩
  have H6 := Lib.hid ((H5.out.keep HA.out).keep hb6)
  clear hb6 HS HA H5 HO5
  go_wp2_with fail
  (with_reducible refine (lg1_lost H6.out).mono ?_)
  rintro e w7 ⟨rfl, rfl⟩
  go_wp2_with fail
  go_ret
  exact ⟨rfl, H6.out.2⟩
end Go.Proofs.Ytabhfbdfahidoaa
