/-
  crossbucklaw01.small: true.
-/
import Derived.Test.YteggehjbkbfdfaaDoorMadeNil
namespace Go.Proofs.YteggehjbkbfdfaaDoor
open Go.RowKit Go.Extern.Stop Go.Stop Go.Extern

theorem isBase_num (n : Int) : IsBase (.iface 24 (.int .i64 n)) := Or.inl ⟨n, rfl⟩
theorem isBase_plain (q : Addr) : IsBase (.iface 65 (.pointer (some q))) := Or.inr ⟨q, rfl⟩

theorem path_base (v : Value) (w : World) (hv : IsBase v) : Calls Tryd.prog 12 #[v] w fun e w' => e = .returned (.slice none 0 0) ∧ w = w' := by
  have a1 := hv.no
  clear hv
  go_enter Tryd.func12, Tryd.ntmps12
  go_wp2
  refine wp_loop_rounds 1 ?_
  rw [rounds_succ]
  go_wp2
  go_ret
  exact ⟨rfl, rfl⟩

def sLink : ByteArray := ⟨#[108, 105, 110, 107]⟩
def sFrame : ByteArray := ⟨#[102, 114, 97, 109, 101]⟩

theorem small_text_eq : chainText [⟨#[108, 105, 110, 107]⟩, ⟨#[102, 114, 97, 109, 101]⟩] (numText 3) = ⟨#[108, 105, 110, 107, 58, 32, 102, 114, 97, 109, 101, 58, 32, 101, 114, 114, 111, 114, 32, 51]⟩ := by
  have h : Lib.itoa 3 = [51] := by
    unfold Lib.itoa
    rw [if_neg (by omega), Lib.decDigits, dif_pos (by decide)]
    rfl
  unfold chainText numText
  rw [h]
  rfl

/-- The world behind the first two calls. -/
def smallO1 : Obj := .cells #[.string ⟨#[102, 114, 97, 109, 101]⟩, .int .i64 3, .iface 24 (.int .i64 3)] 48
def smallO2 (w : World) : Obj := .cells #[.string ⟨#[108, 105, 110, 107]⟩, .int .i64 3, .iface 45 (.pointer (some ⟨w.heap.size, 0, none⟩))] 48

theorem small_chain (w : World) : Chain ((w.alloc smallO1).alloc (smallO2 w)) (.iface 24 (.int .i64 3)) 3 [⟨#[108, 105, 110, 107]⟩, ⟨#[102, 114, 97, 109, 101]⟩] (.iface 45 (.pointer (some ⟨w.heap.size + 1, 0, none⟩))) := by
  refine ⟨_, _, rfl, by simp [smallO2], by simp [smallO2], by simp [smallO2]; rfl, ?_⟩
  refine ⟨_, _, rfl, ?_, ?_, ?_, rfl⟩
  · exact keeps_alloc _ _ _ _ (by simp [smallO1])
  · exact keeps_alloc _ _ _ _ (by simp [smallO1])
  · exact keeps_alloc _ _ _ _ (by simp [smallO1])

theorem strs_two (w : World) (x y : ByteArray) : Strs (w.alloc (.cells #[.string x, .string y] 9)) (.slice (some ⟨w.heap.size, 0, none⟩) 2 2) [x, y] := by
  refine .inr ⟨_, 0, 2, rfl, Nat.le_refl _, ?_⟩
  intro j z hz
  match j, hz with
  | 0, hz => simp at hz; subst hz; simp
  | 1, hz => simp at hz; subst hz; simp

set_option maxHeartbeats 4000000 in
set_option maxRecDepth 100000 in
theorem small_true (w : World) (hg : ErrType w) : Calls Tryd.prog 9 #[] w fun e w' => e = .returned (.bool true) ∧ Below w.heap.size w w' := by
  have hb0 : Below w.heap.size w ((w.alloc smallO1).alloc (smallO2 w)) := ((Below.refl _ w).alloc (Nat.le_refl _) _).alloc (by simp) _
  have hch := small_chain w
  have hT := place_text (.iface 24 (.int .i64 3)) (numText 3) _ 3 _ _ _ (.inl ⟨3, rfl, itoa_small 3 (by decide) _, rfl⟩) hch (by decide) (by rw [small_text_eq]; decide)
  rw [small_text_eq] at hT
  have hnum : ((w.alloc smallO1).alloc (smallO2 w)).cell? ⟨w.heap.size + 1, 1, none⟩ = some (.int .i64 3) := by simp [smallO2]
  have hnum1 : (w.alloc smallO1).cell? ⟨w.heap.size, 1, none⟩ = some (.int .i64 3) := by simp [smallO1]
  have mP := methodErrorP
  have hgW : ErrType ((w.alloc smallO1).alloc (smallO2 w)) := (hg.alloc _).alloc _
  have HT := Lib.hid hT
  have HC := Lib.hid hch
  have HB0 := Lib.hid hb0
  have HG := Lib.hid hgW
  have HN := Lib.hid hnum
  clear hT hch hb0 hgW hg hnum
  go_enter Tryd.func9, Tryd.ntmps9
  go_wp2_with fail
  (with_reducible refine (new_num 3 (by decide) _ _).mono ?_)
  rintro e w1 ⟨rfl, hw1⟩
  obtain rfl : w1 = w.alloc smallO1 := hw1
  go_wp2_with fail
  (with_reducible refine (wrap_place _ 3 _ _ hnum1).mono ?_)
  rintro e w1 ⟨rfl, hw1⟩
  have hw2 : w1 = (w.alloc smallO1).alloc (smallO2 w) := hw1
  clear hw1 hnum1
  have hz : (w.alloc smallO1).heap.size = w.heap.size + 1 := by simp
  rw [← hw2] at HT HC HB0 HG HN
  clear hw2 hz
  go_wp2_with fail
  (with_reducible refine (new_ok _ _).mono ?_)
  rintro e w1 ⟨rfl, rfl⟩
  go_wp2_with fail
  (with_reducible refine HT.out.mono ?_)
  rintro e w2 ⟨rfl, hb2⟩
  have hn2 := keeps_below hb2 _ _ HN.out
  have HC2 := Lib.hid (HC.out.kept (keeps_below hb2))
  have HG2 := Lib.hid (HG.out.below hb2)
  have HB2 := Lib.hid (HB0.out.trans (hb2.mono HB0.out.size))
  clear HT HC HG HB0 HN hb2 mP
  go_wp2_with fail
  (with_reducible refine (code_place _ 3 _ hn2).mono ?_)
  rintro e w2 ⟨rfl, rfl⟩
  go_wp2_with fail
  (with_reducible refine (fis_place _ 3 _ _ hn2).mono ?_)
  rintro e w2 ⟨rfl, rfl⟩
  go_wp2_with fail
  (with_reducible refine (fis_place _ 3 _ _ hn2).mono ?_)
  rintro e w2 ⟨rfl, rfl⟩
  go_wp2_with fail
  (with_reducible refine (path_any _ 3 _ _ _ (isBase_num 3) HC2.out (by decide)).mono ?_)
  rintro e w3 ⟨s, rfl, hown, hb3⟩
  have HS := Lib.hid (Strs.of_own hown)
  have HG3 := Lib.hid (HG2.out.below hb3)
  have HB3 := Lib.hid (HB2.out.trans (hb3.mono HB2.out.size))
  clear HC2 HG2 HB2 hn2 hown hb3
  go_wp2_with fail
  (with_reducible refine (same_true _ _ [⟨#[108, 105, 110, 107]⟩, ⟨#[102, 114, 97, 109, 101]⟩] _ (HS.out.below ((Below.refl _ _).alloc (Nat.le_refl _) _)) (strs_two _ _ _) (by decide)).mono ?_)
  rintro e w4 ⟨rfl, hb4⟩
  have HG4 := Lib.hid ((HG3.out.alloc _).below hb4)
  have HB4 := Lib.hid ((HB3.out.alloc HB3.out.size _).trans (hb4.mono (le_alloc HB3.out.size _)))
  clear HS HG3 HB3 hb4
  go_wp2_with fail
  (with_reducible refine (wrap_nil _ _).mono ?_)
  rintro e w4 ⟨rfl, rfl⟩
  go_wp2_with fail
  (with_reducible refine (code_nil _).mono ?_)
  rintro e w4 ⟨rfl, rfl⟩
  go_wp2_with fail
  (with_reducible refine (code_num 4 _ HG4.out).mono ?_)
  rintro e w5 ⟨rfl, hb5⟩
  have HB5 := Lib.hid (HB4.out.trans (hb5.mono HB4.out.size))
  clear HG4 HB4 hb5
  go_wp2_with fail
  (with_reducible refine (path_base _ _ (isBase_num 4)).mono ?_)
  rintro e w5 ⟨rfl, rfl⟩
  go_wp2_with fail
  go_ret
  exact ⟨rfl, HB5.out⟩
end Go.Proofs.YteggehjbkbfdfaaDoor
