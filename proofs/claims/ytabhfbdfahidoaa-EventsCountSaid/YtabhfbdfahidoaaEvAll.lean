/-
  A log of events: All, by contract.
-/
import Derived.Test.YtabhfbdfahidoaaEvCalls
import Derived.StillTailTactics
namespace Go.Proofs.Ytabhfbdfahidoaa
open Go.RowKit

/-- The first k of two rows, joined. -/
def evacc (us vs : List Ev) (k : Nat) : List Ev := if k = 0 then [] else if k = 1 then us else us ++ vs
theorem evbox2 {w : World} {g : Nat} {v1 v2 : Value} (h : Blk w g #[v1, v2] 22) : w.cell? ⟨g, 0, none⟩ = some v1 ∧ w.cell? ⟨g, 1, none⟩ = some v2 := ⟨h.cell 0 rfl, h.cell 1 rfl⟩
set_option maxHeartbeats 2000000 in
theorem evconcat_to {w : World} {g : Nat} {a1 a2 : Option Addr} {n1 c1 n2 c2 : Nat} {us vs : List Ev} (hb : Blk w g #[.slice a1 n1 c1, .slice a2 n2 c2] 22) (h1 : Els REv 3 w (.slice a1 n1 c1) us) (h2 : Els REv 3 w (.slice a2 n2 c2) vs)
    (hl1 : us.length = n1) (hl2 : vs.length = n2) (hm : n1 + n2 ≤ 100000) : Calls Try.prog 18 #[.slice (some ⟨g, 0, none⟩) 2 2] w fun e w' => ∃ v', e = .returned v' ∧ OwnEv w' w.heap.size v' (us ++ vs) ∧ Below w.heap.size w w' := by
  have H1 := Lib.hid h1
  have H2 := Lib.hid h2
  have HL1 := Lib.hid hl1
  have HL2 := Lib.hid hl2
  have HBK := Lib.hid hb
  have HM := Lib.hid hm
  have HG : Hid (∀ w1, Calls Try.prog 19 #[.slice none 0 0, .int .i64 ((n1 : Int) + (n2 : Int))] w1 fun e w' => ∃ v, e = .returned v ∧ OwnEv w' w1.heap.size v [] ∧ Below w1.heap.size w1 w') := Lib.hid (by
    intro w1
    by_cases h0 : n1 + n2 = 0
    · rw [show (n1 : Int) + (n2 : Int) = 0 by omega]
      exact (evgrow_zero w1).mono fun e w' ⟨he, hw⟩ => ⟨_, he, by rw [hw]; exact ownEv_nil _ _, by rw [hw]; exact Below.refl _ _⟩
    · rw [show (n1 : Int) + (n2 : Int) = ((n1 + n2 : Nat) : Int) by omega]
      exact (evgrow_some (n1 + n2) (by omega) (by omega) w1).mono fun e w' ⟨c, he, ho, hb⟩ => ⟨_, he, ho, hb⟩)
  have q0 : wrap64 (0 + (n1 : Int)) = (n1 : Int) := by rw [Int.zero_add]; exact IntWalk.wrap64_in _ (by omega)
  have q0' : wrap64 (n1 : Int) = (n1 : Int) := IntWalk.wrap64_in _ (by omega)
  have q1 : wrap64 ((n1 : Int) + (n2 : Int)) = (n1 : Int) + (n2 : Int) := IntWalk.wrap64_in _ (by omega)
  have q2 : decide ((n1 : Int) < 0) = false := by simp
  have q3 : decide ((n1 : Int) + (n2 : Int) < 0) = false := by simp; omega
  clear hb h1 h2 hl1 hl2 hm
  go_enter Try.func18, Try.ntmps18
  go_wp2_with fail
  go_loopw [3, 5, 11] (fun x y z wr => ∃ k : Nat, k ≤ 2 ∧ z = .int .i64 (k : Int) ∧ ((k = 0 ∧ x = .int .i64 0) ∨ (k = 1 ∧ x = .int .i64 (n1 : Int)) ∨ (k = 2 ∧ x = .int .i64 ((n1 : Int) + (n2 : Int)))) ∧ w = wr) (fun _ _ z _ => 2 - (intOf z).toNat)
  case atStart => exact ⟨0, by omega, rfl, .inl ⟨rfl, rfl⟩, rfl⟩
  case round =>
    obtain ⟨k, hk, rfl, hx, rfl⟩ := hrel
    obtain ⟨b0, b1⟩ := evbox2 HBK.out
    rcases hx with ⟨rfl, rfl⟩ | ⟨rfl, rfl⟩ | ⟨rfl, rfl⟩
    · go_wp2_with fail
      go_roundw
      case rel => exact ⟨1, by omega, by simp, .inr (.inl ⟨rfl, by rw [q0']⟩), by trivial⟩
      case measure => simp [intOf]
    · go_wp2_with fail
      go_roundw
      case rel => exact ⟨2, by omega, by simp, .inr (.inr ⟨rfl, by rw [q1]⟩), by trivial⟩
      case measure => simp [intOf]
    · clear b0 b1
      go_wp2_with fail
      (with_reducible refine (HG.out _).mono ?_)
      rintro e w1 ⟨u0, rfl, ho, hbw⟩
      have HO := Lib.hid ho
      have HB1 := Lib.hid hbw
      clear ho hbw
      go_wp2_with fail
      go_loopw [6, 8, 27] (fun x y z wr => ∃ k : Nat, k ≤ 2 ∧ z = .int .i64 (k : Int) ∧ Hid (OwnEv wr w.heap.size x (evacc us vs k)) ∧ Hid (Below w.heap.size w wr)) (fun _ _ z _ => 2 - (intOf z).toNat)
      case atStart => exact ⟨0, by omega, rfl, HO, HB1⟩
      case round =>
        obtain ⟨j, hj, rfl, HOr, HBr⟩ := hrel
        obtain ⟨b0, b1⟩ := evbox2 (HBK.out.below HBr.out)
        rcases (show j = 0 ∨ j = 1 ∨ j = 2 by omega) with rfl | rfl | rfl
        · obtain ⟨v3, w3, hrun, ho3, hg3, _⟩ := run_appEv 22 HOr.out (H1.out.below fun g o y h => h.below HBr.out) (by have := HL1.out; have := HM.out; simp [evacc]; omega) HBr.out.size
          have HO3 := Lib.hid ho3
          have HB3 := Lib.hid (HBr.out.grown hg3 HBr.out.size fun k hk => (HOr.out.lt hk).1)
          clear ho3 hg3
          go_wp2_with (at_builtin; refine Lib.wpList_append_run _ rfl _ _ _ _ rfl _ _ rfl rfl _ _ hrun ?_)
          go_roundw
          case rel => exact ⟨1, by omega, rfl, HO3, HB3⟩
          case measure => simp [intOf]
        · obtain ⟨v3, w3, hrun, ho3, hg3, _⟩ := run_appEv 22 HOr.out (H2.out.below fun g o y h => h.below HBr.out) (by have := HL1.out; have := HL2.out; have := HM.out; simp [evacc]; omega) HBr.out.size
          have HO3 := Lib.hid ho3
          have HB3 := Lib.hid (HBr.out.grown hg3 HBr.out.size fun k hk => (HOr.out.lt hk).1)
          clear ho3 hg3
          go_wp2_with (at_builtin; refine Lib.wpList_append_run _ rfl _ _ _ _ rfl _ _ rfl rfl _ _ hrun ?_)
          go_roundw
          case rel => exact ⟨2, by omega, rfl, HO3, HB3⟩
          case measure => simp [intOf]
        · go_wp2_with fail
          go_ret
          exact ⟨_, rfl, HOr.out, HBr.out⟩
variable {B b r : Nat} {w w' : World} {v : Value} {xs : List Ev}
set_option maxHeartbeats 2000000 in
theorem evall_to (h : Lg w B b r v xs) (_hm : xs.length ≤ 1000000) :
    Calls Try.prog 12 #[.pointer (some ⟨b, 0, none⟩)] w fun e w' => ∃ v', e = .returned v' ∧ OwnEv w' w.heap.size v' (xs.drop (xs.length - r)) ∧ Below w.heap.size w w' := by
  obtain ⟨ev, k, hb, ho, hr, hB, h1, h2⟩ := h
  have hf := hr.first h1
  have hall := ring_all hr h1
  rw [hr.lost] at hall
  obtain ⟨m, hk⟩ : ∃ m, k % r = m := ⟨_, rfl⟩
  rw [← hr.lost, hk] at hall
  rw [hk] at hf
  have HF := Lib.hid (evfirst_to hb h1 m hk)
  obtain ⟨a0, c, rfl, hc⟩ := ho.len
  obtain ⟨n, hn⟩ : ∃ n, ev.length = n := ⟨_, rfl⟩
  rw [hn] at hb hc hf
  have hE := ho.els
  rw [hn] at hE
  obtain ⟨a1, hs1, hd1⟩ := evcut_from (a0 := a0) hc m hf.1
  obtain ⟨a2, hs2, hd2⟩ := evcut_to (a0 := a0) hc m hf.1
  have HE := Lib.hid hE
  have HD1 := Lib.hid hd1
  have HD2 := Lib.hid hd2
  have HBK := Lib.hid hb
  have HALL := Lib.hid hall
  have HF1 := Lib.hid hf
  have HN := Lib.hid hn
  have HLO := Lib.hid hr.lost
  clear ho hr hB h1 hf hall hk hn hE hd1 hd2 hc
  go_enter Try.func12, Try.ntmps12
  go_wp2_with fail
  (with_reducible refine HF.out.mono ?_)
  rintro e w1 ⟨rfl, hbw⟩
  have HB1 := Lib.hid (below_call hbw (bel_drew w1))
  obtain ⟨c0, c1, c2⟩ := (HBK.out.below HB1.out).three
  replace c1 : w1.cell? ⟨b, 1, none⟩ = some (.slice a0 n c) := c1
  clear hb c0 c2 hbw HF
  go_wp2_with fail
  go_still_tail 12, (by kernel_rfl)
  change wpList _ _ _ _ _ w1.drew
  generalize w1.drew = w2 at *
  have HX := Lib.hid (blk_new w2 #[.slice a1 (n - m) (c - m), .slice a2 m c] 22)
  have HB2 := Lib.hid (below_alloc HB1.out (.cells #[.slice a1 (n - m) (c - m), .slice a2 m c] 22))
  have HC := Lib.hid (evconcat_to HX.out ((HD1.out w ev HE.out).below fun g o y h => h.below HB2.out) ((HD2.out w ev HE.out).below fun g o y h => h.below HB2.out) (by rw [List.length_drop, HN.out]) (by rw [List.length_take, HN.out]; have := HF1.out; omega) (by have := HF1.out; omega))
  go_wp2_with fail
  (with_reducible refine HC.out.mono ?_)
  rintro e w3 ⟨v3, rfl, ho3, hb3⟩
  rw [HALL.out, HLO.out] at ho3
  have HO3 := Lib.hid (ho3.mono HB2.out.size)
  have HB3 := Lib.hid (below_call HB2.out hb3)
  clear ho3 hb3
  go_wp2_with fail
  go_ret
  exact ⟨_, rfl, HO3.out, HB3.out⟩
end Go.Proofs.Ytabhfbdfahidoaa
