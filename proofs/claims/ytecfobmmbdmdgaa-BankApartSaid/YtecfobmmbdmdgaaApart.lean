/-
  The walk of crossbucklaw16.BankApart: true, whatever it is given.
-/
import Derived.Test.YtecfobmmbdmdgaaSmall
namespace Go.Proofs.Ytecfobmmbdmdgaa
open Go.RowKit

theorem pr_eq_text {p q : BitVec 32} {a b : List (BitVec 8)} (ha : 1 ≤ a.length ∧ a.length ≤ 40) (hb : 1 ≤ b.length ∧ b.length ≤ 40) (h : ¬ (p = q ∧ a = b)) : ((txt (pr p.toNat a)).toList == (txt (pr q.toNat b)).toList) = false := by
  refine txt_other fun he => h ?_
  obtain ⟨h1, h2⟩ := pr_inj ha hb p.isLt q.isLt he
  exact ⟨BitVec.eq_of_toNat_eq h1, h2⟩
theorem u32_other {p q : BitVec 32} (h : p ≠ q) : ((p.toNat : Int) == (q.toNat : Int)) = false := by
  simp
  intro he
  exact h (BitVec.eq_of_toNat_eq (by omega))

set_option maxHeartbeats 1000000 in
theorem apart_any (p : BitVec 32) (u : Value) (xs : List (BitVec 8)) (q : BitVec 32) (v : Value) (ys : List (BitVec 8)) (w : World) (hu : Byts w u xs) (hv : Byts w v ys) :
    Calls Try.prog 8 #[.int .u32 (p.toNat : Int), u, .int .u32 (q.toNat : Int), v] w fun e w' => e = .returned (.bool true) ∧ Below w.heap.size w w' := by
  obtain ⟨au, cu, eu⟩ := hu.len
  obtain ⟨av, cv, ev⟩ := hv.len
  have HU := Lib.hid hu
  have HV := Lib.hid hv
  clear hu hv
  subst eu ev
  go_enter Try.func8, Try.ntmps8
  go_wp2_with fail
  (with_reducible refine (small_true _).mono ?_)
  rintro e w1 ⟨rfl, hb⟩
  have HB1 := Lib.hid hb
  have HU1 := Lib.hid (HU.out.below hb)
  have HV1 := Lib.hid (HV.out.below hb)
  clear hb HU HV
  by_cases h1 : 300 < xs.length
  · have q1 : decide ((300 : Int) < (xs.length : Int)) = true := by simp; omega
    clear h1
    go_wp2_with fail
    go_ret
    exact ⟨rfl, HB1.out⟩
  · have q1 : decide ((300 : Int) < (xs.length : Int)) = false := by simp; omega
    by_cases h2 : 300 < ys.length
    · have q2 : decide ((300 : Int) < (ys.length : Int)) = true := by simp; omega
      clear h1 h2
      go_wp2_with fail
      go_ret
      exact ⟨rfl, HB1.out⟩
    · have q2 : decide ((300 : Int) < (ys.length : Int)) = false := by simp; omega
      by_cases h3 : 1 ≤ xs.length ∧ xs.length ≤ 40
      · have HP := Lib.hid (print_yes p _ xs w1 HU1.out h3.1 h3.2)
        by_cases h4 : 1 ≤ ys.length ∧ ys.length ≤ 40
        · have HQ := Lib.hid (fun w' h => print_yes q (.slice av ys.length cv) ys w' h h4.1 h4.2)
          have H3 := Lib.hid h3
          have H4 := Lib.hid h4
          clear h1 h2 h3 h4
          go_wp2_with fail
          (with_reducible refine HP.out.mono ?_)
          rintro e w2 ⟨r2, rfl, hown, hb⟩
          have HR2 := Lib.hid hown.byts
          have HB2 := Lib.hid (below_call HB1.out hb)
          have HU2 := Lib.hid (HU1.out.below hb)
          have HV2 := Lib.hid (HV1.out.below hb)
          clear hown hb HP HB1 HU1 HV1
          go_wp2_with fail
          (with_reducible refine (HQ.out _ HV2.out).mono ?_)
          rintro e w3 ⟨r3, rfl, hown, hb⟩
          have h4 := txt_run _ _ _ (HR2.out.below hb)
          have h5 := txt_run _ _ _ hown.byts
          have h6 := txt_run _ _ _ (HU2.out.below hb)
          have h7 := txt_run _ _ _ (HV2.out.below hb)
          have HB3 := Lib.hid (below_call HB2.out hb)
          clear hown hb HQ HR2 HB2 HU2 HV2
          by_cases hpq : p = q
          · subst hpq
            have e1 : ((p.toNat : Int) == (p.toNat : Int)) = true := by simp
            by_cases hab : xs = ys
            · subst hab
              have e2 := txt_same (pr p.toNat xs)
              have e3 := txt_same xs
              have e4 : (true == true) = true := rfl
              clear q2
              go_wp2_with fail
              go_ret
              exact ⟨rfl, HB3.out⟩
            · have e2 := pr_eq_text (p := p) (q := p) H3.out H4.out (fun h => hab h.2)
              have e3 := txt_other hab
              have e4 : (false == false) = true := rfl
              clear hab
              go_wp2_with fail
              go_ret
              exact ⟨rfl, HB3.out⟩
          · have e1 := u32_other hpq
            have e2 := pr_eq_text (p := p) (q := q) H3.out H4.out (fun h => hpq h.1)
            have e4 : (false == false) = true := rfl
            clear hpq
            go_wp2_with fail
            go_ret
            exact ⟨rfl, HB3.out⟩
        · have HQ := Lib.hid (fun w' h => print_no (q.toNat : Int) (.slice av ys.length cv) ys w' h (by omega : ys.length = 0 ∨ 40 < ys.length))
          clear h1 h2 h3 h4
          go_wp2_with fail
          (with_reducible refine HP.out.mono ?_)
          rintro e w2 ⟨r2, rfl, hown, hb⟩
          have HB2 := Lib.hid (below_call HB1.out hb)
          have HV2 := Lib.hid (HV1.out.below hb)
          clear hown hb HP HB1 HU1 HV1
          go_wp2_with fail
          (with_reducible refine (HQ.out _ HV2.out).mono ?_)
          rintro e w3 ⟨rfl, rfl⟩
          go_wp2_with fail
          go_ret
          exact ⟨rfl, HB2.out⟩
      · have HP := Lib.hid (print_no (p.toNat : Int) _ xs w1 HU1.out (by omega : xs.length = 0 ∨ 40 < xs.length))
        by_cases h4 : 1 ≤ ys.length ∧ ys.length ≤ 40
        · have HQ := Lib.hid (print_yes q _ ys w1 HV1.out h4.1 h4.2)
          clear h1 h2 h3 h4
          go_wp2_with fail
          (with_reducible refine HP.out.mono ?_)
          rintro e w' ⟨rfl, rfl⟩
          go_wp2_with fail
          (with_reducible refine HQ.out.mono ?_)
          rintro e w2 ⟨r2, rfl, hown, hb⟩
          have HB2 := Lib.hid (below_call HB1.out hb)
          clear hown hb HP HB1 HU1 HV1 HQ
          go_wp2_with fail
          go_ret
          exact ⟨rfl, HB2.out⟩
        · have HQ := Lib.hid (print_no (q.toNat : Int) _ ys w1 HV1.out (by omega : ys.length = 0 ∨ 40 < ys.length))
          clear h1 h2 h3 h4
          go_wp2_with fail
          (with_reducible refine HP.out.mono ?_)
          rintro e w' ⟨rfl, rfl⟩
          go_wp2_with fail
          (with_reducible refine HQ.out.mono ?_)
          rintro e w' ⟨rfl, rfl⟩
          go_wp2_with fail
          go_ret
          exact ⟨rfl, HB1.out⟩
end Go.Proofs.Ytecfobmmbdmdgaa
