/-
  RecordMay: true is answered, and nothing older changes. Conditions: whatever it is given.
-/
import Derived.Test.YtalfcbgffgikkaaSmall
import Derived.Test.YtalfcbgffgikkaaPoRest
import Derived.BigQuiet
namespace Go.Proofs.Ytalfcbgffgikkaa
open Go.RowKit

set_option maxHeartbeats 4000000 in
set_option maxRecDepth 10000 in
theorem may_low (p : Int) (a0 : Option Addr) (K c0 : Nat) (w : World) (h : p < 0) : Calls Try.prog 5 #[.int .i64 p, .slice a0 K c0] w fun e w' => e = .returned (.bool true) ∧ Below w.heap.size w w' := by
  go_enter Try.func5, Try.ntmps5
  go_wp2_with fail
  (with_reducible refine (small_true _).mono ?_)
  rintro e w1 ⟨rfl, hb⟩
  have HB1 := Lib.hid hb
  clear hb
  go_wp2_with fail
  go_ret
  exact ⟨rfl, HB1.out⟩
set_option maxHeartbeats 4000000 in
set_option maxRecDepth 10000 in
theorem may_high (p : Int) (a0 : Option Addr) (K c0 : Nat) (w : World) (h : ¬ p < 0 ∧ 7 < p) : Calls Try.prog 5 #[.int .i64 p, .slice a0 K c0] w fun e w' => e = .returned (.bool true) ∧ Below w.heap.size w w' := by
  obtain ⟨h1, h2⟩ := h
  go_enter Try.func5, Try.ntmps5
  go_wp2_with fail
  (with_reducible refine (small_true _).mono ?_)
  rintro e w1 ⟨rfl, hb⟩
  have HB1 := Lib.hid hb
  clear hb
  go_wp2_with fail
  go_ret
  exact ⟨rfl, HB1.out⟩
set_option maxHeartbeats 4000000 in
set_option maxRecDepth 10000 in
theorem may_many (p : Int) (a0 : Option Addr) (K c0 : Nat) (w : World) (h : ¬ p < 0 ∧ ¬ 7 < p ∧ 8 < K) : Calls Try.prog 5 #[.int .i64 p, .slice a0 K c0] w fun e w' => e = .returned (.bool true) ∧ Below w.heap.size w w' := by
  obtain ⟨h1, h2, h3⟩ := h
  have h4 : 8 < (K : Int) := by omega
  go_enter Try.func5, Try.ntmps5
  go_wp2_with fail
  (with_reducible refine (small_true _).mono ?_)
  rintro e w1 ⟨rfl, hb⟩
  have HB1 := Lib.hid hb
  clear hb
  go_wp2_with fail
  go_ret
  exact ⟨rfl, HB1.out⟩
set_option maxHeartbeats 4000000 in
set_option maxRecDepth 10000 in
theorem may_main (p : Int) (a0 : Option Addr) (K c0 : Nat) (ls : List Tk) (w : World) (hv : Els RTk 11 w (.slice a0 K c0) ls) (h0 : ¬ p < 0) (h7 : ¬ 7 < p) (h : K ≤ 8) (hK : K = ls.length) : Calls Try.prog 5 #[.int .i64 p, .slice a0 K c0] w fun e w' => e = .returned (.bool true) ∧ Below w.heap.size w w' := by
  have HV := Lib.hid hv
  obtain ⟨x, y, hxy⟩ : ∃ x y, rcof p ls = ⟨p, x, y⟩ := ⟨_, _, rfl⟩
  have hok := rcof_ok (p := p) ls (by omega) (by omega)
  rw [hxy] at hok
  have HP := Lib.hid (show rcout (rcps (rcpr ⟨p, x, y⟩)) = (⟨p, x, y⟩, true) by rw [rcps_pr hok]; rfl)
  obtain ⟨ph, hph⟩ : ∃ ph, poph ⟨p, x, y⟩ true = ph := ⟨_, rfl⟩
  have hpo : pon (K : Int) = K := by unfold pon; omega
  have HT := Lib.hid (fun (k : Nat) (t : Tk) (hk : k < K) (ht : ls[k]? = some t) => show (potks ⟨p, x, y⟩ true (K : Int))[k]? = some (potk t.g t.j) by rw [potks_at _ _ _ k (by rw [hpo]; exact hk), ← hxy, porow_of (by omega) ht])
  have HR := Lib.hid (fun W => restart_to ⟨p, x, y⟩ true (K : Int) ph hph W)
  rw [hpo] at HR
  obtain ⟨ts, hts⟩ : ∃ ts, potks ⟨p, x, y⟩ true (K : Int) = ts := ⟨_, rfl⟩
  rw [hts] at HT HR
  have HE := Lib.hid (fun W => enter_to p p (by rw [if_pos ⟨by omega, by omega⟩]) W)
  have HO := Lib.hid (fun W (hW : Below w.heap.size w W) => rcof_to p 1 _ ls W (HV.out.below (fun _ _ _ h => h.below hW)) x y hxy)
  have h8 : ¬ 8 < (K : Int) := by omega
  have E1 := eql_rc p x y p x y true (by simp)
  have HK := Lib.hid hK
  have hK8 : K ≤ 8 := h
  clear hv hxy hok hph hpo hts h hK
  go_enter Try.func5, Try.ntmps5
  go_wp2_with fail
  (with_reducible refine (small_true _).mono ?_)
  rintro e w1 ⟨rfl, hb⟩
  have HB1 := Lib.hid hb
  clear hb
  go_wp2_with fail
  (with_reducible refine (HE.out _).mono ?_)
  rintro e w2 ⟨rfl, hb⟩
  have HB2 := Lib.hid (below_call HB1.out hb)
  clear hb HB1
  have H1 := Lib.hid (HO.out _ HB2.out)
  go_wp2_with fail
  (with_reducible refine (H1.out).mono ?_)
  rintro e w3 ⟨rfl, hb⟩
  have HB3 := Lib.hid (below_alloc (below_call HB2.out hb) (.cells #[.int .i64 p, .int .i64 x, .int .i64 y] 26))
  have HS3 := Lib.hid (blk_new w3 #[.int .i64 p, .int .i64 x, .int .i64 y] 26)
  clear hb HB2 H1
  obtain ⟨x0, x1, x2⟩ := HS3.out.three
  go_wp2_with fail
  (with_reducible refine (rcprint_to ⟨p, x, y⟩ p x y rfl _).mono ?_)
  rintro e w4 ⟨v4, rfl, hv, hb⟩
  have HB4 := Lib.hid (below_call HB3.out hb)
  have HS4 := Lib.hid (HS3.out.below hb)
  have HV4 := Lib.hid hv
  clear hb hv HB3 HS3 x0 x1 x2
  go_wp2_with fail
  (with_reducible refine (rcparse_to _ _ p x y true HP.out _ HV4.out).mono ?_)
  rintro e w5 ⟨rfl, hb⟩
  have HB5 := Lib.hid (below_alloc (below_call HB4.out hb) (.cells #[.int .i64 p, .int .i64 x, .int .i64 y] 26))
  have HS5 := Lib.hid ((HS4.out.below hb).below (below_alloc (Below.refl _ w5) (.cells #[.int .i64 p, .int .i64 x, .int .i64 y] 26)))
  have HY5 := Lib.hid (blk_new w5 #[.int .i64 p, .int .i64 x, .int .i64 y] 26)
  clear hb HB4 HS4 HV4 HP
  obtain ⟨y0, y1, y2⟩ := HY5.out.three
  go_wp2_with fail
  (with_reducible refine (HR.out _).mono ?_)
  rintro e w6 ⟨g6, rfl, ht, hg, hb⟩
  have HB6 := Lib.hid (below_alloc (below_call HB5.out hb) (.cells #[.int .i64 ph, .int .i64 1] 23))
  have HS6 := Lib.hid ((HS5.out.below hb).below (below_alloc (Below.refl _ w6) (.cells #[.int .i64 ph, .int .i64 1] 23)))
  have HY6 := Lib.hid ((HY5.out.below hb).below (below_alloc (Below.refl _ w6) (.cells #[.int .i64 ph, .int .i64 1] 23)))
  have HT6 := Lib.hid (ht.below (below_alloc (Below.refl _ w6) (.cells #[.int .i64 ph, .int .i64 1] 23)))
  clear hb ht hg HB5 HS5 HY5 HR y0 y1 y2
  have e1 : ((K : Int) != (K : Int)) = false := by simp
  go_wp2_with fail
  generalize w6.alloc (.cells #[.int .i64 ph, .int .i64 1] 23) = w7 at *
  go_loopw [11] (fun s wr => ∃ k : Nat, k ≤ K ∧ s = .int .i64 (k : Int) ∧ (∃ d : Nat, wr = w7.drewN d)) (fun s _ => K - (intOf s).toNat)
  case atStart => exact ⟨0, by omega, rfl, 0, rfl⟩
  case round =>
    obtain ⟨k, hk, rfl, d, rfl⟩ := hrel
    by_cases hlt : k < K
    · have hltI : (k : Int) < (K : Int) := by omega
      have hkw : wrap64 ((k : Int) + 1) = (k : Int) + 1 := IntWalk.wrap64_in _ (by omega)
      obtain ⟨t, hy⟩ : ∃ t, ls[k]? = some t := ⟨_, List.getElem?_eq_getElem (by rw [← HK.out]; exact hlt)⟩
      have hz := HT.out k t hlt hy
      obtain ⟨g2, o2, ea, hr⟩ := HV.out.at_ hy
      subst ea
      obtain ⟨_, _, _, r3, _, _, r6, _, _, _, _⟩ := hr.below HB6.out
      have c3 := HT6.out.cell hz 3 (by decide)
      have c6 := HT6.out.cell hz 6 (by decide)
      obtain ⟨_, _, _, qg, _, _, qj, _, _, _, _⟩ := t
      change _ = some (Value.bool qg) at c3
      change _ = some (Value.bool qj) at c6
      dsimp only at r3 r6
      have e3 : (qg != qg) = false := by simp
      have e4 : (qj != qj) = false := by simp
      clear hr hy hz
      go_wp2_with fail
      go_quiet (fail)
      go_wp2_with fail
      go_roundw
      case rel => exact ⟨k + 1, by omega, by go_num, d + nq, rfl⟩
      case measure => clear hkw; simp [intOf]; omega
    · have hltI : ¬ (k : Int) < (K : Int) := by omega
      obtain ⟨x0, x1, x2⟩ := HS6.out.three
      obtain ⟨y0, y1, y2⟩ := HY6.out.three
      go_wp2_with fail
      go_ret
      exact ⟨rfl, ⟨HB6.out.os, HB6.out.tape, HB6.out.output, HB6.out.size, HB6.out.block⟩⟩
theorem may_any (p : Int) (v : Value) (ls : List Tk) (w : World) (hv : Els RTk 11 w v ls) : Calls Try.prog 5 #[.int .i64 p, v] w fun e w' => e = .returned (.bool true) ∧ Below w.heap.size w w' := by
  obtain ⟨a0, c0, rfl⟩ := hv.len
  obtain ⟨K, hK⟩ : ∃ n, n = ls.length := ⟨_, rfl⟩
  rw [← hK] at hv ⊢
  by_cases h0 : p < 0
  · exact may_low p a0 K c0 w h0
  · by_cases h7 : 7 < p
    · exact may_high p a0 K c0 w ⟨h0, h7⟩
    · by_cases h : 8 < K
      · exact may_many p a0 K c0 w ⟨h0, h7, h⟩
      · exact may_main p a0 K c0 ls w hv h0 h7 (by omega) hK
end Go.Proofs.Ytalfcbgffgikkaa
