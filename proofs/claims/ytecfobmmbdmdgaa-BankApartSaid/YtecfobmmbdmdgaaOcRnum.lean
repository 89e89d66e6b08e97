/-
  The document's own reader by contract: Num.
-/
import Derived.Test.YtecfobmmbdmdgaaOcTake
namespace Go.Proofs.Ytecfobmmbdmdgaa
open Go.RowKit

set_option maxHeartbeats 1000000 in
theorem rnum_few (k T b lo L : Nat) (xs : List (BitVec 8)) (bad : Bool) (w : World) (_ : k ≤ 4) (hc : bad = true ∨ (bad = false ∧ xs.length < k)) (hb : bad = true → xs = []) (h : Rd w T b lo L xs bad) (_ : xs.length ≤ 100000) :
    Calls Try.prog 33 #[.pointer (some ⟨b, 0, none⟩), .int .i64 (k : Int)] w fun e w' => e = .returned (.int .u32 (0 : Int)) ∧ Rd w' T b lo L [] true ∧ Apart b w w' := by
  obtain ⟨v, h0, h1, f0, f1, hlf⟩ := h.cells
  obtain ⟨av, cv, ev⟩ := hlf.1.len
  have HR := Lib.hid h
  obtain ⟨v2, g0, g1, k0, k1, hlf2⟩ := (h.setBad true).cells
  have HEQ : v2 = v := by
    have e : (w.setCell ⟨b, 1, none⟩ (.bool true)).cell? ⟨b, 0, none⟩ = w.cell? ⟨b, 0, none⟩ := World.cell?_setCell_other _ _ _ _ (by simp)
    rw [e, h0] at g0
    exact (Option.some.inj g0).symm
  subst HEQ
  have HR2 := Lib.hid (h.setBad true)
  clear h hlf hlf2 g1 k1
  subst ev
  rcases hc with rfl | ⟨rfl, hlt⟩
  · clear hb
    go_enter Try.func33, Try.ntmps33
    go_wp2
    go_ret
    exact ⟨rfl, HR2.out.setLeft (Left.nil _ _ _), (Apart.set_ b 1 w _).trans (Apart.set_ b 0 _ _)⟩
  · clear hb
    go_enter Try.func33, Try.ntmps33
    go_wp2
    go_ret
    exact ⟨rfl, HR2.out.setLeft (Left.nil _ _ _), (Apart.set_ b 1 w _).trans (Apart.set_ b 0 _ _)⟩

theorem num_step (n x : Nat) : (256 : Int) * (n : Int) + (x : Int) = ((n * 256 + x : Nat) : Int) := by simp; omega

set_option maxHeartbeats 1000000 in
theorem rnum_all (k T b lo L : Nat) (xs : List (BitVec 8)) (w : World) (hk : k ≤ 4) (hkx : k ≤ xs.length) (h : Rd w T b lo L xs false) (hl : xs.length ≤ 100000) :
    Calls Try.prog 33 #[.pointer (some ⟨b, 0, none⟩), .int .i64 (k : Int)] w fun e w' => e = .returned (.int .u32 (val k xs : Int)) ∧ Rd w' T b lo L (xs.drop k) false ∧ Apart b w w' := by
  obtain ⟨v, h0, h1, f0, f1, hlf⟩ := h.cells
  obtain ⟨av, cv, ev⟩ := hlf.1.len
  obtain ⟨v2, hrun, hb2, hblk⟩ := cutR hlf.1 k hkx
  have HR := Lib.hid h
  have HL2 := Lib.hid (show Left w lo L v2 (xs.drop k) from ⟨hb2, fun a n c he => by
    by_cases h0 : n = 0
    · exact .inl h0
    · obtain ⟨a', n', c', hv', hbl⟩ := hblk a n c he
      rcases hlf.2 a' n' c' hv' with h0' | h0'
      · exfalso
        have e1 : n = xs.length - k := by
          obtain ⟨aa, cc, ee⟩ := hb2.len
          rw [ee] at he
          simp only [Value.slice.injEq, List.length_drop] at he
          omega
        rw [ev] at hv'
        simp only [Value.slice.injEq] at hv'
        omega
      · right; rw [hbl]; exact h0'⟩)
  have HV := Lib.hid hlf.1
  obtain ⟨a2, c2, e2⟩ := hb2.len
  clear h hlf hb2 hblk
  subst ev e2
  have hnl : decide ((xs.length : Int) < (k : Int)) = false := by simp; omega
  go_enter Try.func33, Try.ntmps33
  go_wp2
  go_loop [5, 6] (fun t i => ∃ j : Nat, j ≤ k ∧ i = .int .i64 j ∧ t = .int .u32 (num (xs.take j) : Int)) (fun _ i => k - (intOf i).toNat)
  case atStart => exact ⟨0, by omega, rfl, rfl⟩
  case round =>
    obtain ⟨j, hj, rfl, rfl⟩ := hrel
    by_cases hlt : j < k
    · obtain ⟨g, o, cap, x, e1, hc1, hg1, hx, hcell⟩ := HV.out.at_ j (by omega)
      have HS := Lib.hid (num_next xs j x hx)
      have hn := take_lt xs j (by omega)
      have hxl := x.isLt
      have hltI : (j : Int) < (xs.length : Int) := by omega
      clear hx
      simp only [Value.slice.injEq] at e1
      obtain ⟨rfl, _, rfl⟩ := e1
      generalize num (xs.take j) = n at *
      go_wp2
      go_round
      case rel => exact ⟨j + 1, by omega, by go_num, by rw [HS.out, ← num_step]⟩
      case measure => simp [intOf]; omega
    · obtain rfl : j = k := by omega
      go_wp2
      go_ret
      exact ⟨by rw [val_all hkx]; rfl, HR.out.setLeft (by have := HL2.out; rwa [List.length_drop] at this), Apart.set_ b 0 w _⟩

/-- Both cases in one: as octet's own. -/
theorem rnum_any (k T b lo L : Nat) (xs : List (BitVec 8)) (bad : Bool) (w : World) (hk : k ≤ 4) (hk0 : 0 < k) (hb : bad = true → xs = []) (h : Rd w T b lo L xs bad) (hl : xs.length ≤ 100000) :
    Calls Try.prog 33 #[.pointer (some ⟨b, 0, none⟩), .int .i64 (k : Int)] w fun e w' => e = .returned (.int .u32 (val k xs : Int)) ∧ Took T b lo L xs bad k w w' := by
  cases bad with
  | true =>
    have hx := hb rfl
    subst hx
    refine (rnum_few k T b lo L [] true w hk (.inl rfl) hb h hl).mono fun e w' ⟨he, hr, ha⟩ => ⟨?_, ?_, ha⟩
    · rw [he, val_nil k hk0]; rfl
    · rw [List.drop_nil, Bool.true_or]; exact hr
  | false =>
    by_cases hlt : xs.length < k
    · refine (rnum_few k T b lo L xs false w hk (.inr ⟨rfl, hlt⟩) hb h hl).mono fun e w' ⟨he, hr, ha⟩ => ⟨?_, ?_, ha⟩
      · rw [he, val_few hlt]; rfl
      · rw [List.drop_eq_nil_of_le (by omega), show decide (xs.length < k) = true by simp; omega, Bool.or_true]; exact hr
    · refine (rnum_all k T b lo L xs w hk (by omega) h hl).mono fun e w' ⟨he, hr, ha⟩ => ⟨he, ?_, ha⟩
      rw [show decide (xs.length < k) = false by simp; omega, Bool.or_false]; exact hr

end Go.Proofs.Ytecfobmmbdmdgaa
