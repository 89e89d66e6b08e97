/-
  bank.whole, record, next, by contract.
-/
import Derived.Test.YtecfobmmbdmdgaaBkPrint
import Derived.Test.YtecfobmmbdmdgaaCrcOpens
import Derived.Test.YtecfobmmbdmdgaaOcRest
import Derived.Test.YtecfobmmbdmdgaaBlk
namespace Go.Proofs.Ytecfobmmbdmdgaa
open Go.RowKit

/-- b[o:k]. -/
theorem cutM {w : World} {v : Value} {xs : List (BitVec 8)} (h : Byts w v xs) (o k : Nat) (ho : o < k) (hk : k ≤ xs.length) : ∃ v2,
    (∀ w', (Instr.slice 23 v (some (.int .i64 (o : Int))) (some (.int .i64 (k : Int))) none).run Try.prog w' = .ok v2 w') ∧ Byts w v2 ((xs.drop o).take (k - o)) := by
  have hu : Try.prog.underlying 23 = some (.slice (Try.prog.elem 23)) := by rw [elemB]; exact Try.underlying23
  rcases h with ⟨rfl, _⟩ | ⟨g, p, cap, rfl, hc, h⟩
  · simp at hk; omega
  · have hck : ¬ cap = o := by omega
    refine ⟨.slice (some ⟨g, p + o, none⟩) (k - o) (cap - o), fun w' => ?_, .inr ⟨g, p + o, cap - o, ?_, by simp; omega, fun j x hx => ?_⟩⟩
    · rw [run_slice_lh _ _ _ _ _ hu _ _ _ _ (by omega) (by omega) (by omega), elemB, sizeU8]
      simp [Result.andThen, sliced, hck, plain_add]
    · simp; omega
    · rw [List.getElem?_take] at hx
      split at hx
      · rw [List.getElem?_drop] at hx
        have := h _ x hx
        rwa [show p + o + j = p + (o + j) by omega]
      · cases hx

theorem whole_yes (v : Value) (xs : List (BitVec 8)) (w : World) (hv : Byts w v xs) (hl : xs.length ≤ 1000000) (n : Nat) (h : bsz xs = some n) :
    Calls Try.prog 37 #[v] w fun e w' => e = .returned (.tuple #[.int .i64 (n : Int), .bool true]) ∧ Below w.heap.size w w' := by
  obtain ⟨x, t, hx, h1, h2, hn, h3, h4⟩ := bsz_some h
  obtain ⟨g, o, cap, x', ev, hc, hg, hx0, hcell⟩ := hv.at_ 0 (by rw [hx]; simp)
  obtain rfl : x = x' := by rw [hx] at hx0; simpa using hx0
  rw [Nat.add_zero] at hcell
  obtain ⟨m, hm⟩ : ∃ m, n = m + 1 := ⟨n - 1, by omega⟩
  obtain ⟨g', o', cap', x', ev', _, _, hx1, hcell1⟩ := hv.at_ m (by omega)
  obtain rfl : x' = 0#8 := by rw [show n - 1 = m by omega] at h4; rw [h4] at hx1; cases hx1; rfl
  rw [ev] at ev'
  simp only [Value.slice.injEq, Option.some.injEq, Addr.mk.injEq] at ev'
  obtain ⟨⟨rfl, rfl, _⟩, _, rfl⟩ := ev'
  have HF := Lib.hid (fits_yes x.toNat h1 h2 w)
  have hxl := x.isLt
  have b0 : ((xs.length : Int) == 0) = false := by simp; intro hh; rw [hh] at hx; cases hx
  have b00 : (0 : Int) < (xs.length : Int) := by omega
  have e1 : IntKind.i64.wrap ((x.toNat : Int) + 8) = (n : Int) := by rw [IntWalk.i64_in _ (by omega)]; omega
  have e2 : IntKind.i64.wrap ((n : Int) - 1) = (m : Int) := by rw [IntWalk.i64_in _ (by omega)]; omega
  have b1 : decide (n ≤ xs.length) = true := by simp; omega
  have b2 : (m : Int) < (xs.length : Int) := by omega
  have b3 : (0 : Int) ≤ (m : Int) := by omega
  have hcell1' : w.cell? ⟨g, o + m, none⟩ = some (.int .u8 0) := hcell1
  clear hv hx hx0 hx1 h1 h2 h3 h4 hcell1 hm hn h
  subst ev
  go_enter Try.func37, Try.ntmps37
  go_wp2_with fail
  (with_reducible refine HF.out.mono ?_)
  rintro e w1 ⟨rfl, rfl⟩
  go_wp2_with fail
  go_quiet (fail)
  go_wp2_with fail
  go_ret2
  exact ⟨rfl, bel_drewN _ _⟩

/-- What holds where no record begins. -/
theorem bsz_none {xs : List (BitVec 8)} (h : bsz xs = none) : xs = [] ∨ ∃ x t, xs = x :: t ∧ ((x.toNat = 0 ∨ 40 < x.toNat) ∨ (1 ≤ x.toNat ∧ x.toNat ≤ 40 ∧ (xs.length < x.toNat + 8 ∨ (x.toNat + 8 ≤ xs.length ∧ ∃ y, xs[x.toNat + 7]? = some y ∧ y ≠ 0#8)))) := by
  cases xs with
  | nil => exact .inl rfl
  | cons x t =>
    refine .inr ⟨x, t, rfl, ?_⟩
    by_cases h1 : 1 ≤ x.toNat
    · by_cases h2 : x.toNat ≤ 40
      · refine .inr ⟨h1, h2, ?_⟩
        by_cases h3 : x.toNat + 8 ≤ (x :: t).length
        · refine .inr ⟨h3, _, List.getElem?_eq_getElem (by omega), fun h4 => ?_⟩
          have : (x :: t)[x.toNat + 7]? = some 0#8 := by rw [List.getElem?_eq_getElem (by omega), h4]
          simp only [bsz] at h
          rw [if_pos ⟨h1, h2, h3, this⟩] at h
          cases h
        · exact .inl (by omega)
      · exact .inl (.inr (by omega))
    · exact .inl (.inl (by omega))
theorem byte_ne {y : BitVec 8} (h : y ≠ 0#8) : ((y.toNat : Int) == 0) = false := by
  simp
  intro h'
  exact h (BitVec.eq_of_toNat_eq (by simpa using h'))

theorem whole_no (v : Value) (xs : List (BitVec 8)) (w : World) (hv : Byts w v xs) (hl : xs.length ≤ 1000000) (h : bsz xs = none) :
    Calls Try.prog 37 #[v] w fun e w' => ∃ z, e = .returned (.tuple #[.int .i64 z, .bool false]) ∧ Below w.heap.size w w' := by
  rcases bsz_none h with rfl | ⟨x, t, hx, hcase⟩
  · obtain ⟨av, cv, ev⟩ := hv.len
    clear hv h hl
    subst ev
    go_enter Try.func37, Try.ntmps37
    go_wp2
    go_ret2
    exact ⟨_, rfl, Below.refl _ _⟩
  · obtain ⟨g, o, cap, x', ev, hc, hg, hx0, hcell⟩ := hv.at_ 0 (by rw [hx]; simp)
    obtain rfl : x = x' := by rw [hx] at hx0; simpa using hx0
    rw [Nat.add_zero] at hcell
    have hlen : 1 ≤ xs.length := by rw [hx]; simp
    have hxl := x.isLt
    have b0 : ((xs.length : Int) == 0) = false := by simp; intro hh; rw [hh] at hlen; simp at hlen
    have b00 : (0 : Int) < (xs.length : Int) := by omega
    rcases hcase with h1 | ⟨h1, h2, hcase⟩
    · have HF := Lib.hid (fits_no x.toNat h1 w)
      clear hv hx hx0 h1 h
      subst ev
      go_enter Try.func37, Try.ntmps37
      go_wp2_with fail
      (with_reducible refine HF.out.mono ?_)
      rintro e w1 ⟨rfl, rfl⟩
      go_wp2_with fail
      go_ret2
      exact ⟨_, rfl, Below.refl _ _⟩
    · have HF := Lib.hid (fits_yes x.toNat h1 h2 w)
      obtain ⟨n, hn⟩ : ∃ n, n = x.toNat + 8 := ⟨_, rfl⟩
      have e1 : IntKind.i64.wrap ((x.toNat : Int) + 8) = (n : Int) := by rw [IntWalk.i64_in _ (by omega)]; omega
      rcases hcase with h3 | ⟨h3, y, hy, hne⟩
      · have b1 : decide (n ≤ xs.length) = false := by simp; omega
        clear hv hx hx0 h1 h2 h3 hn h
        subst ev
        go_enter Try.func37, Try.ntmps37
        go_wp2_with fail
        (with_reducible refine HF.out.mono ?_)
        rintro e w1 ⟨rfl, rfl⟩
        go_wp2_with fail
        go_quiet (fail)
        go_wp2_with fail
        go_ret2
        exact ⟨_, rfl, bel_drewN _ _⟩
      · obtain ⟨m, hm⟩ : ∃ m, n = m + 1 := ⟨n - 1, by omega⟩
        obtain ⟨g', o', cap', y', ev', _, _, hx1, hcell1⟩ := hv.at_ m (by omega)
        obtain rfl : y' = y := by rw [show x.toNat + 7 = m by omega, hx1] at hy; cases hy; rfl
        rw [ev] at ev'
        simp only [Value.slice.injEq, Option.some.injEq, Addr.mk.injEq] at ev'
        obtain ⟨⟨rfl, rfl, _⟩, _, rfl⟩ := ev'
        have hq := byte_ne hne
        have e2 : IntKind.i64.wrap ((n : Int) - 1) = (m : Int) := by rw [IntWalk.i64_in _ (by omega)]; omega
        have b1 : decide (n ≤ xs.length) = true := by simp; omega
        have b2 : (m : Int) < (xs.length : Int) := by omega
        have b3 : (0 : Int) ≤ (m : Int) := by omega
        have hyl := y'.isLt
        clear hv hx hx0 h1 h2 h3 hn h hy hne hm hx1
        subst ev
        go_enter Try.func37, Try.ntmps37
        go_wp2_with fail
        (with_reducible refine HF.out.mono ?_)
        rintro e w1 ⟨rfl, rfl⟩
        go_wp2_with fail
        go_quiet (fail)
        go_wp2_with fail
        go_ret2
        exact ⟨_, rfl, bel_drewN _ _⟩
end Go.Proofs.Ytecfobmmbdmdgaa
