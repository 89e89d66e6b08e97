/-
  What record asks of numbers; its closures; by contracts.
-/
import Derived.Test.YtalfcbgffgikkaaPoBits
import Derived.Test.YtalfcbgffgikkaaTkRow
import Derived.Test.YtalfcbgffgikkaaBlk
namespace Go.Proofs.Ytalfcbgffgikkaa
open Go.RowKit

theorem isPhase_to (n : Int) (r : Bool) (hr : decide (0 ≤ n ∧ n ≤ 7) = r) (w : World) : Calls Try.prog 16 #[.int .i64 n] w fun e w' => e = .returned (.bool r) ∧ w' = w := by
  subst hr
  by_cases h0 : 0 ≤ n
  · by_cases h1 : n ≤ 7
    · rw [decide_eq_true ⟨h0, h1⟩]
      go_enter Try.func16, Try.ntmps16
      go_wp2_with fail
      go_ret
      exact ⟨rfl, rfl⟩
    · rw [decide_eq_false (fun h => h1 h.2)]
      go_enter Try.func16, Try.ntmps16
      go_wp2_with fail
      go_ret
      exact ⟨rfl, rfl⟩
  · rw [decide_eq_false (fun h => h0 h.1)]
    go_enter Try.func16, Try.ntmps16
    go_wp2_with fail
    go_ret
    exact ⟨rfl, rfl⟩
theorem rcb_wrap (n : Int) : IntKind.u8.wrap n = n % 256 := by simp [IntKind.wrap, IntKind.bits, IntKind.signed]
theorem isByte_to (n : Int) (r : Bool) (hr : decide (0 ≤ n ∧ n ≤ 255) = r) (w : World) : Calls Try.prog 20 #[.int .i64 n] w fun e w' => e = .returned (.bool r) ∧ w' = w := by
  have h1 := rcb_wrap n
  obtain ⟨m, hm⟩ : ∃ m, n % 256 = m := ⟨_, rfl⟩
  rw [hm] at h1
  have h2 : IntKind.i64.wrap m = m := by rw [IntKind.wrap_i64]; omega
  have h3 : (n == m) = r := by rw [← hr, Bool.eq_iff_iff]; simp; omega
  clear hm hr
  go_enter Try.func20, Try.ntmps20
  go_wp2_with fail
  go_ret
  exact ⟨rfl, rfl⟩
theorem rc_two (k : Nat) (h : k ≤ 8) : wrap64 ((2 : Int) ^ k) = 2 ^ k := by
  have h1 : (2 : Nat) ^ k ≤ 2 ^ 8 := Nat.pow_le_pow_right (by decide) h
  have h2 : (2 : Int) ^ k = ((2 ^ k : Nat) : Int) := by rw [Int.natCast_pow]; rfl
  rw [h2]
  obtain ⟨P, hP⟩ : ∃ P : Nat, 2 ^ k = P := ⟨_, rfl⟩
  rw [hP] at h1 ⊢
  exact IntWalk.wrap64_in _ (by omega)
theorem wrong_to (v : Value) (ls : List Tk) (k b : Nat) (y : Tk) (hy : ls[k]? = some y) (w : World) (hv : Els RTk 11 w v ls) (hc : w.cell? ⟨b, 0, none⟩ = some v) (r : Bool) (hr : y.g = r) : Calls Try.prog 17 #[.int .i64 (k : Int), .pointer (some ⟨b, 0, none⟩)] w fun e w' => e = .returned (.bool r) ∧ w' = w := by
  obtain ⟨a, cc, ev⟩ := hv.len
  have hk : k < ls.length := (List.getElem?_eq_some_iff.1 hy).1
  obtain ⟨K, hn⟩ : ∃ n, n = ls.length := ⟨_, rfl⟩
  rw [← hn] at ev hk
  subst ev
  have hkI : (k : Int) < (K : Int) := by omega
  obtain ⟨g2, o2, ea, hr2⟩ := hv.at_ hy
  subst ea
  obtain ⟨r0, r1, r2, r3, r4, r5, r6, r7, r8, r9, r10⟩ := hr2
  rw [hr] at r3
  clear hy hr hn hv
  go_enter Try.func17, Try.ntmps17
  go_wp2_with fail
  go_ret
  exact ⟨rfl, rfl⟩
theorem mask_wrong (v : Value) (ls : List Tk) (n b : Nat) (hn : n ≤ ls.length) (h8 : n ≤ 8) (x : Int) (hx : rcs (fun t => t.g) (ls.take n) = x) (w : World) (hv : Els RTk 11 w v ls) (hc : w.cell? ⟨b, 0, none⟩ = some v) : Calls Try.prog 19 #[.int .i64 (n : Int), .func (.func 17) #[] #[.pointer (some ⟨b, 0, none⟩)]] w fun e w' => e = .returned (.int .i64 x) ∧ w' = w := by
  have HX := Lib.hid hx
  have HN := Lib.hid hn
  have HC := Lib.hid (fun (k : Nat) (y : Tk) (hy : ls[k]? = some y) (r : Bool) (hr : y.g = r) => wrong_to v ls k b y hy w hv hc r hr)
  clear hx hn hv hc
  go_enter Try.func19, Try.ntmps19
  go_wp2_with fail
  go_loopw [5, 8] (fun s5 s8 wr => ∃ k : Nat, k ≤ n ∧ ∃ B : Nat, s8 = .int .i64 (k : Int) ∧ s5 = .int .i64 (B : Int) ∧ Hid (rcs (fun t => t.g) (ls.take k) = (B : Int) ∧ B < 2 ^ k) ∧ wr = w) (fun s5 s8 _ => n - (intOf s8).toNat)
  case atStart => exact ⟨0, by omega, 0, rfl, rfl, Lib.hid ⟨rfl, by decide⟩, rfl⟩
  case round =>
    obtain ⟨k, hk, B, rfl, rfl, HB, rfl⟩ := hrel
    by_cases hlt : k < n
    · have hltI : (k : Int) < (n : Int) := by omega
      have hkw : wrap64 ((k : Int) + 1) = (k : Int) + 1 := IntWalk.wrap64_in _ (by omega)
      obtain ⟨y, hy⟩ : ∃ y, ls[k]? = some y := ⟨_, List.getElem?_eq_getElem (by have := HN.out; omega)⟩
      obtain ⟨q, hq⟩ : ∃ q, y.g = q := ⟨_, rfl⟩
      have H1 := Lib.hid (HC.out k y hy q hq)
      have hs := rc_two k (by omega)
      have ht := rcs_take (fun t => t.g) ls k y hy
      rw [HB.out.1, hq] at ht
      have hp : (2 : Nat) ^ k ≤ 2 ^ 8 := Nat.pow_le_pow_right (by decide) (by omega)
      have hp2 : (2 : Nat) ^ (k + 1) = 2 ^ k + 2 ^ k := by rw [Nat.pow_succ]; omega
      have hb := HB.out.2
      have ho : bits .or .i64 (B : Int) (2 ^ k) = ((B + 2 ^ k : Nat) : Int) := by
        have e : B + 2 ^ k = B ||| 2 ^ k := by
          have := Nat.two_pow_add_eq_or_of_lt hb 1
          rw [Nat.mul_one] at this
          rw [Nat.add_comm, this, Nat.or_comm]
        rw [e, show ((2 : Int) ^ k) = ((2 ^ k : Nat) : Int) by rw [Int.natCast_pow]; rfl]
        exact po_or _ _ (by omega) (by omega)
      clear hy hq
      cases q
      · have HT := Lib.hid (show rcs (fun t => t.g) (ls.take (k + 1)) = (B : Int) by rw [ht]; simp)
        have HB2 := Lib.hid (show B < 2 ^ (k + 1) by omega)
        clear ht ho hs hp hp2 hb
        go_wp2_with fail
        (with_reducible refine (H1.out).mono ?_)
        rintro e w1 ⟨rfl, rfl⟩
        go_wp2_with fail
        go_roundw
        case rel => exact ⟨k + 1, by omega, B, by go_num, rfl, Lib.hid ⟨HT.out, HB2.out⟩, trivial⟩
        case measure => clear hkw; simp [intOf]; omega
      · obtain ⟨P, hP⟩ : ∃ P : Nat, P = 2 ^ k := ⟨_, rfl⟩
        have HT := Lib.hid (show rcs (fun t => t.g) (ls.take (k + 1)) = ((B + 2 ^ k : Nat) : Int) by rw [ht, Int.natCast_add, Int.natCast_pow]; simp)
        have HB2 := Lib.hid (show B + 2 ^ k < 2 ^ (k + 1) by omega)
        clear ht hp hp2 hb hP
        obtain ⟨C, hC⟩ : ∃ C : Nat, B + 2 ^ k = C := ⟨_, rfl⟩
        rw [hC] at ho HT HB2
        clear hC
        go_wp2_with fail
        (with_reducible refine (H1.out).mono ?_)
        rintro e w1 ⟨rfl, rfl⟩
        go_wp2_with fail
        go_roundw
        case rel => exact ⟨k + 1, by omega, C, by go_num, rfl, Lib.hid ⟨HT.out, HB2.out⟩, trivial⟩
        case measure => clear hkw; simp [intOf]; omega
    · obtain rfl : k = n := by omega
      have hltI : ¬ (k : Int) < (k : Int) := by omega
      have HE := Lib.hid (HB.out.1.symm.trans HX.out)
      go_wp2_with fail
      go_ret
      exact ⟨congrArg (fun z => Ending.returned (Value.int .i64 z)) HE.out, rfl⟩
theorem jump_to (v : Value) (ls : List Tk) (k b : Nat) (y : Tk) (hy : ls[k]? = some y) (w : World) (hv : Els RTk 11 w v ls) (hc : w.cell? ⟨b, 0, none⟩ = some v) (r : Bool) (hr : y.j = r) : Calls Try.prog 18 #[.int .i64 (k : Int), .pointer (some ⟨b, 0, none⟩)] w fun e w' => e = .returned (.bool r) ∧ w' = w := by
  obtain ⟨a, cc, ev⟩ := hv.len
  have hk : k < ls.length := (List.getElem?_eq_some_iff.1 hy).1
  obtain ⟨K, hn⟩ : ∃ n, n = ls.length := ⟨_, rfl⟩
  rw [← hn] at ev hk
  subst ev
  have hkI : (k : Int) < (K : Int) := by omega
  obtain ⟨g2, o2, ea, hr2⟩ := hv.at_ hy
  subst ea
  obtain ⟨r0, r1, r2, r3, r4, r5, r6, r7, r8, r9, r10⟩ := hr2
  rw [hr] at r6
  clear hy hr hn hv
  go_enter Try.func18, Try.ntmps18
  go_wp2_with fail
  go_ret
  exact ⟨rfl, rfl⟩
theorem mask_jump (v : Value) (ls : List Tk) (n b : Nat) (hn : n ≤ ls.length) (h8 : n ≤ 8) (x : Int) (hx : rcs (fun t => t.j) (ls.take n) = x) (w : World) (hv : Els RTk 11 w v ls) (hc : w.cell? ⟨b, 0, none⟩ = some v) : Calls Try.prog 19 #[.int .i64 (n : Int), .func (.func 18) #[] #[.pointer (some ⟨b, 0, none⟩)]] w fun e w' => e = .returned (.int .i64 x) ∧ w' = w := by
  have HX := Lib.hid hx
  have HN := Lib.hid hn
  have HC := Lib.hid (fun (k : Nat) (y : Tk) (hy : ls[k]? = some y) (r : Bool) (hr : y.j = r) => jump_to v ls k b y hy w hv hc r hr)
  clear hx hn hv hc
  go_enter Try.func19, Try.ntmps19
  go_wp2_with fail
  go_loopw [5, 8] (fun s5 s8 wr => ∃ k : Nat, k ≤ n ∧ ∃ B : Nat, s8 = .int .i64 (k : Int) ∧ s5 = .int .i64 (B : Int) ∧ Hid (rcs (fun t => t.j) (ls.take k) = (B : Int) ∧ B < 2 ^ k) ∧ wr = w) (fun s5 s8 _ => n - (intOf s8).toNat)
  case atStart => exact ⟨0, by omega, 0, rfl, rfl, Lib.hid ⟨rfl, by decide⟩, rfl⟩
  case round =>
    obtain ⟨k, hk, B, rfl, rfl, HB, rfl⟩ := hrel
    by_cases hlt : k < n
    · have hltI : (k : Int) < (n : Int) := by omega
      have hkw : wrap64 ((k : Int) + 1) = (k : Int) + 1 := IntWalk.wrap64_in _ (by omega)
      obtain ⟨y, hy⟩ : ∃ y, ls[k]? = some y := ⟨_, List.getElem?_eq_getElem (by have := HN.out; omega)⟩
      obtain ⟨q, hq⟩ : ∃ q, y.j = q := ⟨_, rfl⟩
      have H1 := Lib.hid (HC.out k y hy q hq)
      have hs := rc_two k (by omega)
      have ht := rcs_take (fun t => t.j) ls k y hy
      rw [HB.out.1, hq] at ht
      have hp : (2 : Nat) ^ k ≤ 2 ^ 8 := Nat.pow_le_pow_right (by decide) (by omega)
      have hp2 : (2 : Nat) ^ (k + 1) = 2 ^ k + 2 ^ k := by rw [Nat.pow_succ]; omega
      have hb := HB.out.2
      have ho : bits .or .i64 (B : Int) (2 ^ k) = ((B + 2 ^ k : Nat) : Int) := by
        have e : B + 2 ^ k = B ||| 2 ^ k := by
          have := Nat.two_pow_add_eq_or_of_lt hb 1
          rw [Nat.mul_one] at this
          rw [Nat.add_comm, this, Nat.or_comm]
        rw [e, show ((2 : Int) ^ k) = ((2 ^ k : Nat) : Int) by rw [Int.natCast_pow]; rfl]
        exact po_or _ _ (by omega) (by omega)
      clear hy hq
      cases q
      · have HT := Lib.hid (show rcs (fun t => t.j) (ls.take (k + 1)) = (B : Int) by rw [ht]; simp)
        have HB2 := Lib.hid (show B < 2 ^ (k + 1) by omega)
        clear ht ho hs hp hp2 hb
        go_wp2_with fail
        (with_reducible refine (H1.out).mono ?_)
        rintro e w1 ⟨rfl, rfl⟩
        go_wp2_with fail
        go_roundw
        case rel => exact ⟨k + 1, by omega, B, by go_num, rfl, Lib.hid ⟨HT.out, HB2.out⟩, trivial⟩
        case measure => clear hkw; simp [intOf]; omega
      · obtain ⟨P, hP⟩ : ∃ P : Nat, P = 2 ^ k := ⟨_, rfl⟩
        have HT := Lib.hid (show rcs (fun t => t.j) (ls.take (k + 1)) = ((B + 2 ^ k : Nat) : Int) by rw [ht, Int.natCast_add, Int.natCast_pow]; simp)
        have HB2 := Lib.hid (show B + 2 ^ k < 2 ^ (k + 1) by omega)
        clear ht hp hp2 hb hP
        obtain ⟨C, hC⟩ : ∃ C : Nat, B + 2 ^ k = C := ⟨_, rfl⟩
        rw [hC] at ho HT HB2
        clear hC
        go_wp2_with fail
        (with_reducible refine (H1.out).mono ?_)
        rintro e w1 ⟨rfl, rfl⟩
        go_wp2_with fail
        go_roundw
        case rel => exact ⟨k + 1, by omega, C, by go_num, rfl, Lib.hid ⟨HT.out, HB2.out⟩, trivial⟩
        case measure => clear hkw; simp [intOf]; omega
    · obtain rfl : k = n := by omega
      have hltI : ¬ (k : Int) < (k : Int) := by omega
      have HE := Lib.hid (HB.out.1.symm.trans HX.out)
      go_wp2_with fail
      go_ret
      exact ⟨congrArg (fun z => Ending.returned (Value.int .i64 z)) HE.out, rfl⟩
end Go.Proofs.Ytalfcbgffgikkaa
