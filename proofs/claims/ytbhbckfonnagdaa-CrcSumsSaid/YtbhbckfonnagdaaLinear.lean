/-
  The walk of crossbucklaw02.CrcLinear: true, whatever it is given.
-/
import Derived.Test.YtbhbckfonnagdaaParts
import Derived.RegionTactic
namespace Go.Proofs.Ytbhbckfonnagdaa
open Go.RowKit

theorem ofInt8 (a : Nat) (ha : a < 256) : (BitVec.ofInt 8 (a : Int)).toNat = a := by
  rw [BitVec.ofInt_natCast, BitVec.toNat_ofNat]; exact Nat.mod_eq_of_lt (by omega)
theorem wrap8 (n : Int) : IntKind.u8.wrap n = n % 256 := by simp [IntKind.wrap, IntKind.bits, IntKind.signed]
theorem xor8 (a b : BitVec 8) : bits .xor .u8 (a.toNat : Int) (b.toNat : Int) = ((a ^^^ b).toNat : Int) := by
  have ha := a.isLt
  have hb := b.isLt
  have hx : a.toNat ^^^ b.toNat < 2 ^ 8 := Nat.xor_lt_two_pow (by omega) (by omega)
  show IntKind.u8.wrap ((BitVec.ofInt 8 (a.toNat : Int) ^^^ BitVec.ofInt 8 (b.toNat : Int)).toNat : Int) = _
  rw [BitVec.toNat_xor, ofInt8 _ ha, ofInt8 _ hb, wrap8, BitVec.toNat_xor]
  omega
theorem xorS (a b : BitVec 16) : bits .xor .u16 (a.toNat : Int) (b.toNat : Int) = ((a ^^^ b).toNat : Int) := by
  rw [xor16 _ _ a.isLt b.isLt, BitVec.toNat_xor]

/-- Block g holds the bytes xs, and none of it is frozen. -/
def Row (w : World) (g : Nat) (xs : List (BitVec 8)) : Prop := w.heap[g]? = some (.cells (xs.map cel).toArray 5 (0, 0))
theorem Row.cell {w : World} {g : Nat} {xs : List (BitVec 8)} (h : Row w g xs) (k : Nat) (x : BitVec 8) (hx : xs[k]? = some x) : w.cell? ⟨g, k, none⟩ = some (.int .u8 (x.toNat : Int)) := by
  rw [cell_of_row w g k _ _ _ h]
  simp [hx, cel]
theorem Row.frozen {w : World} {g : Nat} {xs : List (BitVec 8)} (h : Row w g xs) (k : Nat) : w.frozen? ⟨g, k, none⟩ = false := frozen_of_row w g k _ _ h
theorem Row.lt {w : World} {g : Nat} {xs : List (BitVec 8)} (h : Row w g xs) : g < w.heap.size := by
  rcases Nat.lt_or_ge g w.heap.size with h1 | h1
  · exact h1
  · unfold Row at h; rw [Array.getElem?_eq_none h1] at h; cases h
theorem Row.set_ {w : World} {g : Nat} {xs : List (BitVec 8)} (h : Row w g xs) (k : Nat) (x : BitVec 8) : Row (w.setCell ⟨g, k, none⟩ (.int .u8 (x.toNat : Int))) g (xs.set k x) := by
  have := heap_setCell_same w g k _ _ (.int .u8 (x.toNat : Int)) h
  unfold Row
  rw [this]
  congr 2
  apply Array.ext'
  simp [List.map_set, cel]
theorem Row.byts {w : World} {g : Nat} {xs : List (BitVec 8)} (h : Row w g xs) (cap : Nat) (hc : xs.length ≤ cap) : Byts w (.slice (some ⟨g, 0, none⟩) xs.length cap) xs :=
  .inr ⟨g, 0, cap, rfl, hc, fun j x hx => by rw [Nat.zero_add]; exact h.cell j x hx⟩
theorem Row.drew {w : World} {g : Nat} {xs : List (BitVec 8)} (h : Row w g xs) : Row w.drew g xs := h
theorem Row.made (w : World) (M : Array Value) (n : Nat) (hM : M.size = n) (hz : ∀ j, j < n → M[j]? = some (cel 0#8)) : Row (w.alloc (.cells M 5)) w.heap.size (List.replicate n 0#8) := by
  unfold Row
  rw [heap_alloc_new]
  congr 2
  apply Array.ext_getElem?
  intro i
  by_cases hi : i < n
  · rw [hz i hi]; simp [hi]
  · rw [Array.getElem?_eq_none (by omega), Array.getElem?_eq_none (by simp; omega)]

/-- What stands in the new bytes behind k rounds. -/
def mixed (xs ys : List (BitVec 8)) (n k : Nat) : List (BitVec 8) := (List.zipWith (· ^^^ ·) xs ys).take k ++ List.replicate (n - k) 0#8
theorem mixed_set {xs ys : List (BitVec 8)} {n k : Nat} {x y : BitVec 8} (hx : xs.length = n) (hy : ys.length = n) (hk : k < n) (ex : xs[k]? = some x) (ey : ys[k]? = some y) : (mixed xs ys n k).set k (x ^^^ y) = mixed xs ys n (k + 1) := by
  unfold mixed
  have hz : (List.zipWith (· ^^^ ·) xs ys).length = n := by simp [hx, hy]
  have hzk : (List.zipWith (· ^^^ ·) xs ys)[k]? = some (x ^^^ y) := by simp [List.getElem?_zipWith, ex, ey]
  generalize List.zipWith (· ^^^ ·) xs ys = zs at *
  have ht : (zs.take k).length = k := by simp; omega
  rw [List.take_add_one, hzk]
  rw [List.set_append_right _ _ (by omega), ht, Nat.sub_self]
  obtain ⟨d, hd⟩ : ∃ d, n - k = d + 1 := ⟨n - k - 1, by omega⟩
  rw [hd, show n - (k + 1) = d by omega]
  simp [List.replicate_succ]
theorem mixed_length {xs ys : List (BitVec 8)} {n k : Nat} (hx : xs.length = n) (hy : ys.length = n) (hk : k ≤ n) : (mixed xs ys n k).length = n := by
  unfold mixed
  simp [hx, hy]
  omega
theorem mixed_all {xs ys : List (BitVec 8)} {n : Nat} (hx : xs.length = n) (hy : ys.length = n) : mixed xs ys n n = List.zipWith (· ^^^ ·) xs ys := by
  unfold mixed
  rw [List.take_of_length_le (by simp [hx, hy])]
  simp

theorem add_zero16 (v : Value) (xs : List (BitVec 8)) (w : World) (hv : Byts w v xs) (hl : xs.length ≤ maxLen) :
    Calls Try.prog 16 #[.int .u16 0, v] w fun e w' => e = .returned (.int .u16 ((crcAdd 0#16 xs).toNat : Int)) ∧ w = w' := add_any 0#16 v xs w hv hl

set_option maxHeartbeats 1000000 in
theorem linear_main (v u : Value) (xs ys : List (BitVec 8)) (n : Nat) (w : World) (hv : Byts w v xs) (hu : Byts w u ys) (hx : xs.length = n) (hy : ys.length = n) (hn : n ≤ 500) :
    Calls Try.prog 7 #[v, u] w fun e w' => e = .returned (.bool true) ∧ Below w.heap.size w w' := by
  obtain ⟨av, cv, ev⟩ := hv.len
  obtain ⟨au, cu, eu⟩ := hu.len
  rw [hx] at ev
  rw [hy] at eu
  obtain ⟨M, hM, hM0, hmk⟩ := run_make_u8 n (by omega) n (by omega)
  have HS := Lib.hid (small_true w)
  have HV := Lib.hid hv
  have HU := Lib.hid hu
  have HX := Lib.hid hx
  have HY := Lib.hid hy
  have HM := Lib.hid hM
  have HM0 := Lib.hid hM0
  have hne : ((n : Int) != (n : Int)) = false := by simp
  clear hv hu hx hy hM hM0
  subst ev eu
  go_enter Try.func7, Try.ntmps7
  go_wp2_with fail
  (with_reducible refine HS.out.mono ?_)
  rintro e w1 ⟨rfl, hb⟩
  have HB := Lib.hid hb
  have HV1 := Lib.hid (HV.out.below hb)
  have HU1 := Lib.hid (HU.out.below hb)
  clear hb HS HV HU
  go_wp2_with fail
  have HR := Lib.hid (Row.made w1 M n HM.out HM0.out)
  have HB2 := Lib.hid ((Below.refl w1.heap.size w1).alloc (Nat.le_refl _) (.cells M 5))
  clear hmk HM HM0 hne
  generalize hg : w1.heap.size = g at *
  have HR0 := Lib.hid (show Row (w1.alloc (.cells M 5)) g (mixed xs ys n 0) by simpa [mixed] using HR.out)
  have HG := Lib.hid hg
  clear HR hg
  go_loopw [7] (fun i wr => ∃ k : Nat, k ≤ n ∧ i = .int .i64 k ∧ Row wr g (mixed xs ys n k) ∧ Below g w1 wr) (fun i _ => n - (intOf i).toNat)
  case atStart => exact ⟨0, by omega, rfl, HR0.out, HB2.out⟩
  case round =>
    obtain ⟨k, hk, rfl, hr, hb⟩ := hrel
    have HRW := Lib.hid hr
    have HBW := Lib.hid hb
    have HBW1 : Hid (Below w1.heap.size w1 wr) := by rw [HG.out]; exact hb
    have HL := Lib.hid (mixed_length (k := k) HX.out HY.out hk)
    clear hr hb
    by_cases hlt : k < n
    · obtain ⟨g1, o1, c1, x, e1, hc1, hg1, hx, h1⟩ := (HV1.out.below HBW1.out).at_ k (by rw [HX.out]; exact hlt)
      obtain ⟨g2, o2, c2, y, e2, hc2, hg2, hy, h2⟩ := (HU1.out.below HBW1.out).at_ k (by rw [HY.out]; exact hlt)
      simp only [Value.slice.injEq] at e1 e2
      obtain ⟨rfl, _, rfl⟩ := e1
      obtain ⟨rfl, _, rfl⟩ := e2
      have HN := Lib.hid (mixed_set HX.out HY.out hlt hx hy)
      have hxy := xor8 x y
      have hltI : (k : Int) < (n : Int) := by omega
      obtain ⟨old, hold⟩ : ∃ old, (mixed xs ys n k)[k]? = some old := ⟨_, List.getElem?_eq_getElem (by rw [HL.out]; exact hlt)⟩
      have h3 := HRW.out.cell k old hold
      have h4 := HRW.out.frozen k
      clear hold
      have ho : old.toNat < 256 := old.isLt
      clear hx hy hc1 hc2
      go_wp2
      go_region
      have HR2 := HRW.out.drew.set_ k (x ^^^ y)
      rw [HN.out] at HR2
      have HR3 := Lib.hid HR2
      have HB3 := Lib.hid (HBW.out.drew.setCell (p := ⟨g, k, none⟩) (Nat.le_refl _) (.int .u8 ((x ^^^ y).toNat : Int)))
      clear HR2 HN
      all_goals
        go_wp2
        go_roundw
        case rel => exact ⟨k + 1, by omega, by go_num, HR3.out, HB3.out⟩
        case measure => simp [intOf]; omega
    · obtain rfl : k = n := by omega
      have HZ := Lib.hid (HRW.out.byts k (by rw [HL.out]; exact Nat.le_refl _))
      rw [HL.out, mixed_all HX.out HY.out] at HZ
      have HVW := Lib.hid (HV1.out.below HBW1.out)
      have HUW := Lib.hid (HU1.out.below HBW1.out)
      have HE := Lib.hid (HB.out.trans (HBW1.out.mono HB.out.size))
      have HLX := Lib.hid (show xs.length ≤ maxLen by rw [HX.out]; unfold maxLen; omega)
      have HLY := Lib.hid (show ys.length ≤ maxLen by rw [HY.out]; unfold maxLen; omega)
      have HLZ := Lib.hid (show (List.zipWith (· ^^^ ·) xs ys).length ≤ maxLen by simp [HX.out, HY.out]; unfold maxLen; omega)
      have hs1 := xorS (crcAdd 0#16 xs) (crcAdd 0#16 ys)
      have hs2 := xorS (crcSum xs) (crcSum ys)
      rw [← crcAdd_xor xs ys _ _ (by rw [HX.out, HY.out])] at hs1
      rw [show crcSum xs ^^^ crcSum ys = crcAdd 0#16 (List.zipWith (· ^^^ ·) xs ys) from (crcAdd_xor xs ys 0xffff#16 0xffff#16 (by rw [HX.out, HY.out])).symm] at hs2
      rw [show (0#16 ^^^ 0#16 : BitVec 16) = 0#16 from rfl] at hs1
      clear HV1 HU1 HBW HBW1 HRW HB HB2 HR0 HL HX HY
      generalize List.zipWith (· ^^^ ·) xs ys = zs at *
      have HAZ := Lib.hid (add_zero16 _ zs _ HZ.out HLZ.out)
      have HAX := Lib.hid (add_zero16 _ xs _ HVW.out HLX.out)
      have HAY := Lib.hid (add_zero16 _ ys _ HUW.out HLY.out)
      have HSX := Lib.hid (sum_any _ xs _ HVW.out HLX.out)
      have HSY := Lib.hid (sum_any _ ys _ HUW.out HLY.out)
      generalize crcAdd 0#16 zs = vz at *
      generalize crcAdd 0#16 xs = vx at *
      generalize crcAdd 0#16 ys = vy at *
      generalize crcSum xs = tx at *
      generalize crcSum ys = ty at *
      have hz : ((vz.toNat : Int) == (vz.toNat : Int)) = true := by simp
      go_wp2_with fail
      (with_reducible refine HAZ.out.mono ?_)
      rintro e w2 ⟨rfl, rfl⟩
      go_wp2_with fail
      (with_reducible refine HAX.out.mono ?_)
      rintro e w2 ⟨rfl, rfl⟩
      go_wp2_with fail
      (with_reducible refine HAY.out.mono ?_)
      rintro e w2 ⟨rfl, rfl⟩
      go_wp2_with fail
      (with_reducible refine HAZ.out.mono ?_)
      rintro e w2 ⟨rfl, rfl⟩
      go_wp2_with fail
      (with_reducible refine HSX.out.mono ?_)
      rintro e w2 ⟨rfl, rfl⟩
      go_wp2_with fail
      (with_reducible refine HSY.out.mono ?_)
      rintro e w2 ⟨rfl, rfl⟩
      go_wp2_with fail
      go_ret
      exact ⟨rfl, HE.out⟩

theorem linear_any (v u : Value) (xs ys : List (BitVec 8)) (w : World) (hv : Byts w v xs) (hu : Byts w u ys) (hm : xs.length ≤ maxLen) (hm2 : ys.length ≤ maxLen) :
    Calls Try.prog 7 #[v, u] w fun e w' => e = .returned (.bool true) ∧ Below w.heap.size w w' := by
  by_cases hmain : xs.length ≤ 500 ∧ xs.length = ys.length
  · exact linear_main v u xs ys xs.length w hv hu rfl hmain.2.symm hmain.1
  · obtain ⟨av, cv, ev⟩ := hv.len
    obtain ⟨au, cu, eu⟩ := hu.len
    have HS := Lib.hid (small_true w)
    clear hv hu
    subst ev eu
    unfold maxLen at hm hm2
    generalize xs.length = n at *
    generalize ys.length = m at *
    have hc : 500 < n ∨ (n ≤ 500 ∧ ((n : Int) != (m : Int)) = true) := by
      by_cases h : 500 < n
      · exact .inl h
      · refine .inr ⟨by omega, ?_⟩
        simp
        omega
    clear hmain
    rcases hc with hc | ⟨hc, hd⟩
    all_goals
      go_enter Try.func7, Try.ntmps7
      go_wp2_with fail
      (with_reducible refine HS.out.mono ?_)
      rintro e w1 ⟨rfl, hb⟩
      go_wp2_with fail
      go_ret
      exact ⟨rfl, hb⟩
end Go.Proofs.Ytbhbckfonnagdaa
