/-
  The walk of crossbucklaw01.FaultIs: true, whatever it is given.
-/
import Derived.Test.YteggehjbkbfdfaaDoorFinds
namespace Go.Proofs.YteggehjbkbfdfaaDoor
open Go.RowKit Go.Extern.Stop Go.Stop Go.Extern

theorem fis_place_b (b : Nat) (n m : Int) (r : Bool) (hr : (n == m) = r) (w : World) (h1 : w.cell? ⟨b, 1, none⟩ = some (.int .i64 n)) :
    Calls Tryd.prog 15 #[.iface 45 (.pointer (some ⟨b, 0, none⟩)), .int .i64 m] w fun e w' => e = .returned (.bool r) ∧ w = w' := by
  subst hr; exact fis_place b n m w h1
theorem fis_nil_b (m : Int) (r : Bool) (hr : (m == 0) = r) (w : World) : Calls Tryd.prog 15 #[.nilIface, .int .i64 m] w fun e w' => e = .returned (.bool r) ∧ w = w' := by
  have : ((0 : Int) == m) = r := by rw [← hr]; exact Bool.beq_comm
  subst this; exact fis_nil m w
theorem fis_num_same (n : Int) (w : World) (hg : ErrType w) :
    Calls Tryd.prog 15 #[.iface 24 (.int .i64 n), .int .i64 n] w fun e w' => e = .returned (.bool true) ∧ Below w.heap.size w w' := by
  have h := fis_num n n w hg
  have e : (n == n) = true := by simp
  rw [e] at h; exact h

set_option maxHeartbeats 4000000 in
set_option maxRecDepth 100000 in
theorem is_few (n m : Int) (v : Value) (xs : List ByteArray) (w : World) (hv : Strs w v xs) (hg : ErrType w) (hc : xs.length = 0 ∨ 50 < xs.length) (hm : xs.length ≤ maxLen) :
    Calls Tryd.prog 4 #[.int .i64 n, .int .i64 m, v] w fun e w' => e = .returned (.bool true) ∧ Below w.heap.size w w' := by
  obtain ⟨a, c, rfl⟩ := hv.len
  have HS := Lib.hid (small_true w hg)
  clear hv hg
  unfold maxLen at hm
  generalize xs.length = k at *
  by_cases h0 : k = 0
  · subst h0
    go_enter Tryd.func4, Tryd.ntmps4
    go_wp2_with fail
    (with_reducible refine HS.out.mono ?_)
    rintro e w1 ⟨rfl, hb⟩
    go_wp2_with fail
    go_ret
    exact ⟨rfl, hb⟩
  · have e0 : ((k : Int) == 0) = false := by simp; omega
    have h5 : 50 < k := by omega
    go_enter Tryd.func4, Tryd.ntmps4
    go_wp2_with fail
    (with_reducible refine HS.out.mono ?_)
    rintro e w1 ⟨rfl, hb⟩
    go_wp2_with fail
    go_ret
    exact ⟨rfl, hb⟩

set_option maxHeartbeats 4000000 in
set_option maxRecDepth 100000 in
theorem is_some (n m : Int) (r s : Bool) (hr : (n == m) = r) (hs : (m == 0) = s) (hn : n ≠ 0) (v : Value) (xs : List ByteArray) (w : World) (hv : Strs w v xs) (hg : ErrType w) (h0 : 0 < xs.length) (h5 : xs.length ≤ 50) :
    Calls Tryd.prog 4 #[.int .i64 n, .int .i64 m, v] w fun e w' => e = .returned (.bool true) ∧ Below w.heap.size w w' := by
  obtain ⟨a, c, rfl⟩ := hv.len
  have HS := Lib.hid (small_true w hg)
  have HV := Lib.hid hv
  have HG := Lib.hid hg
  clear hv hg
  have e0 : ((xs.length : Int) == 0) = false := beq_eq_false_iff_ne.2 (by omega)
  have err : (r == r) = true := by simp
  have ess : (s == s) = true := by simp
  go_enter Tryd.func4, Tryd.ntmps4
  go_wp2_with fail
  (with_reducible refine HS.out.mono ?_)
  rintro e w1 ⟨rfl, hb⟩
  have HB := Lib.hid hb
  clear hb
  go_wp2_with fail
  (with_reducible refine (made_num n hn _ xs _ (HV.out.below HB.out) h0 h5).mono ?_)
  rintro e w2 ⟨ev, pv, rfl, hR⟩
  obtain ⟨b, rfl, hnum⟩ := hR.num h0
  have HB2 := Lib.hid (HB.out.trans (hR.below.mono HB.out.size))
  have HG2 := Lib.hid ((HG.out.below HB.out).below hR.below)
  clear hR HB
  go_wp2_with fail
  (with_reducible refine (fis_place_b b n m r hr _ hnum).mono ?_)
  rintro e w2 ⟨rfl, rfl⟩
  go_wp2_with fail
  (with_reducible refine (fis_num_same n _ HG2.out).mono ?_)
  rintro e w3 ⟨rfl, hb3⟩
  go_wp2_with fail
  (with_reducible refine (fis_nil_b m s hs _).mono ?_)
  rintro e w3 ⟨rfl, rfl⟩
  go_wp2_with fail
  go_ret
  exact ⟨by simp, HB2.out.trans (hb3.mono HB2.out.size)⟩

set_option maxHeartbeats 4000000 in
set_option maxRecDepth 100000 in
theorem is_zero (m : Int) (s : Bool) (hs : (m == 0) = s) (hs' : ((0 : Int) == m) = s) (v : Value) (xs : List ByteArray) (w : World) (hv : Strs w v xs) (hg : ErrType w) (h0 : 0 < xs.length) (h5 : xs.length ≤ 50) :
    Calls Tryd.prog 4 #[.int .i64 0, .int .i64 m, v] w fun e w' => e = .returned (.bool true) ∧ Below w.heap.size w w' := by
  obtain ⟨a, c, rfl⟩ := hv.len
  have HS := Lib.hid (small_true w hg)
  have HV := Lib.hid hv
  have HG := Lib.hid hg
  clear hv hg
  have e0 : ((xs.length : Int) == 0) = false := beq_eq_false_iff_ne.2 (by omega)
  have ess : (s == s) = true := by simp
  go_enter Tryd.func4, Tryd.ntmps4
  go_wp2_with fail
  (with_reducible refine HS.out.mono ?_)
  rintro e w1 ⟨rfl, hb⟩
  have HB := Lib.hid hb
  clear hb
  go_wp2_with fail
  (with_reducible refine (made_ok _ xs _ (HV.out.below HB.out) h0 h5).mono ?_)
  rintro e w2 ⟨pv, rfl, hR⟩
  have HB2 := Lib.hid (HB.out.trans (hR.mono HB.out.size))
  have HG2 := Lib.hid ((HG.out.below HB.out).below hR)
  clear hR HB
  go_wp2_with fail
  (with_reducible refine (fis_nil_b m s hs _).mono ?_)
  rintro e w2 ⟨rfl, rfl⟩
  go_wp2_with fail
  (with_reducible refine (fis_num_same 0 _ HG2.out).mono ?_)
  rintro e w3 ⟨rfl, hb3⟩
  go_wp2_with fail
  (with_reducible refine (fis_nil_b m s hs _).mono ?_)
  rintro e w3 ⟨rfl, rfl⟩
  go_wp2_with fail
  go_ret
  exact ⟨by simp, HB2.out.trans (hb3.mono HB2.out.size)⟩

theorem is_any (n m : Int) (v : Value) (xs : List ByteArray) (w : World) (hv : Strs w v xs) (hg : ErrType w) (hm : xs.length ≤ maxLen) :
    Calls Tryd.prog 4 #[.int .i64 n, .int .i64 m, v] w fun e w' => e = .returned (.bool true) ∧ Below w.heap.size w w' := by
  rcases lens xs.length with h | ⟨h0, h5⟩
  · exact is_few n m v xs w hv hg h hm
  · by_cases hn : n = 0
    · subst hn
      exact is_zero m _ rfl Bool.beq_comm v xs w hv hg h0 h5
    · exact is_some n m _ _ rfl rfl hn v xs w hv hg h0 h5
end Go.Proofs.YteggehjbkbfdfaaDoor
