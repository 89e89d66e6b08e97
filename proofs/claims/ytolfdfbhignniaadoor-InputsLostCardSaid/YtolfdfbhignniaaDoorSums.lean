/-
  CrcRseal FrRenc CrcSum: merged.
-/
import Derived.Test.YtolfdfbhignniaaDoorBase
/-
  The document's own sum of a byte, Add, Sum and Seal, by contract.
-/
namespace Go.Proofs.YtolfdfbhignniaaDoor
open Go.RowKit

set_option maxHeartbeats 1000000 in
theorem one_any (s : BitVec 16) (x : BitVec 8) (w : World) :
    Calls Tryd.prog 86 #[.int .u16 (s.toNat : Int), .int .u8 (x.toNat : Int)] w fun e w' => e = .returned (.int .u16 ((crcByte s x).toNat : Int)) ∧ w = w' := by
  have h1 := s.isLt
  have h2 := x.isLt
  have e0 := first16 s x
  have HC := Lib.hid (show crcByte s x = stps 8 (s ^^^ (wide x <<< 8)) from rfl)
  generalize s ^^^ (wide x <<< 8) = r0 at *
  go_enter Tryd.func86, Tryd.ntmps86
  go_wp2
  clear e0
  go_loop [0, 5] (fun t i => ∃ k : Nat, k ≤ 8 ∧ i = .int .i64 k ∧ t = .int .u16 ((stps k r0).toNat : Int)) (fun _ i => 8 - (intOf i).toNat)
  case atStart => exact ⟨0, by omega, rfl, rfl⟩
  case round =>
    obtain ⟨k, hk, rfl, rfl⟩ := hrel
    have hr := (stps k r0).isLt
    have HS := Lib.hid (show stps (k + 1) r0 = stp (stps k r0) from rfl)
    by_cases hlt : k < 8
    · generalize stps k r0 = r at *
      by_cases hm : 32768 ≤ r.toNat
      · have HN := Lib.hid (stp_high hm)
        have hd : decide ((32768 : Int) ≤ (r.toNat : Int)) = true := by simp; omega
        go_wp2
        go_round
        case rel => exact ⟨k + 1, by omega, by go_num, by rw [HS.out, HN.out]⟩
        case measure => simp [intOf]; omega
      · have hm' : r.toNat < 32768 := by omega
        have HN := Lib.hid (stp_low hm')
        have hd : decide ((32768 : Int) ≤ (r.toNat : Int)) = false := by simp; omega
        clear hm
        go_wp2
        go_round
        case rel => exact ⟨k + 1, by omega, by go_num, by rw [HS.out, HN.out]⟩
        case measure => simp [intOf]; omega
    · go_wp2
      go_ret
      obtain rfl : k = 8 := by omega
      exact ⟨by rw [HC.out]; rfl, rfl⟩
set_option maxHeartbeats 1000000 in
theorem radd_any (s : BitVec 16) (v : Value) (xs : List (BitVec 8)) (w : World) (hv : Byts w v xs) (hl : xs.length ≤ maxLen) :
    Calls Tryd.prog 84 #[.int .u16 (s.toNat : Int), v] w fun e w' => e = .returned (.int .u16 ((crcAdd s xs).toNat : Int)) ∧ w = w' := by
  obtain ⟨av, cv, ev⟩ := hv.len
  have HV := Lib.hid hv
  clear hv
  subst ev
  unfold maxLen at hl
  go_enter Tryd.func84, Tryd.ntmps84
  go_wp2
  go_loop [0, 5] (fun t i => ∃ k : Nat, k ≤ xs.length ∧ i = .int .i64 k ∧ t = .int .u16 ((crcAdd s (xs.take k)).toNat : Int)) (fun _ i => xs.length - (intOf i).toNat)
  case atStart => exact ⟨0, by omega, rfl, rfl⟩
  case round =>
    obtain ⟨k, hk, rfl, rfl⟩ := hrel
    by_cases hlt : k < xs.length
    · obtain ⟨g, o, c, x, e1, hc1, hg1, hx, h1⟩ := HV.out.at_ k hlt
      have HS := Lib.hid (crcAdd_next s xs k x hx)
      clear hx
      simp only [Value.slice.injEq] at e1
      obtain ⟨rfl, _, rfl⟩ := e1
      generalize crcAdd s (xs.take k) = r at *
      go_wp2_with fail
      (with_reducible refine (one_any _ _ _).mono ?_)
      rintro e w1 ⟨rfl, rfl⟩
      go_wp2_with fail
      go_round
      case rel => exact ⟨k + 1, by omega, by go_num, by rw [HS.out]⟩
      case measure => simp [intOf]; omega
    · go_wp2
      go_ret
      obtain rfl : k = xs.length := by omega
      exact ⟨by rw [List.take_length]; rfl, rfl⟩

theorem rsum_any (v : Value) (xs : List (BitVec 8)) (w : World) (hv : Byts w v xs) (hl : xs.length ≤ maxLen) :
    Calls Tryd.prog 79 #[v] w fun e w' => e = .returned (.int .u16 ((crcSum xs).toNat : Int)) ∧ w = w' := by
  have HV := Lib.hid hv
  clear hv
  have HA := Lib.hid (radd_any 0xffff#16 v xs w HV.out hl)
  rw [← ffff] at HA
  go_enter Tryd.func79, Tryd.ntmps79
  go_wp2_with fail
  (with_reducible refine HA.out.mono ?_)
  rintro e w1 ⟨rfl, rfl⟩
  go_wp2_with fail
  go_ret
  exact ⟨rfl, rfl⟩
set_option maxHeartbeats 1000000 in
theorem rseal_any (v : Value) (xs : List (BitVec 8)) (w : World) (hv : Byts w v xs) (hl : xs.length ≤ 1000000) :
    Calls Tryd.prog 73 #[v] w fun e w' => ∃ r, e = .returned r ∧ Own w' w.heap.size r (sealed xs) ∧ Below w.heap.size w w' := by
  obtain ⟨av, cv, ev⟩ := hv.len
  have HV := Lib.hid hv
  have hs := (crcSum xs).isLt
  have HX := Lib.hid (show sealed xs = xs ++ [hi (crcSum xs), lo (crcSum xs)] from rfl)
  clear hv
  subst ev
  go_enter Tryd.func73, Tryd.ntmps73
  go_wp2_with fail
  (with_reducible refine (rsum_any _ xs _ HV.out (by unfold maxLen; omega)).mono ?_)
  rintro e w1 ⟨rfl, rfl⟩
  generalize crcSum xs = s at *
  have HO := Lib.hid (own_lit w w.heap.size [] (Nat.le_refl _) (by unfold maxLen; simp))
  have HB := Lib.hid ((Below.refl w.heap.size w).alloc (Nat.le_refl _) (.cells #[] 5))
  have HV1 := Lib.hid (HV.out.below HB.out)
  have tok1 : True := trivial
  have hsz := HB.out.size
  go_wp2_with (first
    | (at_builtin; have _t := tok1; refine wpList_app rfl _ _ rfl w.heap.size _ [] rfl HO.out _ xs rfl HV1.out (by simp; omega) hsz ?_; intro v1 w1 hown1 hg1; have HO1 := Lib.hid hown1; have HB1 := Lib.hid (HO.out.grown HB.out hg1); have hsz1 := HB1.out.size; clear hown1 hg1 tok1 _t HO HB HV1 hsz)
    | (at_builtin; refine wpList_app rfl _ _ rfl w.heap.size _ _ rfl (HO1.out.alloc _) _ [hi s, lo s] rfl (two_src _ _) (by simp; omega) (le_alloc hsz1 _) ?_; intro v2 w2 hown2 hg2; have HO2 := Lib.hid hown2; have HB2 := Lib.hid ((HO1.out.alloc _).grown (below_alloc HB1.out _) hg2); clear hown2 hg2 HO1 HB1 hsz1))
  go_ret
  exact ⟨_, rfl, by rw [HX.out]; simpa using HO2.out, HB2.out⟩
end Go.Proofs.YtolfdfbhignniaaDoor
/-
  The document's Encode, by contract.
-/
namespace Go.Proofs.YtolfdfbhignniaaDoor
open Go.RowKit

set_option maxHeartbeats 1000000 in
theorem renc_yes (x y : BitVec 8) (u : Value) (xs : List (BitVec 8)) (w : World) (hu : Byts w u xs) (hx : x.toNat ≤ 15) (hl : xs.length ≤ 16) :
    Calls Tryd.prog 56 #[.agg #[.int .i64 (x.toNat : Int), .int .i64 (y.toNat : Int), u]] w fun e w' => ∃ r, e = .returned (.tuple #[r, .int .i64 0]) ∧ Own w' w.heap.size r (sealed (frm x y xs)) ∧ Below w.heap.size w w' := by
  obtain ⟨av, cv, ev⟩ := hu.len
  have HU := Lib.hid hu
  have hy := y.isLt
  have HL := Lib.hid hl
  have HH := Lib.hid (head_cel x y xs.length hl)
  have k1 : IntKind.u8.wrap (x.toNat : Int) = (x.toNat : Int) := by simp [IntKind.wrap, IntKind.bits, IntKind.signed]; omega
  have k2 : IntKind.u8.wrap (y.toNat : Int) = (y.toNat : Int) := by simp [IntKind.wrap, IntKind.bits, IntKind.signed]; omega
  have k3 : IntKind.u8.wrap (xs.length : Int) = (xs.length : Int) := by simp [IntKind.wrap, IntKind.bits, IntKind.signed]; omega
  have q1 : decide ((x.toNat : Int) < 0) = false := decide_eq_false (by omega)
  have q2 : decide ((15 : Int) < (x.toNat : Int)) = false := decide_eq_false (by omega)
  have q3 : decide ((y.toNat : Int) < 0) = false := decide_eq_false (by omega)
  have q4 : decide ((255 : Int) < (y.toNat : Int)) = false := decide_eq_false (by omega)
  have q5 : decide ((16 : Int) < (xs.length : Int)) = false := decide_eq_false (by omega)
  clear hu hx hy hl
  subst ev
  have HB := Lib.hid (below_alloc (Below.refl _ w) (.cells #[.int .i64 (x.toNat : Int), .int .i64 (y.toNat : Int), .slice av xs.length cv] 84))
  obtain ⟨d0, d1, d2⟩ := (box_new w (x.toNat : Int) (y.toNat : Int) (.slice av xs.length cv)).cells
  generalize hw1 : w.alloc (.cells #[.int .i64 (x.toNat : Int), .int .i64 (y.toNat : Int), .slice av xs.length cv] 84) = w1 at *
  have HO0 := own_lit w1 w1.heap.size [x, y, BitVec.ofNat 8 xs.length] (Nat.le_refl _) (by unfold maxLen; simp)
  rw [← HH.out, show ([x, y, BitVec.ofNat 8 xs.length] : List (BitVec 8)).length = 3 from rfl] at HO0
  have HO := Lib.hid HO0
  clear HO0
  have HB1 := Lib.hid (below_alloc (Below.refl _ w1) (.cells #[.int .u8 (x.toNat : Int), .int .u8 (y.toNat : Int), .int .u8 (xs.length : Int)] 5))
  have HU1 := Lib.hid ((HU.out.below HB.out).below HB1.out)
  have d2a := below_cell HB1.out d2
  have hsz := HB1.out.size
  have HLL := Lib.hid (show ([x, y, BitVec.ofNat 8 xs.length] : List (BitVec 8)).length + xs.length ≤ 140737488355328 by have := HL.out; simp; omega)
  go_enter Tryd.func56, Tryd.ntmps56
  go_wp2_with (first | (rw [hw1]) | (at_builtin; refine wpList_app rfl _ _ rfl w1.heap.size _ [x, y, BitVec.ofNat 8 xs.length] rfl HO.out _ xs rfl HU1.out HLL.out hsz ?_; intro v1 w2 hown1 hg1; have HO1 := Lib.hid hown1; have HB2 := Lib.hid (HO.out.grown HB1.out hg1); clear hown1 hg1 HO HB1 HU1 hsz))
  have HB3 := Lib.hid (below_call HB.out HB2.out)
  (with_reducible refine (rseal_any _ (frm x y xs) _ HO1.out.byts (by have := HL.out; simp [frm]; omega)).mono ?_)
  rintro e w3 ⟨r, rfl, hown, hb⟩
  have HR := Lib.hid (hown.mono HB3.out.size)
  have HB4 := Lib.hid (below_call HB3.out hb)
  clear hown hb
  go_wp2_with fail
  go_ret2
  exact ⟨_, rfl, HR.out, HB4.out⟩
theorem renc_no (c q : Int) (u : Value) (xs : List (BitVec 8)) (w : World) (hu : Byts w u xs) (h : ¬ Fit c q xs.length) :
    Calls Tryd.prog 56 #[.agg #[.int .i64 c, .int .i64 q, u]] w fun e w' => e = .returned (.tuple #[.slice none 0 0, .int .i64 1]) ∧ Below w.heap.size w w' := by
  obtain ⟨av, cv, ev⟩ := hu.len
  have HF := Lib.hid h
  clear hu h
  subst ev
  by_cases h1 : c < 0
  · have q1 : decide (c < 0) = true := decide_eq_true h1
    clear h1
    go_enter Tryd.func56, Tryd.ntmps56
    go_wp2_with fail
    go_ret2
    exact ⟨rfl, below_alloc (Below.refl _ w) _⟩
  · have q1 : decide (c < 0) = false := decide_eq_false h1
    by_cases h2 : (15 : Int) < c
    · have q2 : decide ((15 : Int) < c) = true := decide_eq_true h2
      clear h1 h2
      go_enter Tryd.func56, Tryd.ntmps56
      go_wp2_with fail
      go_ret2
      exact ⟨rfl, below_alloc (Below.refl _ w) _⟩
    · have q2 : decide ((15 : Int) < c) = false := decide_eq_false h2
      by_cases h3 : q < 0
      · have q3 : decide (q < 0) = true := decide_eq_true h3
        clear h1 h2 h3
        go_enter Tryd.func56, Tryd.ntmps56
        go_wp2_with fail
        go_ret2
        exact ⟨rfl, below_alloc (Below.refl _ w) _⟩
      · have q3 : decide (q < 0) = false := decide_eq_false h3
        by_cases h4 : (255 : Int) < q
        · have q4 : decide ((255 : Int) < q) = true := decide_eq_true h4
          clear h1 h2 h3 h4
          go_enter Tryd.func56, Tryd.ntmps56
          go_wp2_with fail
          go_ret2
          exact ⟨rfl, below_alloc (Below.refl _ w) _⟩
        · have q4 : decide ((255 : Int) < q) = false := decide_eq_false h4
          have q5 : decide ((16 : Int) < (xs.length : Int)) = true := decide_eq_true (by
            refine Int.lt_of_not_ge fun h5 => HF.out ⟨by omega, by omega, by omega, by omega, by omega⟩)
          clear h1 h2 h3 h4
          go_enter Tryd.func56, Tryd.ntmps56
          go_wp2_with fail
          go_ret2
          exact ⟨rfl, below_alloc (Below.refl _ w) _⟩
end Go.Proofs.YtolfdfbhignniaaDoor
/-
  crc's sum of a byte, Add and Sum, by contract.
-/
namespace Go.Proofs.YtolfdfbhignniaaDoor
open Go.RowKit

set_option maxHeartbeats 1000000 in
theorem byte_any (s : BitVec 16) (x : BitVec 8) (w : World) :
    Calls Tryd.prog 85 #[.int .u16 (s.toNat : Int), .int .u8 (x.toNat : Int)] w fun e w' => e = .returned (.int .u16 ((crcByte s x).toNat : Int)) ∧ w = w' := by
  have h1 := s.isLt
  have h2 := x.isLt
  have e0 := first16 s x
  have HC := Lib.hid (show crcByte s x = stps 8 (s ^^^ (wide x <<< 8)) from rfl)
  generalize s ^^^ (wide x <<< 8) = r0 at *
  go_enter Tryd.func85, Tryd.ntmps85
  go_wp2
  clear e0
  go_loop [0, 11] (fun t i => ∃ k : Nat, k ≤ 8 ∧ i = .int .i64 k ∧ t = .int .u16 ((stps k r0).toNat : Int)) (fun _ i => 8 - (intOf i).toNat)
  case atStart => exact ⟨0, by omega, rfl, rfl⟩
  case round =>
    obtain ⟨k, hk, rfl, rfl⟩ := hrel
    have hA := and_high (stps k r0)
    have hr := (stps k r0).isLt
    have HS := Lib.hid (show stps (k + 1) r0 = stp (stps k r0) from rfl)
    by_cases hlt : k < 8
    · generalize stps k r0 = r at *
      by_cases hm : 32768 ≤ r.toNat
      · have HN := Lib.hid (stp_high hm)
        have hb : r.msb = true := by rw [high16]; simp; omega
        simp only [hb, if_true] at hA
        clear hb
        go_wp2
        go_round
        case rel => exact ⟨k + 1, by omega, by go_num, by rw [HS.out, HN.out]⟩
        case measure => simp [intOf]; omega
      · have hm' : r.toNat < 32768 := by omega
        have HN := Lib.hid (stp_low hm')
        have hb : r.msb = false := by rw [high16]; simp; omega
        simp only [hb] at hA
        clear hb hm
        go_wp2
        go_round
        case rel => exact ⟨k + 1, by omega, by go_num, by rw [HS.out, HN.out]⟩
        case measure => simp [intOf]; omega
    · go_wp2
      go_ret
      obtain rfl : k = 8 := by omega
      exact ⟨by rw [HC.out]; rfl, rfl⟩

set_option maxHeartbeats 1000000 in
theorem add_any (s : BitVec 16) (v : Value) (xs : List (BitVec 8)) (w : World) (hv : Byts w v xs) (hl : xs.length ≤ maxLen) :
    Calls Tryd.prog 83 #[.int .u16 (s.toNat : Int), v] w fun e w' => e = .returned (.int .u16 ((crcAdd s xs).toNat : Int)) ∧ w = w' := by
  obtain ⟨av, cv, ev⟩ := hv.len
  have HV := Lib.hid hv
  clear hv
  subst ev
  unfold maxLen at hl
  go_enter Tryd.func83, Tryd.ntmps83
  go_wp2
  go_loop [0, 9] (fun t i => ∃ k : Nat, k ≤ xs.length ∧ i = .int .i64 k ∧ t = .int .u16 ((crcAdd s (xs.take k)).toNat : Int)) (fun _ i => xs.length - (intOf i).toNat)
  case atStart => exact ⟨0, by omega, rfl, rfl⟩
  case round =>
    obtain ⟨k, hk, rfl, rfl⟩ := hrel
    by_cases hlt : k < xs.length
    · obtain ⟨g, o, c, x, e1, hc1, hg1, hx, h1⟩ := HV.out.at_ k hlt
      have HS := Lib.hid (crcAdd_next s xs k x hx)
      clear hx
      simp only [Value.slice.injEq] at e1
      obtain ⟨rfl, _, rfl⟩ := e1
      generalize crcAdd s (xs.take k) = r at *
      go_wp2_with fail
      (with_reducible refine (byte_any _ _ _).mono ?_)
      rintro e w1 ⟨rfl, rfl⟩
      go_wp2_with fail
      go_round
      case rel => exact ⟨k + 1, by omega, by go_num, by rw [HS.out]⟩
      case measure => simp [intOf]; omega
    · go_wp2
      go_ret
      obtain rfl : k = xs.length := by omega
      exact ⟨by rw [List.take_length]; rfl, rfl⟩

theorem sum_any (v : Value) (xs : List (BitVec 8)) (w : World) (hv : Byts w v xs) (hl : xs.length ≤ maxLen) :
    Calls Tryd.prog 78 #[v] w fun e w' => e = .returned (.int .u16 ((crcSum xs).toNat : Int)) ∧ w = w' := by
  have HV := Lib.hid hv
  clear hv
  have HA := Lib.hid (add_any 0xffff#16 v xs w HV.out hl)
  rw [← ffff] at HA
  go_enter Tryd.func78, Tryd.ntmps78
  go_wp2_with fail
  (with_reducible refine HA.out.mono ?_)
  rintro e w1 ⟨rfl, rfl⟩
  go_wp2_with fail
  go_ret
  exact ⟨rfl, rfl⟩
end Go.Proofs.YtolfdfbhignniaaDoor
