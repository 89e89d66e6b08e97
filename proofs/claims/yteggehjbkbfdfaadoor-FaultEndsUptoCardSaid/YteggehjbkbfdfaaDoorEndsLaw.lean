/-
  The walk of crossbucklaw01.FaultEnds: true, where the places' texts are not too long to be joined.
-/
import Derived.Test.YteggehjbkbfdfaaDoorMakesLaw
namespace Go.Proofs.YteggehjbkbfdfaaDoor
open Go.RowKit Go.Extern.Stop Go.Stop Go.Extern

set_option maxHeartbeats 4000000 in
set_option maxRecDepth 100000 in
theorem ends_none (n : Int) (v : Value) (xs : List ByteArray) (w : World) (hv : Strs w v xs) (hg : ErrType w) (hc : (xs.length = 0 ∨ 50 < xs.length) ∨ n = 0) (hm : xs.length ≤ maxLen) :
    Calls Tryd.prog 8 #[.int .i64 n, v] w fun e w' => e = .returned (.bool true) ∧ Below w.heap.size w w' := by
  obtain ⟨a, c, rfl⟩ := hv.len
  have HS := Lib.hid (small_true w hg)
  clear hv hg
  unfold maxLen at hm
  generalize xs.length = k at *
  by_cases h0 : k = 0
  · subst h0
    go_enter Tryd.func8, Tryd.ntmps8
    go_wp2_with fail
    (with_reducible refine HS.out.mono ?_)
    rintro e w1 ⟨rfl, hb⟩
    go_wp2_with fail
    go_ret
    exact ⟨rfl, hb⟩
  · have e0 : ((k : Int) == 0) = false := by simp; omega
    by_cases h5 : 50 < k
    · go_enter Tryd.func8, Tryd.ntmps8
      go_wp2_with fail
      (with_reducible refine HS.out.mono ?_)
      rintro e w1 ⟨rfl, hb⟩
      go_wp2_with fail
      go_ret
      exact ⟨rfl, hb⟩
    · obtain rfl : n = 0 := by omega
      have h5' : k ≤ 50 := by omega
      clear h5
      go_enter Tryd.func8, Tryd.ntmps8
      go_wp2_with fail
      (with_reducible refine HS.out.mono ?_)
      rintro e w1 ⟨rfl, hb⟩
      go_wp2_with fail
      go_ret
      exact ⟨rfl, hb⟩

theorem rev_head {xs : List ByteArray} (h0 : 0 < xs.length) : ∃ ps, xs.reverse = xs[xs.length - 1] :: ps := by
  refine ⟨(xs.take (xs.length - 1)).reverse, ?_⟩
  have h := rev_succ (xs := xs) (k := xs.length - 1) (x := xs[xs.length - 1]) (List.getElem?_eq_getElem (by omega))
  rw [show xs.length - 1 + 1 = xs.length by omega, List.take_length] at h
  exact h

theorem ba_len (p : ByteArray) : p.data.toList.length = p.size := Array.length_toList
theorem cut_list (a b : List UInt8) (i k : Nat) (hi : i = a.length) (hk : k = a.length + b.length) : (a ++ b).extract i k = b := by
  subst hi hk
  rw [List.extract_eq_take_drop, List.drop_left, Nat.add_sub_cancel_left, List.take_length]
theorem cut_front (p R N : ByteArray) : (((p ++ (⟨#[58, 32]⟩ : ByteArray) ++ R ++ N).extract 0 (p.size + 2)).toList == (p ++ (⟨#[58, 32]⟩ : ByteArray)).toList) = true := by
  have h : (p ++ (⟨#[58, 32]⟩ : ByteArray) ++ R ++ N).extract 0 (p.size + 2) = p ++ (⟨#[58, 32]⟩ : ByteArray) := by
    apply ba_ext
    have hd : (p ++ (⟨#[58, 32]⟩ : ByteArray) ++ R ++ N).data.toList = (p.data.toList ++ [58, 32]) ++ (R.data.toList ++ N.data.toList) := by simp [ByteArray.data_append]
    have hl : (p.data.toList ++ [58, 32]).length = p.size + 2 := by rw [List.length_append, ba_len]; rfl
    rw [ByteArray.data_extract, Array.toList_extract, List.extract_eq_take_drop, hd, List.drop_zero, Nat.sub_zero, ← hl, List.take_left]
    simp [ByteArray.data_append]
  rw [h]; simp
theorem cut_back (p R N : ByteArray) : (((p ++ (⟨#[58, 32]⟩ : ByteArray) ++ R ++ N).extract (p.size + 2 + R.size) (p.size + 2 + R.size + N.size)).toList == N.toList) = true := by
  have h : (p ++ (⟨#[58, 32]⟩ : ByteArray) ++ R ++ N).extract (p.size + 2 + R.size) (p.size + 2 + R.size + N.size) = N := by
    apply ba_ext
    have hd : (p ++ (⟨#[58, 32]⟩ : ByteArray) ++ R ++ N).data.toList = (p.data.toList ++ [58, 32] ++ R.data.toList) ++ N.data.toList := by simp [ByteArray.data_append]
    have hl : (p.data.toList ++ [58, 32] ++ R.data.toList).length = p.size + 2 + R.size := by rw [List.length_append, List.length_append, ba_len, ba_len]; rfl
    rw [ByteArray.data_extract, Array.toList_extract, hd]
    exact cut_list _ _ _ _ hl.symm (by rw [hl, ba_len])
  rw [h]; simp

set_option maxHeartbeats 4000000 in
set_option maxRecDepth 100000 in
theorem ends_some (n : Int) (hn : n ≠ 0) (v : Value) (xs : List ByteArray) (w : World) (hv : Strs w v xs) (hg : ErrType w) (h0 : 0 < xs.length) (h5 : xs.length ≤ 50) (hi : ItoaOk n w) (hz : (preText xs.reverse).size ≤ 1000000000) :
    Calls Tryd.prog 8 #[.int .i64 n, v] w fun e w' => e = .returned (.bool true) ∧ Below w.heap.size w w' := by
  obtain ⟨g, o, c, hvv, hc, hgl, hlast⟩ := hv.at (xs.length - 1) (by omega)
  obtain ⟨ps, hrev⟩ := rev_head h0
  generalize hp0 : xs[xs.length - 1] = p0 at hlast hrev
  subst hvv
  have HS := Lib.hid (small_true w hg)
  have HV := Lib.hid hv
  have HI := Lib.hid hi
  have HL := Lib.hid hlast
  have mP := methodErrorP
  clear hv hg hi hp0 hlast
  have e0 : ((xs.length : Int) == 0) = false := beq_eq_false_iff_ne.2 (by omega)
  have e1 : (n == 0) = false := by simp [hn]
  go_enter Tryd.func8, Tryd.ntmps8
  go_wp2_with fail
  (with_reducible refine HS.out.mono ?_)
  rintro e w1 ⟨rfl, hb⟩
  have HB := Lib.hid hb
  clear hb
  go_wp2_with fail
  (with_reducible refine (made_num n hn _ xs _ (HV.out.below HB.out) h0 h5).mono ?_)
  rintro e w2 ⟨ev, pv, rfl, hR⟩
  obtain ⟨b, rfl, hnum⟩ := hR.num h0
  have hch := hR.chain
  rw [List.take_length, hrev] at hch
  rw [hrev] at hz
  have hpl : ps.length < 1000 := by
    have := congrArg List.length hrev
    simp at this; omega
  have HB2 := Lib.hid (HB.out.trans (hR.below.mono HB.out.size))
  have HI2 := Lib.hid (HI.out.below HB2.out)
  have hnz : (numText n).size ≤ 1000 := by
    have := HI.out.1
    unfold numText
    rw [size_app]
    have e1 : (⟨#[101, 114, 114, 111, 114, 32]⟩ : ByteArray).size = 6 := rfl
    have e2 : (⟨(Lib.itoa n).toArray⟩ : ByteArray).size = (Lib.itoa n).length := by simp [ByteArray.size]
    omega
  have HT := Lib.hid (place_text _ (numText n) p0 n ps b w2 (.inl ⟨n, rfl, HI2.out, rfl⟩) hch hpl (by rw [chainText_pre, size_app]; omega))
  rw [chainText_pre] at HT
  have hl2 := keeps_below HB2.out _ _ HL.out
  clear hR hch hrev HV HS HI HB hnum HL
  generalize hN : numText n = N at *
  go_wp2_with fail
  (with_reducible refine HT.out.mono ?_)
  rintro e w3 ⟨rfl, hb3⟩
  have hl3 := keeps_below hb3 _ _ hl2
  have HB3 := Lib.hid (HB2.out.trans (hb3.mono HB2.out.size))
  have HE := Lib.hid (errno_text n w3 (HI2.out.below hb3))
  rw [hN] at HE
  clear hl2 hb3 HB2 HI2 HT hN
  go_wp2_with fail
  (with_reducible refine HE.out.mono ?_)
  rintro e w4 ⟨rfl, hb4⟩
  have hl4 := keeps_below hb4 _ _ hl3
  have HB4 := Lib.hid (HB3.out.trans (hb4.mono HB3.out.size))
  clear hl3 hb4 HB3 HE
  rw [show preText (p0 :: ps) = p0 ++ (⟨#[58, 32]⟩ : ByteArray) ++ preText ps from rfl] at *
  generalize preText ps = R at *
  rw [size_app, size_app, size_two] at hz
  have hp0 : p0.size ≤ 1000000000 := by omega
  have hRz : R.size ≤ 1000000000 := by omega
  have c1 := cut_front p0 R N
  have c2 := cut_back p0 R N
  clear hz
  go_wp2_with fail
  go_ret
  exact ⟨rfl, HB4.out⟩

theorem ends_any (n : Int) (v : Value) (xs : List ByteArray) (w : World) (hv : Strs w v xs) (hg : ErrType w) (hm : xs.length ≤ maxLen) (hi : ItoaOk n w) (hz : (preText xs.reverse).size ≤ 1000000000) :
    Calls Tryd.prog 8 #[.int .i64 n, v] w fun e w' => e = .returned (.bool true) ∧ Below w.heap.size w w' := by
  rcases lens xs.length with h | ⟨h0, h5⟩
  · exact ends_none n v xs w hv hg (.inl h) hm
  · by_cases hn : n = 0
    · exact ends_none n v xs w hv hg (.inr hn) hm
    · exact ends_some n hn v xs w hv hg h0 h5 hi hz
end Go.Proofs.YteggehjbkbfdfaaDoor
