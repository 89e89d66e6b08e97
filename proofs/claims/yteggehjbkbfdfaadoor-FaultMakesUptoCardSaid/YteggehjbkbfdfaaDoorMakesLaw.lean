/-
  The walk of crossbucklaw01.FaultMakes: true, where the places' texts are not too long to be joined.
-/
import Derived.Test.YteggehjbkbfdfaaDoorRefText
import Derived.Laws.OwnMore
namespace Go.Proofs.YteggehjbkbfdfaaDoor
open Go.RowKit Go.Extern.Stop Go.Stop Go.Extern

set_option maxHeartbeats 4000000 in
set_option maxRecDepth 100000 in
theorem makes_few (n : Int) (v : Value) (xs : List ByteArray) (w : World) (hv : Strs w v xs) (hg : ErrType w) (hc : xs.length = 0 ∨ 50 < xs.length) (hm : xs.length ≤ maxLen) :
    Calls Tryd.prog 3 #[.int .i64 n, v] w fun e w' => e = .returned (.bool true) ∧ Below w.heap.size w w' := by
  obtain ⟨a, c, rfl⟩ := hv.len
  have HS := Lib.hid (small_true w hg)
  clear hv hg
  unfold maxLen at hm
  generalize xs.length = k at *
  by_cases h0 : k = 0
  · subst h0
    go_enter Tryd.func3, Tryd.ntmps3
    go_wp2_with fail
    (with_reducible refine HS.out.mono ?_)
    rintro e w1 ⟨rfl, hb⟩
    go_wp2_with fail
    go_ret
    exact ⟨rfl, hb⟩
  · have e0 : ((k : Int) == 0) = false := by simp; omega
    have h5 : 50 < k := by omega
    go_enter Tryd.func3, Tryd.ntmps3
    go_wp2_with fail
    (with_reducible refine HS.out.mono ?_)
    rintro e w1 ⟨rfl, hb⟩
    go_wp2_with fail
    go_ret
    exact ⟨rfl, hb⟩

set_option maxHeartbeats 4000000 in
set_option maxRecDepth 100000 in
theorem makes_zero (v : Value) (xs : List ByteArray) (w : World) (hv : Strs w v xs) (hg : ErrType w) (h0 : 0 < xs.length) (h5 : xs.length ≤ 50) :
    Calls Tryd.prog 3 #[.int .i64 0, v] w fun e w' => e = .returned (.bool true) ∧ Below w.heap.size w w' := by
  obtain ⟨a, c, rfl⟩ := hv.len
  have HS := Lib.hid (small_true w hg)
  have HV := Lib.hid hv
  clear hv hg
  have e0 : ((xs.length : Int) == 0) = false := beq_eq_false_iff_ne.2 (by omega)
  go_enter Tryd.func3, Tryd.ntmps3
  go_wp2_with fail
  (with_reducible refine HS.out.mono ?_)
  rintro e w1 ⟨rfl, hb⟩
  have HB := Lib.hid hb
  clear hb
  go_wp2_with fail
  (with_reducible refine (made_ok _ xs _ (HV.out.below HB.out) h0 h5).mono ?_)
  rintro e w2 ⟨pv, rfl, hR⟩
  have HB2 := Lib.hid (HB.out.trans (hR.mono HB.out.size))
  clear hR HB
  go_wp2_with fail
  (with_reducible refine (code_nil _).mono ?_)
  rintro e w2 ⟨rfl, rfl⟩
  go_wp2_with fail
  (with_reducible refine (path_nil _).mono ?_)
  rintro e w2 ⟨rfl, rfl⟩
  go_wp2_with fail
  go_ret
  exact ⟨rfl, HB2.out⟩

/-- What the loop over the path leaves: the path's own row, and older memory as it was. -/
structure Wiped (w wr : World) (g cap len : Nat) : Prop where
  own : ∃ ys, wr.ownsRow w.heap.size 9 1 (.slice (some ⟨g, 0, none⟩) len cap) len ys
  below : Below w.heap.size w wr

theorem Wiped.cell {w wr : World} {g cap len : Nat} (h : Wiped w wr g cap len) {k : Nat} (hk : k < len) : ∃ u, wr.cell? ⟨g, k, none⟩ = some u ∧ wr.frozen? ⟨g, k, none⟩ = false := by
  obtain ⟨ys, ho⟩ := h.own
  have hl : ys.length = len * 1 := ho.1
  refine ⟨ys[k]'(by omega), ?_, ho.frozenAt k⟩
  rw [ho.cellAt k (by omega)]
  exact List.getElem?_eq_getElem _
theorem Wiped.store {w wr : World} {g cap len : Nat} (h : Wiped w wr g cap len) (hg : w.heap.size ≤ g) (k : Nat) (u : Value) : Wiped w (wr.setCell ⟨g, k, none⟩ u) g cap len := by
  obtain ⟨ys, ho⟩ := h.own
  exact ⟨⟨_, (ho.stored k u).1⟩, h.below.setCell hg _⟩

set_option maxHeartbeats 4000000 in
set_option maxRecDepth 100000 in
theorem makes_some (n : Int) (hn : n ≠ 0) (v : Value) (xs : List ByteArray) (w : World) (hv : Strs w v xs) (hg : ErrType w) (h0 : 0 < xs.length) (h5 : xs.length ≤ 50) (hi : ItoaOk n w) (hz : (preText xs.reverse).size ≤ 1000000000) :
    Calls Tryd.prog 3 #[.int .i64 n, v] w fun e w' => e = .returned (.bool true) ∧ Below w.heap.size w w' := by
  obtain ⟨a, c, rfl⟩ := hv.len
  have HS := Lib.hid (small_true w hg)
  have HV := Lib.hid hv
  have HI := Lib.hid hi
  have mP := methodErrorP
  clear hv hg hi
  have e0 : ((xs.length : Int) == 0) = false := beq_eq_false_iff_ne.2 (by omega)
  have e1 : (n == 0) = false := by simp [hn]
  have e2 : (n == n) = true := by simp
  go_enter Tryd.func3, Tryd.ntmps3
  go_wp2_with fail
  (with_reducible refine HS.out.mono ?_)
  rintro e w1 ⟨rfl, hb⟩
  have HB := Lib.hid hb
  clear hb
  go_wp2_with fail
  (with_reducible refine (made_num n hn _ xs _ (HV.out.below HB.out) h0 h5).mono ?_)
  rintro e w2 ⟨ev, pv, rfl, hR⟩
  obtain ⟨b, rfl, hnum⟩ := hR.num h0
  have hch := hR.chain
  have hown := hR.own
  rw [List.take_length] at hch hown
  have hcl : xs.reverse.length ≤ 50 := by simpa using h5
  have hcp : 0 < xs.reverse.length := by simpa using h0
  have hown' : w2.ownsRow w1.heap.size 9 1 pv xs.reverse.length (xs.reverse.map Value.string) := by rw [List.length_reverse]; exact hown
  generalize hcs : xs.reverse = cs at *
  have HB2 := Lib.hid (HB.out.trans (hR.below.mono HB.out.size))
  have HI2 := Lib.hid (HI.out.below HB2.out)
  have HC := Lib.hid hch
  have HP := Lib.hid (Strs.of_own hown')
  clear hR HB hch hcs HV HS hown hown' HI
  obtain ⟨ap, cpp, hpv⟩ := HP.out.len
  subst hpv
  go_wp2_with fail
  (with_reducible refine (path_any _ n cs _ _ (isBase_num n) HC.out (by omega)).mono ?_)
  rintro e w3 ⟨sp, rfl, hown, hb3⟩
  obtain ⟨g, cap, rfl, hcap, hgl, hBg, _⟩ := own_some hown hcp
  have HO := Lib.hid hown
  have HB3 := Lib.hid hb3
  clear hown hb3
  go_wp2_with fail
  (with_reducible refine (same_true _ _ cs _ (Strs.of_own HO.out) (HP.out.below HB3.out) (by omega)).mono ?_)
  rintro e w4 ⟨rfl, hb4⟩
  have HW : Hid (Wiped w2 w4 g cap cs.length) := ⟨⟨_, own_below HO.out hb4⟩, HB3.out.trans (hb4.mono HB3.out.size)⟩
  clear hb4 HO HB3 hgl
  go_wp2_with fail
  go_loopw [11] (fun i wr => ∃ k : Nat, k ≤ cs.length ∧ i = .int .i64 k ∧ Wiped w2 wr g cap cs.length) (fun i _ => cs.length - (intOf i).toNat)
  case atStart => exact ⟨0, Nat.zero_le _, rfl, HW.out⟩
  case round =>
    obtain ⟨k, hk, rfl, hw⟩ := hrel
    by_cases hlt : k < cs.length
    · obtain ⟨u, hc1, hf1⟩ := hw.cell hlt
      have HW1 := Lib.hid (hw.store hBg k (.string ⟨#[122]⟩))
      have hltI : (k : Int) < (cs.length : Int) := by omega
      clear hw
      go_wp2_with fail
      go_roundw
      case rel => exact ⟨k + 1, by omega, by go_num, HW1.out⟩
      case measure => simp [intOf]; omega
    · have hbW := hw.below
      have hnumW := keeps_below hbW _ _ hnum
      have HCW := Lib.hid (HC.out.kept (keeps_below hbW))
      have HPW := Lib.hid (HP.out.below hbW)
      have HBW := Lib.hid (HB2.out.trans (hbW.mono HB2.out.size))
      have HIW := Lib.hid (HI2.out.below hbW)
      clear hw hbW hnum HC HP HB2 HI2 HW
      have hTz : (chainText cs (numText n)).size ≤ 140737488355328 := by
        rw [chainText_pre, size_app]
        have := HIW.out.1
        have e3 : (⟨#[101, 114, 114, 111, 114, 32]⟩ : ByteArray).size = 6 := rfl
        have e4 : (⟨(Lib.itoa n).toArray⟩ : ByteArray).size = (Lib.itoa n).length := by simp [ByteArray.size]
        unfold numText
        rw [size_app]
        omega
      obtain ⟨p0, ps, hcs⟩ : ∃ p0 ps, cs = p0 :: ps := by
        cases cs with
        | nil => simp at hcp
        | cons p0 ps => exact ⟨_, _, rfl⟩
      have HT := Lib.hid (place_text _ (numText n) p0 n ps b wr (.inl ⟨n, rfl, HIW.out, rfl⟩) (by rw [← hcs]; exact HCW.out) (by rw [hcs] at hcl; simp at hcl; omega) (by rw [← hcs]; exact hTz))
      rw [← hcs] at HT
      clear hcs hTz
      go_wp2_with fail
      (with_reducible refine HT.out.mono ?_)
      rintro e w5 ⟨rfl, hb5⟩
      have hnum5 := keeps_below hb5 _ _ hnumW
      have HC5 := Lib.hid (HCW.out.kept (keeps_below hb5))
      have HP5 := Lib.hid (HPW.out.below hb5)
      have HB5 := Lib.hid (HBW.out.trans (hb5.mono HBW.out.size))
      have HI5 := Lib.hid (HIW.out.below hb5)
      clear hnumW HCW HPW HBW HIW HT hb5
      go_wp2_with fail
      (with_reducible refine (text_any n _ cs _ HP5.out (by omega) HI5.out hz).mono ?_)
      rintro e w6 ⟨rfl, hb6⟩
      have hnum6 := keeps_below hb6 _ _ hnum5
      have HC6 := Lib.hid (HC5.out.kept (keeps_below hb6))
      have HP6 := Lib.hid (HP5.out.below hb6)
      have HB6 := Lib.hid (HB5.out.trans (hb6.mono HB5.out.size))
      clear hnum5 HC5 HP5 HB5 HI5 hb6
      generalize chainText cs (numText n) = T at *
      go_wp2_with fail
      (with_reducible refine (code_place _ n _ hnum6).mono ?_)
      rintro e w6 ⟨rfl, rfl⟩
      go_wp2_with fail
      (with_reducible refine (path_any _ n cs _ _ (isBase_num n) HC6.out (by omega)).mono ?_)
      rintro e w7 ⟨sq, rfl, hown7, hb7⟩
      have HS7 := Lib.hid (Strs.of_own hown7)
      have HP7 := Lib.hid (HP6.out.below hb7)
      have HB7 := Lib.hid (HB6.out.trans (hb7.mono HB6.out.size))
      clear hown7 hb7 HC6 HP6 HB6 hnum6
      go_wp2_with fail
      (with_reducible refine (same_true _ _ cs _ HS7.out HP7.out (by omega)).mono ?_)
      rintro e w8 ⟨rfl, hb8⟩
      go_wp2_with fail
      go_ret
      exact ⟨rfl, HB7.out.trans (hb8.mono HB7.out.size)⟩

theorem makes_any (n : Int) (v : Value) (xs : List ByteArray) (w : World) (hv : Strs w v xs) (hg : ErrType w) (hm : xs.length ≤ maxLen) (hi : ItoaOk n w) (hz : (preText xs.reverse).size ≤ 1000000000) :
    Calls Tryd.prog 3 #[.int .i64 n, v] w fun e w' => e = .returned (.bool true) ∧ Below w.heap.size w w' := by
  rcases lens xs.length with h | ⟨h0, h5⟩
  · exact makes_few n v xs w hv hg h hm
  · by_cases hn : n = 0
    · subst hn
      exact makes_zero v xs w hv hg h0 h5
    · exact makes_some n hn v xs w hv hg h0 h5 hi hz
end Go.Proofs.YteggehjbkbfdfaaDoor
