/-
  config's readLine by contract.
-/
import Derived.Test.YthjpacdhaeoecaaDoorCfCheck
import Derived.Test.YthjpacdhaeoecaaDoorOcCalls
namespace Go.Proofs.YthjpacdhaeoecaaDoor
open Go.RowKit

/-- A reader over xs that was asked for m bytes. -/
def RdAt (w : World) (b lo L : Nat) (xs : List (BitVec 8)) (m : Nat) : Prop := Rd w 93 b lo L (xs.drop m) (decide (xs.length < m))
theorem RdAt.took {w w' : World} {b lo L : Nat} {xs : List (BitVec 8)} {m k : Nat} (h : Took 93 b lo L (xs.drop m) (decide (xs.length < m)) k w w') (hk : 0 < k) : RdAt w' b lo L xs (m + k) := by
  have h1 := h.1
  unfold RdAt
  rw [List.drop_drop] at h1
  have e : (decide (xs.length < m) || decide ((xs.drop m).length < k)) = decide (xs.length < m + k) := by
    rw [List.length_drop, ← Bool.decide_or]
    congr 1
    apply propext
    omega
  rw [e] at h1
  exact h1
theorem Blk.apart {w w' : World} {g b : Nat} {C : Array Value} {T : TypeId} (h : Blk w g C T) (ha : Apart b w w') (hn : g ≠ b) : Blk w' g C T := (ha.block g h.lt hn).trans h
theorem RdAt.below {w w' : World} {b lo L : Nat} {xs : List (BitVec 8)} {m : Nat} (h : RdAt w b lo L xs m) (hb : Below w.heap.size w w') : RdAt w' b lo L xs m := Rd.below h hb
theorem RdAt.lt {w : World} {b lo L : Nat} {xs : List (BitVec 8)} {m : Nat} (h : RdAt w b lo L xs m) : b < w.heap.size := Rd.lt h
theorem Apart.own {w w' : World} {b : Nat} (h : Apart b w w') (g o : Nat) (u : Value) (hg : w.heap.size ≤ g) : Apart b w (w'.setCell ⟨g, o, none⟩ u) :=
  ⟨h.os, h.tape, h.output, by simpa [World.setCell] using h.size, fun k hk hn => (Below.heap_setCell _ _ _ _ (by simp only; omega)).trans (h.block k hk hn)⟩
/-- A store far from the reader. -/
theorem RdAt.far {w : World} {b lo L : Nat} {xs : List (BitVec 8)} {m : Nat} (h : RdAt w b lo L xs m) (g o : Nat) (u : Value) (hg : b < g) : RdAt (w.setCell ⟨g, o, none⟩ u) b lo L xs m := by
  have hle := Rd.le h
  exact Rd.apart h (Apart.set_ g o w u) (by omega) (.inr (by omega))
theorem at_u16 {w : World} {b lo L : Nat} {xs : List (BitVec 8)} {m : Nat} (h : RdAt w b lo L xs m) :
    Calls Tryd.prog 41 #[.pointer (some ⟨b, 0, none⟩)] w fun e w' => e = .returned (.int .u16 (val 2 (xs.drop m) : Int)) ∧ RdAt w' b lo L xs (m + 2) ∧ Apart b w w' :=
  (u16_any 93 b lo L _ _ w h).mono fun _ _ ⟨he, ht⟩ => ⟨he, RdAt.took ht (by decide), ht.2⟩
theorem at_u32 {w : World} {b lo L : Nat} {xs : List (BitVec 8)} {m : Nat} (h : RdAt w b lo L xs m) :
    Calls Tryd.prog 52 #[.pointer (some ⟨b, 0, none⟩)] w fun e w' => e = .returned (.int .u32 (val 4 (xs.drop m) : Int)) ∧ RdAt w' b lo L xs (m + 4) ∧ Apart b w w' :=
  (u32_any 93 b lo L _ _ w h).mono fun _ _ ⟨he, ht⟩ => ⟨he, RdAt.took ht (by decide), ht.2⟩
theorem at_u8 {w : World} {b lo L : Nat} {xs : List (BitVec 8)} {m : Nat} (h : RdAt w b lo L xs m) :
    Calls Tryd.prog 40 #[.pointer (some ⟨b, 0, none⟩)] w fun e w' => e = .returned (.int .u8 (val 1 (xs.drop m) : Int)) ∧ RdAt w' b lo L xs (m + 1) ∧ Apart b w w' :=
  (u8_any 93 b lo L _ _ w h).mono fun _ _ ⟨he, ht⟩ => ⟨he, RdAt.took ht (by decide), ht.2⟩

/-- The first j of numbers, the others 0. -/
def upto (f : Nat → Int) (j i : Nat) : Int := if i < j then f i else 0
theorem upto_set3 (k g : Value) (f : Nat → Int) (j : Nat) (h : j < 3) (x : Int) (hx : x = f j) :
    (#[k, g, .int .i64 (upto f j 0), .int .i64 (upto f j 1), .int .i64 (upto f j 2)] : Array Value).setIfInBounds (2 + j) (.int .i64 x) = #[k, g, .int .i64 (upto f (j + 1) 0), .int .i64 (upto f (j + 1) 1), .int .i64 (upto f (j + 1) 2)] := by
  subst hx
  rcases j with _ | _ | _ | j
  · simp [upto]
  · simp [upto]
  · simp [upto]
  · omega

theorem five_at (c0 c1 c2 c3 c4 : Value) (j : Nat) (h : j < 3) : ∃ u, (#[c0, c1, c2, c3, c4] : Array Value)[2 + j]? = some u := by
  rcases j with _ | _ | _ | j
  · exact ⟨_, rfl⟩
  · exact ⟨_, rfl⟩
  · exact ⟨_, rfl⟩
  · omega
set_option maxHeartbeats 2000000 in
theorem readLine_any {w : World} {b lo L : Nat} {xs : List (BitVec 8)} {m : Nat} (h : RdAt w b lo L xs m) :
    Calls Tryd.prog 42 #[.pointer (some ⟨b, 0, none⟩)] w fun e w' => e = .returned (.agg #[.int .i64 (rdL xs m).k, .int .i64 (rdL xs m).g, .int .i64 (rdL xs m).a, .int .i64 (rdL xs m).b, .int .i64 (rdL xs m).c]) ∧ RdAt w' b lo L xs (m + 14) ∧ Apart b w w' := by
  have HA := Lib.hid (blk_new w #[.int .i64 0, .int .i64 0, .int .i64 0, .int .i64 0, .int .i64 0] 48)
  have HB := Lib.hid (below_alloc (Below.refl _ w) (.cells #[.int .i64 0, .int .i64 0, .int .i64 0, .int .i64 0, .int .i64 0] 48))
  have HR := Lib.hid (h.below HB.out)
  have HAP := Lib.hid (Apart.of_below (b := b) HB.out)
  have hlt := h.lt
  have v1 := val4_lt (xs.drop m)
  have v2 := val4_lt (xs.drop (m + 4))
  unfold rdL
  generalize hk : val 4 (xs.drop m) = k at *
  generalize hg : val 4 (xs.drop (m + 4)) = g at *
  have HK := Lib.hid hk
  have HG := Lib.hid hg
  clear hk hg h HB
  go_enter Tryd.func42, Tryd.ntmps42
  go_wp2_with fail
  (with_reducible refine (at_u32 HR.out).mono ?_)
  rintro e w1 ⟨rfl, hr, ha⟩
  rw [HK.out]
  have HR1 := Lib.hid hr
  have HA1 := Lib.hid (HA.out.apart ha (by omega))
  have HAP1 := Lib.hid (HAP.out.trans ha)
  clear hr ha HR HA HAP HK
  go_wp2_with fail
  (with_reducible refine (at_u32 HR1.out).mono ?_)
  rintro e w2 ⟨rfl, hr, ha⟩
  rw [HG.out]
  have HR2 := Lib.hid hr
  have HA2 := Lib.hid (HA1.out.apart ha (by omega))
  have HAP2 := Lib.hid (HAP1.out.trans ha)
  clear hr ha HR1 HA1 HAP1 HG
  go_wp2_with fail
  have HB3 := Lib.hid (below_alloc (Below.refl _ w2) (.cells #[.int .i64 (k : Int), .int .i64 (g : Int), .int .i64 0, .int .i64 0, .int .i64 0] 48))
  have HX3 := Lib.hid (blk_new w2 #[.int .i64 (k : Int), .int .i64 (g : Int), .int .i64 0, .int .i64 0, .int .i64 0] 48)
  have HR3 := Lib.hid (HR2.out.below HB3.out)
  have HA3 := Lib.hid (HA2.out.below HB3.out)
  have HAP3 := Lib.hid (HAP2.out.trans (Apart.of_below HB3.out))
  have hlt2 := HR2.out.lt
  have hltA := HA2.out.lt
  have hltw := HAP2.out.size
  obtain ⟨G, hG⟩ : ∃ G, G = w2.heap.size := ⟨_, rfl⟩
  obtain ⟨f, hf⟩ : ∃ f : Nat → Int, f = fun i => ((val 2 (xs.drop (m + 8 + 2 * i)) : Nat) : Int) := ⟨_, rfl⟩
  have HF := Lib.hid hf
  rw [← hG] at HX3 hlt2 hltA hltw ⊢
  have HGG := Lib.hid hG
  clear HB3 HR2 HA2 HAP2 hf hG
  go_loopw [12] (fun i wr => ∃ j : Nat, j ≤ 3 ∧ i = .int .i64 (j : Int) ∧ Hid (RdAt wr b lo L xs (m + 8 + 2 * j)) ∧ Hid (Apart b w wr) ∧ Hid (Blk wr w.heap.size #[.int .i64 0, .int .i64 0, .int .i64 0, .int .i64 0, .int .i64 0] 48) ∧
    Hid (Blk wr G #[.int .i64 (k : Int), .int .i64 (g : Int), .int .i64 (upto f j 0), .int .i64 (upto f j 1), .int .i64 (upto f j 2)] 48)) (fun i _ => 3 - (intOf i).toNat)
  case atStart => exact ⟨0, by omega, rfl, HR3, HAP3, HA3, HX3⟩
  case round =>
    obtain ⟨j, hj, rfl, HR, HAP, HA, HX⟩ := hrel
    clear HR3 HAP3 HA3 HX3
    by_cases hlt3 : j < 3
    · have vx := val2_lt (xs.drop (m + 8 + 2 * j))
      have HFJ := Lib.hid (show (val 2 (xs.drop (m + 8 + 2 * j)) : Int) = f j by rw [HF.out])
      go_wp2_with fail
      (with_reducible refine (at_u16 HR.out).mono ?_)
      rintro e w4 ⟨rfl, hr, ha⟩
      generalize val 2 (xs.drop (m + 8 + 2 * j)) = x at *
      have HR4 := Lib.hid hr
      have HA4 := Lib.hid (HA.out.apart ha (by omega))
      have HX4 := Lib.hid (HX.out.apart ha (by omega))
      have HAP4 := Lib.hid (HAP.out.trans ha)
      obtain ⟨u, hu⟩ := five_at (.int .i64 (k : Int)) (.int .i64 (g : Int)) (.int .i64 (upto f j 0)) (.int .i64 (upto f j 1)) (.int .i64 (upto f j 2)) j hlt3
      have hc := HX4.out.cell (2 + j) hu
      have hz := HX4.out.frz (2 + j)
      clear hr ha HR HA HX HAP hu
      go_wp2_with fail
      go_roundw
      case rel =>
        refine ⟨j + 1, by omega, by go_num, Lib.hid ?_, Lib.hid ?_, Lib.hid ?_, Lib.hid ?_⟩
        · exact HR4.out.far _ _ _ (by omega)
        · exact HAP4.out.own _ _ _ hltw
        · exact HA4.out.far _ _ _ (by omega)
        · rw [← upto_set3 _ _ f j hlt3 _ HFJ.out]
          exact HX4.out.set_ _ _
      case measure => simp [intOf]; omega
    · have HJ := Lib.hid (show j = 3 by omega)
      have x0 := HX.out.cell 0 (u := .int .i64 (k : Int)) rfl
      have x1 := HX.out.cell 1 (u := .int .i64 (g : Int)) rfl
      have x2 := HX.out.cell 2 (u := .int .i64 (upto f j 0)) rfl
      have x3 := HX.out.cell 3 (u := .int .i64 (upto f j 1)) rfl
      have x4 := HX.out.cell 4 (u := .int .i64 (upto f j 2)) rfl
      have y0 := HA.out.cell 0 (u := .int .i64 0) rfl
      have y1 := HA.out.cell 1 (u := .int .i64 0) rfl
      have y2 := HA.out.cell 2 (u := .int .i64 0) rfl
      have y3 := HA.out.cell 3 (u := .int .i64 0) rfl
      have y4 := HA.out.cell 4 (u := .int .i64 0) rfl
      have z0 := HA.out.frz 0
      have z1 := HA.out.frz 1
      have z2 := HA.out.frz 2
      have z3 := HA.out.frz 3
      have z4 := HA.out.frz 4
      go_wp2_with fail
      have hA := Nat.le_refl w.heap.size
      refine bodyPost_ret (v := .agg #[.int .i64 (k : Int), .int .i64 (g : Int), .int .i64 (upto f j 0), .int .i64 (upto f j 1), .int .i64 (upto f j 2)]) ?_ rfl ⟨?_, ?_, ((((HAP.out.own _ _ _ hA).own _ _ _ hA).own _ _ _ hA).own _ _ _ hA).own _ _ _ hA⟩
      · rw [results_cell1 rfl]
        go_simp
      · rw [HJ.out, HF.out]; rfl
      · have hr := HR.out
        rw [HJ.out] at hr
        exact ((((hr.far _ _ _ hlt).far _ _ _ hlt).far _ _ _ hlt).far _ _ _ hlt).far _ _ _ hlt
end Go.Proofs.YthjpacdhaeoecaaDoor
