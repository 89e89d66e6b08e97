/-
  The walk of crossbucklaw03.OctetParts: true, whatever it is given. And how an array of four bytes among the arguments reads.
-/
import Derived.Test.YtpomfdpclnkgpaaDoorSmall
import Derived.Test.YtpomfdpclnkgpaaDoorFrame
import Derived.Laws.IdiomArrays
namespace Go.Proofs.YtpomfdpclnkgpaaDoor
open Go.ChangeShapes Go.WideShapes Go.RowKit

theorem or_add (i x y : Nat) (hy : y < 2 ^ i) (hx : x * 2 ^ i + y < 4294967296) : bits .or .u32 ((x * 2 ^ i : Nat) : Int) (y : Int) = ((x * 2 ^ i + y : Nat) : Int) := by
  have h1 : x * 2 ^ i + y = x * 2 ^ i ||| y := by
    have := Nat.shiftLeft_add_eq_or_of_lt (i := i) (b := y) hy x
    rwa [Nat.shiftLeft_eq] at this
  have e1 : (BitVec.ofInt 32 ((x * 2 ^ i : Nat) : Int)).toNat = x * 2 ^ i := by
    rw [BitVec.ofInt_natCast, BitVec.toNat_ofNat]
    exact Nat.mod_eq_of_lt (by omega)
  have e2 : (BitVec.ofInt 32 (y : Int)).toNat = y := by
    rw [BitVec.ofInt_natCast, BitVec.toNat_ofNat]
    exact Nat.mod_eq_of_lt (by omega)
  show IntKind.u32.wrap ((BitVec.ofInt 32 ((x * 2 ^ i : Nat) : Int) ||| BitVec.ofInt 32 (y : Int)).toNat : Int) = _
  rw [BitVec.toNat_or, e1, e2, ← h1]
  generalize x * 2 ^ i + y = z at *
  simp [IntKind.wrap, IntKind.bits, IntKind.signed]
  omega

theorem cellsArr : Tryd.prog.cellsOf 50 = 4 := by kernel_rfl
theorem okWide_arr4 {W : World} {base : Nat} {v : Value} (h : Value.okWide Tryd.prog W .any base 50 v) : ∃ cs, v = .agg cs ∧ cs.size = 4 := by
  simp only [Value.okWide, Tryd.underlying50] at h
  obtain ⟨cs, h1, h2, _⟩ := h
  exact ⟨cs, h1, by rw [h2, cellsArr]⟩
theorem open_arr4 {H : Type} {enc : TypeId × Value → H} {W : World} {base : Nat} {v : Value} {d : DataW H} {p : List MemPlace}
    (hv : Value.okWide Tryd.prog W .any base 50 v) (h : DataW.Trod enc Tryd.prog W 0 (fun _ => true) true 50 v d p) :
    ∃ a b c e : BitVec 8, v = .agg #[cel a, cel b, cel c, cel e] := by
  obtain ⟨cs, rfl, hsz⟩ := okWide_arr4 hv
  obtain ⟨l⟩ := cs
  obtain ⟨fuel, hf⟩ := h
  match l, hsz with
  | [c0, c1, c2, c3], _ =>
  simp only [Value.cells] at hf
  obtain ⟨y0, y1, y2, y3, m, hx, hy0, hy1, hy2, hy3⟩ := trod_array4 Tryd.underlying50 cellsU8 hf
  obtain ⟨a, e0, _, wa⟩ := DataW.trod_int Tryd.underlying5 hy0
  obtain ⟨b, e1, _, wb⟩ := DataW.trod_int Tryd.underlying5 hy1
  obtain ⟨c, e2, _, wc⟩ := DataW.trod_int Tryd.underlying5 hy2
  obtain ⟨e, e3, _, we⟩ := DataW.trod_int Tryd.underlying5 hy3
  simp at e0 e1 e2 e3
  subst e0 e1 e2 e3
  exact ⟨BitVec.ofNat 8 a.toNat, BitVec.ofNat 8 b.toNat, BitVec.ofNat 8 c.toNat, BitVec.ofNat 8 e.toNat, by unfold cel; rw [u8_of_wf wa, u8_of_wf wb, u8_of_wf wc, u8_of_wf we]⟩

theorem arr_byts (w : World) (a b c d : BitVec 8) : Byts (w.alloc (.cells #[.int .u8 (a.toNat : Int), .int .u8 (b.toNat : Int), .int .u8 (c.toNat : Int), .int .u8 (d.toNat : Int)] 50)) (.slice (some ⟨w.heap.size, 0, none⟩) 4 4) [a, b, c, d] := by
  refine .inr ⟨w.heap.size, 0, 4, rfl, by simp, fun j x hx => ?_⟩
  have h := heap_alloc_new w (.cells #[.int .u8 (a.toNat : Int), .int .u8 (b.toNat : Int), .int .u8 (c.toNat : Int), .int .u8 (d.toNat : Int)] 50)
  rw [cell_of_row _ _ _ _ _ _ h, Nat.zero_add]
  rcases j with _ | _ | _ | _ | j
  all_goals (simp at hx; try (subst hx; rfl))

theorem parts_or (a b c d : BitVec 8) : bits .or .u32 ((val 2 [a, b, c, d] : Int) * 65536) (val 2 ([a, b, c, d].drop 2) : Int) = (val 4 [a, b, c, d] : Int) := by
  have h1 := a.isLt
  have h2 := b.isLt
  have h3 := c.isLt
  have h4 := d.isLt
  have e1 : val 2 [a, b, c, d] = a.toNat * 256 + b.toNat := by rw [val_all (by simp), show [a, b, c, d].take 2 = [a, b] from rfl, num_two]
  have e2 : val 2 ([a, b, c, d].drop 2) = c.toNat * 256 + d.toNat := by rw [show [a, b, c, d].drop 2 = [c, d] from rfl, val_all (by simp), show [c, d].take 2 = [c, d] from rfl, num_two]
  have e3 : val 4 [a, b, c, d] = (a.toNat * 256 + b.toNat) * 2 ^ 16 + (c.toNat * 256 + d.toNat) := by rw [val_all (by simp), show [a, b, c, d].take 4 = [a, b, c, d] from rfl, num_four]; omega
  rw [e1, e2, e3]
  have := or_add 16 (a.toNat * 256 + b.toNat) (c.toNat * 256 + d.toNat) (by omega) (by omega)
  rw [← this]
  congr 1
theorem parts_or4 (a b c d : BitVec 8) : ∃ X1 X2 : Nat, X1 < 4294967296 ∧ X2 < 4294967296 ∧ bits .or .u32 ((a.toNat : Int) * 16777216) ((b.toNat : Int) * 65536) = (X1 : Int) ∧ bits .or .u32 (X1 : Int) ((c.toNat : Int) * 256) = (X2 : Int) ∧ bits .or .u32 (X2 : Int) (d.toNat : Int) = (val 4 [a, b, c, d] : Int) := by
  have h1 := a.isLt
  have h2 := b.isLt
  have h3 := c.isLt
  have h4 := d.isLt
  have e3 : val 4 [a, b, c, d] = (a.toNat * 65536 + b.toNat * 256 + c.toNat) * 2 ^ 8 + d.toNat := by rw [val_all (by simp), show [a, b, c, d].take 4 = [a, b, c, d] from rfl, num_four]; omega
  refine ⟨a.toNat * 2 ^ 24 + b.toNat * 65536, (a.toNat * 256 + b.toNat) * 2 ^ 16 + c.toNat * 256, by omega, by omega, ?_, ?_, ?_⟩
  · exact or_add 24 a.toNat (b.toNat * 65536) (by omega) (by omega)
  · have := or_add 16 (a.toNat * 256 + b.toNat) (c.toNat * 256) (by omega) (by omega)
    rw [show (a.toNat * 256 + b.toNat) * 2 ^ 16 = a.toNat * 2 ^ 24 + b.toNat * 65536 by omega] at this ⊢
    exact this
  · have := or_add 8 (a.toNat * 65536 + b.toNat * 256 + c.toNat) d.toNat (by omega) (by omega)
    rw [e3, show (a.toNat * 256 + b.toNat) * 2 ^ 16 + c.toNat * 256 = (a.toNat * 65536 + b.toNat * 256 + c.toNat) * 2 ^ 8 by omega]
    exact this

set_option maxHeartbeats 4000000 in
set_option maxRecDepth 100000 in
theorem parts_any (a b c d : BitVec 8) (w : World) :
    Calls Tryd.prog 7 #[.agg #[cel a, cel b, cel c, cel d]] w fun e w' => e = .returned (.bool true) ∧ Below w.heap.size w w' := by
  have ha := a.isLt
  have hb := b.isLt
  have hc := c.isLt
  have hd := d.isLt
  have HA := Lib.hid (arr_byts w a b c d)
  have HB0 := Lib.hid (below_alloc (Below.refl _ w) (.cells #[.int .u8 (a.toNat : Int), .int .u8 (b.toNat : Int), .int .u8 (c.toNat : Int), .int .u8 (d.toNat : Int)] 50))
  unfold cel
  go_enter Tryd.func7, Tryd.ntmps7
  go_wp2_with fail
  (with_reducible refine (small_true _).mono ?_)
  rintro e w1 ⟨rfl, hb1⟩
  have HB1 := Lib.hid (below_call HB0.out hb1)
  have HA1 := Lib.hid (HA.out.below hb1)
  obtain ⟨X1, X2, hx1, hx2, o1, o2, o3⟩ := parts_or4 a b c d
  have HO := Lib.hid (And.intro o1 (And.intro o2 o3))
  have HP := Lib.hid (parts_or a b c d)
  have HLL := Lib.hid (show [a, b, c, d].length = 4 from rfl)
  have HC0 := Lib.hid (show [a, b, c, d][0]? = some a from rfl)
  have HC1 := Lib.hid (show [a, b, c, d][1]? = some b from rfl)
  have HC2 := Lib.hid (show [a, b, c, d][2]? = some c from rfl)
  have HC3 := Lib.hid (show [a, b, c, d][3]? = some d from rfl)
  clear hb1 o1 o2 o3 HA HB0
  generalize [a, b, c, d] = L at *
  have HWW := Lib.hid (show w.heap.size < w1.heap.size by
    rcases HA1.out with ⟨h, _⟩ | ⟨g, o, cap, hv, _, h⟩
    · have := HLL.out; rw [h] at this; simp at this
    · have := lt_of_cell (h 0 a HC0.out)
      simp only [Value.slice.injEq, Option.some.injEq, Addr.mk.injEq] at hv
      omega)
  go_wp2_with fail
  (with_reducible refine (over_any _ L _ HA1.out (by rw [HLL.out]; omega)).mono ?_)
  rintro e w2 ⟨p, rfl, hr, hle, hb2⟩
  have HB2 := Lib.hid (below_call HB1.out hb2)
  have HA2 := Lib.hid (HA1.out.below hb2)
  have HR2 := Lib.hid hr
  have HLE := Lib.hid hle
  clear hr hb2 hle HB1
  go_wp2_with fail
  (with_reducible refine (over_any _ L _ HA2.out (by rw [HLL.out]; omega)).mono ?_)
  rintro e w3 ⟨q, rfl, hr, hle, hb3⟩
  have HB3 := Lib.hid (below_call HB2.out hb3)
  have HA3 := Lib.hid (HA2.out.below hb3)
  have HR3 := Lib.hid (HR2.out.below hb3)
  have HS3 := Lib.hid hr
  have HPL := Lib.hid HR2.out.lt
  have HQ := Lib.hid hle
  clear hr hb3 hle HR2 HA2 HB2
  go_wp2_with fail
  (with_reducible refine (u32_any _ p _ _ _ _ _ HR3.out).mono ?_)
  rintro e w4 ⟨rfl, _, ha4⟩
  have HB4 := Lib.hid (below_apart HB3.out ha4 (by have := HLE.out; have := HWW.out; omega))
  have HS4 := Lib.hid (HS3.out.apart ha4 (by have := HPL.out; have := HQ.out; omega) (.inl HPL.out))
  have HX4 := Lib.hid ha4
  have hv4 := val4_lt L
  clear ha4 HR3 HS3 HB3
  go_wp2_with fail
  (with_reducible refine (u16_any _ q _ _ _ _ _ HS4.out).mono ?_)
  rintro e w5 ⟨rfl, hr, ha5⟩
  have HB5 := Lib.hid (below_apart HB4.out ha5 (by have := HLE.out; have := HWW.out; have := HPL.out; have := HQ.out; omega))
  have HS5 := Lib.hid hr
  have HX5 := Lib.hid ha5
  have hv2 := val2_lt L
  clear ha5 hr HS4 HB4
  go_wp2_with fail
  (with_reducible refine (u16_any _ q _ _ _ _ _ HS5.out).mono ?_)
  rintro e w6 ⟨rfl, _, ha6⟩
  have HB6 := Lib.hid (below_apart HB5.out ha6 (by have := HLE.out; have := HWW.out; have := HPL.out; have := HQ.out; omega))
  have hv3 := val2_lt (L.drop 2)
  have k : ∀ j x, L[j]? = some x → w6.cell? ⟨w.heap.size, j, none⟩ = some (.int .u8 (x.toNat : Int)) := fun j x hx => by
    obtain ⟨g, o, cap, x', hv, _, _, hx', hcc⟩ := HA3.out.at_ j (List.getElem?_eq_some_iff.1 hx).1
    simp only [Value.slice.injEq, Option.some.injEq, Addr.mk.injEq] at hv
    obtain ⟨⟨rfl, rfl, _⟩, _⟩ := hv
    rw [hx] at hx'
    obtain rfl := Option.some.inj hx'
    rw [Nat.zero_add] at hcc
    exact ha6.cell (HX5.out.cell (HX4.out.cell hcc (by have := HLE.out; have := HWW.out; omega)) (by have := HLE.out; have := HWW.out; have := HPL.out; have := HQ.out; omega)) (by have := HLE.out; have := HWW.out; have := HPL.out; have := HQ.out; omega)
  have k0 := k 0 a HC0.out
  have k1 := k 1 b HC1.out
  have k2 := k 2 c HC2.out
  have k3 := k 3 d HC3.out
  have hop := HP.out
  obtain ⟨o1, o2, o3⟩ := HO.out
  clear k ha6 HS5 HX4 HX5 HB5 HA3 HC0 HC1 HC2 HC3 HP HO HLL
  generalize val 2 (L.drop 2) = Q at *
  generalize val 2 L = P at *
  generalize val 4 L = N at *
  have hNN : ((N : Int) == (N : Int)) = true := by simp
  go_wp2_with fail
  go_ret
  exact ⟨by simp, HB6.out⟩
end Go.Proofs.YtpomfdpclnkgpaaDoor
