/-
  The small case of every law of layer 14: true; rows of bytes that a law makes.
-/
import Derived.Deep.RegionHeld3
import Derived.Deep.DeepCutAuto
import Derived.Test.YtolfdfbhignniaaDoorNew
import Derived.Test.YtolfdfbhignniaaDoorInNow
import Derived.Test.YtolfdfbhignniaaDoorInAll

namespace Go.Proofs.YtolfdfbhignniaaDoor
open Go.RowKit

theorem tele_at (c q : BitVec 8) (ci s : Int) (hci : ci = (c.toNat : Int)) (hq : (q.toNat : Int) = s % 256) (u : Value) (xs : List (BitVec 8)) (w : World) (hu : Byts w u xs) (hc : c.toNat ≤ 15) (hl : xs.length ≤ 16) :
    Calls Tryd.prog 23 #[.int .i64 ci, .int .i64 s, u] w fun e w' => ∃ r, e = .returned r ∧ Own w' w.heap.size r (sealed (frm c q xs)) ∧ Below w.heap.size w w' := by
  subst hci
  refine (tele_to c s u xs w hu hc hl).mono fun e w' ⟨r, q', he, ho, hq', hb⟩ => ⟨r, he, ?_, hb⟩
  obtain rfl : q = q' := BitVec.eq_of_toNat_eq (by omega)
  exact ho
/-- The small case's channels, step by step. -/
theorem small_math : ∃ f1 f2 f3 : Nat → Ch,
    (icode 2 (fun _ => noCh) (sealed (frm 3#8 1#8 [0#8])) = 0 ∧ itaken 2 (fun _ => noCh) (sealed (frm 3#8 1#8 [0#8])) = f1) ∧
    (icode 2 f1 (sealed (frm 3#8 1#8 [1#8])) = 4 ∧ itaken 2 f1 (sealed (frm 3#8 1#8 [1#8])) = f1) ∧
    (icode 2 f1 [1#8, 2#8, 3#8] = 3 ∧ itaken 2 f1 [1#8, 2#8, 3#8] = f1) ∧
    stp14 2 f1 [sealed (frm 9#8 4#8 [3#8, 3#8, 1#8, 0#8]), []] = (f2, 1) ∧
    (fun k => older 2 (older 2 (f2 k))) = f3 ∧
    tells 2 2 (fun _ => noCh) = ⟨false, false, false, false, false, false, true, 1, false, false, 0, [⟨false, 0, 0, 0, 0⟩, ⟨false, 0, 0, 0, 0⟩]⟩ ∧
    tells 2 2 f2 = ⟨false, false, false, false, false, false, true, 0, false, false, 0, [⟨false, 0, 0, 0, 0⟩, ⟨true, 3, 3, 1, 0⟩]⟩ ∧
    tells 2 2 f3 = ⟨false, false, false, false, false, false, true, 1, false, false, 0, [⟨false, 0, 0, 0, 0⟩, ⟨true, 3, 3, 1, 0⟩]⟩ := by
  have d1 := icode_yes (F := 2) (f := fun _ => noCh) (dcd_sealed 3#8 1#8 [0#8] (by decide) (by decide))
  have d2 := fun f => icode_yes (F := 2) (f := f) (dcd_sealed 3#8 1#8 [1#8] (by decide) (by decide))
  have d3 := fun f => icode_no (F := 2) (f := f) (dcd_sum (show opens [1#8, 2#8, 3#8] = false by decide)) (by decide)
  have d4 := fun f => icode_yes (F := 2) (f := f) (dcd_sealed 9#8 4#8 [3#8, 3#8, 1#8, 0#8] (by decide) (by decide))
  have d5 := fun f => icode_no (F := 2) (f := f) (dcd_sum (show opens [] = false by decide)) (by decide)
  refine ⟨taken 2 (fun _ => noCh) ((3#8 : BitVec 8).toNat : Int) ((1#8 : BitVec 8).toNat : Int) [0#8], taken 2 (fun k => older 2 (taken 2 (fun _ => noCh) ((3#8 : BitVec 8).toNat : Int) ((1#8 : BitVec 8).toNat : Int) [0#8] k)) ((9#8 : BitVec 8).toNat : Int) ((4#8 : BitVec 8).toNat : Int) [3#8, 3#8, 1#8, 0#8], _, ⟨by rw [d1.1]; decide, d1.2⟩, ⟨by rw [(d2 _).1]; decide, by rw [(d2 _).2]; rfl⟩, ⟨(d3 _).1, (d3 _).2⟩, ?_, rfl, rfl, ?_, ?_⟩
  · unfold stp14 tks
    simp only [List.foldl_cons, List.foldl_nil]
    rw [(d4 _).1, (d4 _).2, (d5 _).1, (d5 _).2]
    rfl
  · rfl
  · rfl
theorem one_with {w wr : World} {b x F t : Nat} {f : Nat → Ch} {E E' : World → Prop} (h : One w b x F t E wr f) (e : E' wr) : One w b x F t E' wr f := ⟨h.1, h.2.1, e⟩
/-- What a law keeps of what it has asked: a box with what was told, and the tracks that were told. -/
structure Kept (b : Nat) (wx : World) (g : Nat) (C : Array Value) (v : Value) (ts : List Ct) : Prop where
  blk : Blk wx g C 36
  ne : g ≠ b
  lo : ∃ lo, b < lo ∧ Cnts wx lo v ts
theorem Kept.keep {b : Nat} {w w2 : World} {g : Nat} {C : Array Value} {v : Value} {ts : List Ct} (h : Kept b w g C v ts) (hk : Keep (fun g => g = b) w w2) : Kept b w2 g C v ts :=
  ⟨h.blk.keep hk h.ne, h.ne, let ⟨lo, h1, h2⟩ := h.lo; ⟨lo, h1, h2.keep hk fun z hz => by omega⟩⟩
theorem Kept.below {b : Nat} {w w2 : World} {g : Nat} {C : Array Value} {v : Value} {ts : List Ct} (h : Kept b w g C v ts) (hb : Below w.heap.size w w2) : Kept b w2 g C v ts := h.keep (Keep.of_below hb)
theorem Kept.els {b : Nat} {w : World} {g : Nat} {C : Array Value} {v : Value} {ts : List Ct} (h : Kept b w g C v ts) : Els RCt 5 w v ts := let ⟨_, _, h2⟩ := h.lo; h2.1
theorem kept_new {b lo : Nat} {w : World} (C : Array Value) {v : Value} {ts : List Ct} (h : Cnts w lo v ts) (hl : b < lo) (hb : b < w.heap.size) : Kept b (w.alloc (.cells C 36)) w.heap.size C v ts :=
  ⟨blk_new _ _ _, by omega, lo, hl, h.below (below_alloc (Below.refl _ w) _)⟩
theorem rws_two {b : Nat} {w : World} {r : Value} {xs : List (BitVec 8)} {g : Nat} {a : Option Addr} {c : Nat} (hr : r = .slice a xs.length c) (hB : Blk w g #[.slice a xs.length c, .slice none 0 0] 44) (hg : g ≠ b) (hf : Far w (b + 1) r xs) (hl : xs.length ≤ 140737488351232) : Rws b w (.slice (some ⟨g, 0, none⟩) 2 2) [xs, []] := by
  subst hr
  refine ⟨_, _, rfl, fun j y hy => ⟨_, _, rfl, hg, ?_⟩⟩
  rcases j with _ | _ | j
  · cases hy
    exact ⟨a, c, hB.cell 0 rfl, hf.1, fun p hp => (hf.2 p _ _ (by rw [hp])).imp id fun h => by omega, hl⟩
  · cases hy
    exact ⟨none, 0, hB.cell 1 rfl, byts_nil _, (fun p hp => by cases hp), Nat.zero_le _⟩
  · cases hy
set_option maxHeartbeats 8000000 in
set_option maxRecDepth 10000 in
theorem small_true (w : World) : Calls Tryd.prog 9 #[] w fun e w' => e = .returned (.bool true) ∧ Below w.heap.size w w' := by
  obtain ⟨f1, f2, f3, ⟨m1, m2⟩, ⟨m3, m4⟩, ⟨m5, m6⟩, m7, m10, m8, m9, m11⟩ := small_math
  have M1 := Lib.hid m1
  have M2 := Lib.hid m2
  have M3 := Lib.hid m3
  have M4 := Lib.hid m4
  have M5 := Lib.hid m5
  have M6 := Lib.hid m6
  have M7 := Lib.hid m7
  have M8 := Lib.hid m8
  have M9 := Lib.hid m9
  have M10 := Lib.hid m10
  have M11 := Lib.hid m11
  clear m1 m2 m3 m4 m5 m6 m7 m8 m9 m10 m11
  go_enter Tryd.func9, Tryd.ntmps9
  (try dsimp only [List.append])
  go_wp2_with fail
  (with_reducible refine (in_new 2 2 2 2 (by decide) (by decide) (Below.refl _ w)).mono ?_)
  rintro e w1 ⟨x, rfl, b, hxb, hwb, hl, hx, _⟩
  have HC0 := Lib.hid (chs_one (F := 2) (E := fun _ => True) hwb hxb (by decide : 1 ≤ 2 ∧ 2 ≤ 8) (fun _ _ _ _ => trivial))
  have HI1 := Lib.hid (show One w b x 2 2 (fun _ => True) w1 (fun _ => noCh) from ⟨hl, hx, trivial⟩)
  have HXB := Lib.hid hxb
  have HWB := Lib.hid hwb
  clear hxb hwb hl hx
  go_wp2_with fail
  (with_reducible refine (in_now HC0.out HI1.out _ _ _ _ _ _ _ _ _ _ _ _ M8.out).mono ?_)
  rintro e w2 ⟨v, rfl, hc, hb⟩
  obtain ⟨a0, c0, ev⟩ := hc.1.len
  subst ev
  rw [show ([⟨false, 0, 0, 0, 0⟩, ⟨false, 0, 0, 0, 0⟩] : List Ct).length = 2 from rfl] at hc ⊢
  have HK := Lib.hid (kept_new #[.bool false, .bool false, .bool false, .bool false, .bool false, .bool false, .bool true, .int .i64 1, .bool false, .bool false, .int .i64 0, .slice a0 2 c0] hc (HC0.out.blt HI1.out).1 (Nat.lt_of_lt_of_le (HC0.out.blt HI1.out).1 hb.size))
  have HI2 := Lib.hid (HC0.out.still HI1.out (below_alloc hb (.cells #[.bool false, .bool false, .bool false, .bool false, .bool false, .bool false, .bool true, .int .i64 1, .bool false, .bool false, .int .i64 0, .slice a0 2 c0] 36)))
  clear hc hb HI1
  go_upto_region 5 with fail
  generalize w2.heap.size = g0 at *
  generalize w2.alloc (.cells #[.bool false, .bool false, .bool false, .bool false, .bool false, .bool false, .bool true, .int .i64 1, .bool false, .bool false, .int .i64 0, .slice a0 2 c0] 36) = w3 at *
  -- Take(Tele(3, 1, 0))
  have HT := Lib.hid (tele_at 3#8 1#8 3 1 rfl (by decide) _ [0#8] _ (lit_byts w3 #[.int .u8 0] 1 (0, 0) [0#8] rfl rfl) (by decide) (by decide))
  have HI3 := Lib.hid (HC0.out.still HI2.out (below_alloc (Below.refl _ w3) (.cells #[.int .u8 0] 5)))
  have HK3 := Lib.hid (HK.out.below (below_alloc (Below.refl _ w3) (.cells #[.int .u8 0] 5)))
  clear HI2 HK
  go_wp2_with fail
  (with_reducible refine HT.out.mono ?_)
  rintro e w4 ⟨r, rfl, ho, hb⟩
  have HT4 := in_take HC0.out (HC0.out.still HI3.out hb) r _ ho.byts (by decide)
  rw [M1.out, M2.out] at HT4
  have HT4 := Lib.hid HT4
  have HK4 := Lib.hid (HK3.out.below hb)
  clear ho hb HT HI3 HK3
  go_wp2_with fail
  (with_reducible refine HT4.out.mono ?_)
  rintro e w5 ⟨e5, rfl, he, hi, hk⟩
  obtain rfl := he.nil
  have HI5 := Lib.hid hi
  have HK5 := Lib.hid (HK4.out.keep hk)
  clear he hi hk HT4 HK4
  go_upto_region 6 with fail
  -- Take(Tele(3, 1, 1))
  have HT := Lib.hid (tele_at 3#8 1#8 3 1 rfl (by decide) _ [1#8] _ (lit_byts w5 #[.int .u8 1] 1 (0, 0) [1#8] rfl rfl) (by decide) (by decide))
  have HI6 := Lib.hid (HC0.out.still HI5.out (below_alloc (Below.refl _ w5) (.cells #[.int .u8 1] 5)))
  have HK6 := Lib.hid (HK5.out.below (below_alloc (Below.refl _ w5) (.cells #[.int .u8 1] 5)))
  clear HI5 HK5
  go_wp2_with fail
  (with_reducible refine HT.out.mono ?_)
  rintro e w6 ⟨r6, rfl, ho, hb⟩
  have HT6 := in_take HC0.out (HC0.out.still HI6.out hb) r6 _ ho.byts (by decide)
  rw [M3.out, M4.out] at HT6
  have HT6 := Lib.hid HT6
  have HK7 := Lib.hid (HK6.out.below hb)
  clear ho hb HT HI6 HK6
  go_wp2_with fail
  (with_reducible refine HT6.out.mono ?_)
  rintro e w7 ⟨e7, rfl, he7, hi, hk⟩
  have HE7 := Lib.hid he7
  have HI7 := Lib.hid hi
  have HK8 := Lib.hid (HK7.out.keep hk)
  clear he7 hi hk HT6 HK7
  go_upto_region 7 with fail
  -- Take(1, 2, 3)
  have HI8 := Lib.hid (HC0.out.still HI7.out (below_alloc (Below.refl _ w7) (.cells #[.int .u8 1, .int .u8 2, .int .u8 3] 5)))
  have HT8 := in_take HC0.out HI8.out _ [1#8, 2#8, 3#8] (lit_byts w7 #[.int .u8 1, .int .u8 2, .int .u8 3] 3 (0, 0) [1#8, 2#8, 3#8] rfl rfl) (by decide)
  rw [M5.out, M6.out] at HT8
  have HT8 := Lib.hid HT8
  have HK9 := Lib.hid (HK8.out.below (below_alloc (Below.refl _ w7) (.cells #[.int .u8 1, .int .u8 2, .int .u8 3] 5)))
  have HE8 := Lib.hid (HE7.out.below (below_alloc (Below.refl _ w7) (.cells #[.int .u8 1, .int .u8 2, .int .u8 3] 5)))
  clear HI7 HK8 HE7
  go_wp2_with fail
  (with_reducible refine HT8.out.mono ?_)
  rintro e w8 ⟨e8, rfl, he8, hi, hk⟩
  have HE9 := Lib.hid (HC0.out.err HI8.out HE8.out hk)
  have HF9 := Lib.hid he8
  have HI9 := Lib.hid hi
  have HK10 := Lib.hid (HK9.out.keep hk)
  clear he8 hi hk HT8 HK9 HE8 HI8
  go_upto_region 8 with fail
  -- Step(Tele(9, 4, (3, 3, 1, 0)), nil)
  have HT := Lib.hid (tele_at 9#8 4#8 9 4 rfl (by decide) _ [3#8, 3#8, 1#8, 0#8] _ (lit_byts w8 #[.int .u8 3, .int .u8 3, .int .u8 1, .int .u8 0] 4 (0, 0) [3#8, 3#8, 1#8, 0#8] rfl rfl) (by decide) (by decide))
  have HI10 := Lib.hid (HC0.out.still HI9.out (below_alloc (Below.refl _ w8) (.cells #[.int .u8 3, .int .u8 3, .int .u8 1, .int .u8 0] 5)))
  have HK11 := Lib.hid (HK10.out.below (below_alloc (Below.refl _ w8) (.cells #[.int .u8 3, .int .u8 3, .int .u8 1, .int .u8 0] 5)))
  have HE10 := Lib.hid (HE9.out.below (below_alloc (Below.refl _ w8) (.cells #[.int .u8 3, .int .u8 3, .int .u8 1, .int .u8 0] 5)))
  have HF10 := Lib.hid (HF9.out.below (below_alloc (Below.refl _ w8) (.cells #[.int .u8 3, .int .u8 3, .int .u8 1, .int .u8 0] 5)))
  clear HI9 HK10 HE9 HF9
  go_wp2_with fail
  (with_reducible refine HT.out.mono ?_)
  rintro e w9 ⟨r9, rfl, ho, hb⟩
  obtain ⟨a9, c9, er⟩ := ho.byts.len
  obtain ⟨n9, hn9⟩ : ∃ n, n = (sealed (frm 9#8 4#8 [3#8, 3#8, 1#8, 0#8])).length := ⟨_, rfl⟩
  have HN9 := Lib.hid hn9
  have hblt := (HC0.out.blt HI10.out).1
  have HI11 := Lib.hid (HC0.out.still HI10.out (below_alloc hb (.cells #[.slice a9 n9 c9, .slice none 0 0] 44)))
  have HK12 := Lib.hid (HK11.out.below (below_alloc hb (.cells #[.slice a9 n9 c9, .slice none 0 0] 44)))
  have HE11 := Lib.hid (HE10.out.below (below_alloc hb (.cells #[.slice a9 n9 c9, .slice none 0 0] 44)))
  have HF11 := Lib.hid (HF10.out.below (below_alloc hb (.cells #[.slice a9 n9 c9, .slice none 0 0] 44)))
  have HRW := Lib.hid (rws_two (b := b) er (by rw [← hn9]; exact blk_new w9 #[.slice a9 n9 c9, .slice none 0 0] 44) (by have := hb.size; omega) ((ho.far.below (below_alloc (Below.refl _ w9) (.cells #[.slice a9 n9 c9, .slice none 0 0] 44))).mono (by have := hb.size; omega)) (by decide))
  rw [← hn9] at er
  subst er
  have HC1 := Lib.hid (chs_one (F := 2) (E := fun wx => Rws b wx (.slice (some ⟨w9.heap.size, 0, none⟩) 2 2) [sealed (frm 9#8 4#8 [3#8, 3#8, 1#8, 0#8]), []]) HWB.out HXB.out (by decide : 1 ≤ 2 ∧ 2 ≤ 8) (fun _ _ h hk => h.keep hk))
  have HST := Lib.hid (in_step HC1.out (one_with (E' := fun wx => Rws b wx (.slice (some ⟨w9.heap.size, 0, none⟩) 2 2) [sealed (frm 9#8 4#8 [3#8, 3#8, 1#8, 0#8]), []]) HI11.out HRW.out) _ _ (fun wr f h => h.2.2.els) (by unfold maxLen; decide) f2 1 M7.out)
  clear ho hb HT HI10 HK11 HE10 HF10 hn9 hblt HRW
  go_wp2_with fail
  (with_reducible refine HST.out.mono ?_)
  rintro e w10 ⟨rfl, hi, hk⟩
  have HI12 := Lib.hid (show One w b x 2 2 (fun _ => True) w10 f2 from ⟨hi.1, hi.2.1, trivial⟩)
  have HK13 := Lib.hid (HK12.out.keep hk)
  have HE12 := Lib.hid (HC0.out.err HI11.out HE11.out hk)
  have HF12 := Lib.hid (HC0.out.err HI11.out HF11.out hk)
  clear hi hk HST HI11 HK12 HE11 HF11 HC1
  go_wp2_with fail
  (with_reducible refine (in_now HC0.out HI12.out _ _ _ _ _ _ _ _ _ _ _ _ M9.out).mono ?_)
  rintro e w11 ⟨v, rfl, hc, hb⟩
  obtain ⟨a1, c1, ev⟩ := hc.1.len
  subst ev
  rw [show ([⟨false, 0, 0, 0, 0⟩, ⟨true, 3, 3, 1, 0⟩] : List Ct).length = 2 from rfl] at hc ⊢
  have HY := Lib.hid (kept_new #[.bool false, .bool false, .bool false, .bool false, .bool false, .bool false, .bool true, .int .i64 0, .bool false, .bool false, .int .i64 0, .slice a1 2 c1] hc (HC0.out.blt HI12.out).1 (Nat.lt_of_lt_of_le (HC0.out.blt HI12.out).1 hb.size))
  have hbb := below_alloc hb (.cells #[.bool false, .bool false, .bool false, .bool false, .bool false, .bool false, .bool true, .int .i64 0, .bool false, .bool false, .int .i64 0, .slice a1 2 c1] 36)
  have HI13 := Lib.hid (HC0.out.still HI12.out hbb)
  have HK14 := Lib.hid (HK13.out.below hbb)
  have HE13 := Lib.hid (HE12.out.below hbb)
  have HF13 := Lib.hid (HF12.out.below hbb)
  clear hc hb hbb HI12 HK13 HE12 HF12
  go_upto_region 10 with fail
  generalize w11.heap.size = g1 at *
  generalize w11.alloc (.cells #[.bool false, .bool false, .bool false, .bool false, .bool false, .bool false, .bool true, .int .i64 0, .bool false, .bool false, .int .i64 0, .slice a1 2 c1] 36) = w12 at *
  go_wp2_with fail
  (with_reducible refine (in_tick HC0.out HI13.out).mono ?_)
  rintro e w13 ⟨rfl, hi, hk⟩
  have HI14 := Lib.hid hi
  have HY1 := Lib.hid (HY.out.keep hk)
  have HK15 := Lib.hid (HK14.out.keep hk)
  have HE14 := Lib.hid (HC0.out.err HI13.out HE13.out hk)
  have HF14 := Lib.hid (HC0.out.err HI13.out HF13.out hk)
  clear hi hk HI13 HY HK14 HE13 HF13
  go_wp2_with fail
  (with_reducible refine (in_tick HC0.out HI14.out).mono ?_)
  rintro e w14 ⟨rfl, hi, hk⟩
  rw [M10.out] at hi
  have HI15 := Lib.hid hi
  have HY2 := Lib.hid (HY1.out.keep hk)
  have HK16 := Lib.hid (HK15.out.keep hk)
  have HE15 := Lib.hid (HC0.out.err HI14.out HE14.out hk)
  have HF15 := Lib.hid (HC0.out.err HI14.out HF14.out hk)
  clear hi hk HI14 HY1 HK15 HE14 HF14
  go_wp2_with fail
  (with_reducible refine (in_now HC0.out HI15.out _ _ _ _ _ _ _ _ _ _ _ _ M11.out).mono ?_)
  rintro e w15 ⟨v, rfl, hc, hb⟩
  obtain ⟨a2, c2, ev⟩ := hc.1.len
  subst ev
  rw [show ([⟨false, 0, 0, 0, 0⟩, ⟨true, 3, 3, 1, 0⟩] : List Ct).length = 2 from rfl] at hc ⊢
  have HZ := Lib.hid (blk_new w15 #[.bool false, .bool false, .bool false, .bool false, .bool false, .bool false, .bool true, .int .i64 1, .bool false, .bool false, .int .i64 0, .slice a2 2 c2] 36)
  have hbb := below_alloc hb (.cells #[.bool false, .bool false, .bool false, .bool false, .bool false, .bool false, .bool true, .int .i64 1, .bool false, .bool false, .int .i64 0, .slice a2 2 c2] 36)
  have HB := Lib.hid (HC0.out.bel _ _ (HC0.out.still HI15.out hbb))
  have HK17 := Lib.hid (HK16.out.below hbb)
  have HY3 := Lib.hid (HY2.out.below hbb)
  have HE16 := Lib.hid (HE15.out.below hbb)
  have HF16 := Lib.hid (HF15.out.below hbb)
  clear hc hb hbb HI15 HK16 HY2 HE15 HF15 HC0 HXB HWB M1 M2 M3 M4 M5 M6 M7 M8 M9 M10 M11
  go_upto_region 13 with fail
  generalize w15.heap.size = g2 at *
  generalize w15.alloc (.cells #[.bool false, .bool false, .bool false, .bool false, .bool false, .bool false, .bool true, .int .i64 1, .bool false, .bool false, .int .i64 0, .slice a2 2 c2] 36) = w16 at *
  have n3 := HK17.out.blk.cell 6 rfl
  have n4 := HK17.out.blk.cell 7 rfl
  have n8 := HK17.out.blk.cell 11 rfl
  have y4 := HY3.out.blk.cell 7 rfl
  have y8 := HY3.out.blk.cell 11 rfl
  have z4 := HZ.out.cell 7 rfl
  obtain ⟨gn, on, ea, k0, _⟩ := HK17.out.els.at_ (i := 0) rfl
  subst ea
  obtain ⟨gy, oy, ea, j0, j1, _⟩ := HY3.out.els.at_ (i := 1) rfl
  subst ea
  rw [Nat.zero_mul, Nat.add_zero] at k0
  rw [Nat.one_mul] at j0 j1
  obtain ⟨g7, rfl, HG7⟩ := HE16.out.not (by decide)
  obtain ⟨g8, rfl, HG8⟩ := HF16.out.not (by decide)
  have HG7 := Lib.hid HG7
  have HG8 := Lib.hid HG8
  clear HK17 HY3 HZ HE16 HF16
  go_wp2_with fail
  (with_reducible refine (code_place g7 4 _ HG7.out).mono ?_)
  rintro e w17 ⟨rfl, hw⟩
  cases hw
  go_wp2_with fail
  (with_reducible refine (code_place g8 3 _ HG8.out).mono ?_)
  rintro e w17 ⟨rfl, hw⟩
  cases hw
  go_wp2_with fail
  go_ret
  exact ⟨rfl, HB.out⟩
end Go.Proofs.YtolfdfbhignniaaDoor
