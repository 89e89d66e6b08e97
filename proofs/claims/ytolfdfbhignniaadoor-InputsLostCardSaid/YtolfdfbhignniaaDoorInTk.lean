/-
  InTake InRtake Elw InSame: merged.
-/
import Derived.Deep.RegionHeld3
import Derived.Deep.DeepCutAuto
import Derived.SizedLaws
import Derived.BigRegion
import Derived.Test.YtolfdfbhignniaaDoorInAll
import Derived.Test.YtolfdfbhignniaaDoorBase
/-
  The program's Tick, Take and Step, by contracts.
-/
namespace Go.Proofs.YtolfdfbhignniaaDoor
open Go.RowKit

variable {T2 : TypeId} {w wr w2 : World} {b x F t : Nat} {I : World → (Nat → Ch) → Prop} {f : Nat → Ch}
theorem in_tick (C : Chs true 98 58 w b x F t I) (h : I wr f) :
    Calls Tryd.prog 21 #[.pointer (some ⟨x, 0, none⟩)] wr fun e w' => e = .returned (.tuple #[]) ∧ I w' (fun k => older F (f k)) ∧ Keep (fun g => g = b) wr w' := by
  have HC := Lib.hid (C.tick h)
  obtain ⟨x0, x1⟩ := C.two h
  clear C h
  go_enter Tryd.func21, Tryd.ntmps21
  go_wp2_with fail
  (with_reducible refine HC.out.mono ?_)
  rintro e w1 ⟨rfl, hi, hk⟩
  have HI := Lib.hid hi
  have HK := Lib.hid hk
  clear hi hk
  go_wp2_with fail
  go_end0
  exact ⟨rfl, HI.out, HK.out⟩
theorem in_take_no (u : Value) (bs : List (BitVec 8)) (hu : Byts wr u bs) (hl : bs.length ≤ 140737488351232) {k c q : Int} {ys : List (BitVec 8)} (hd : dcd bs = (k, c, q, ys)) (hk : k ≠ 0) :
    Calls Tryd.prog 19 #[.pointer (some ⟨x, 0, none⟩), u] wr fun e w' => ∃ e2, e = .returned e2 ∧ ErrV w' e2 k ∧ Below wr.heap.size wr w' := by
  have HD := Lib.hid (dec_to bs hl hd u wr hu)
  have HK := Lib.hid hk
  clear hu hl hd hk
  go_enter Tryd.func19, Tryd.ntmps19
  go_wp2_with fail
  (with_reducible refine HD.out.mono ?_)
  rintro e w1 ⟨v, e2, rfl, hv, he, hb⟩
  obtain ⟨g, rfl, hg⟩ := he.not HK.out
  obtain ⟨av, cv, ev⟩ := hv.len
  subst ev
  have HB := Lib.hid (below_alloc hb (.cells #[.int .i64 c, .int .i64 q, .slice av ys.length cv] 84))
  have HG := Lib.hid (wrap_place g k HK.out ⟨#[105, 110, 112, 117, 116, 115, 44, 32, 98, 121, 116, 101, 115]⟩ (w1.alloc (.cells #[.int .i64 c, .int .i64 q, .slice av ys.length cv] 84)) (below_cell (below_alloc (Below.refl _ w1) _) hg))
  clear hb hv he hg
  go_wp2_with fail
  (with_reducible refine HG.out.mono ?_)
  rintro e w2 ⟨r, rfl, hr, hb⟩
  have HR := Lib.hid hr
  have HB2 := Lib.hid (below_call HB.out hb)
  clear hr hb
  go_wp2_with fail
  go_ret
  exact ⟨_, rfl, HR.out, HB2.out⟩
set_option maxHeartbeats 1000000 in
theorem in_take_yes (C : Chs true 98 58 w b x F t I) (h : I wr f) (u : Value) (bs : List (BitVec 8)) (hu : Byts wr u bs) (hl : bs.length ≤ 140737488351232) {c q : Int} {ys : List (BitVec 8)} (hd : dcd bs = (0, c, q, ys)) :
    Calls Tryd.prog 19 #[.pointer (some ⟨x, 0, none⟩), u] wr fun e w' => ∃ e2, e = .returned e2 ∧ ErrV w' e2 (tcode F f c q ys.length) ∧ I w' (taken F f c q ys) ∧ Keep (fun g => g = b) wr w' := by
  have HD := Lib.hid (dec_to bs hl hd u wr hu)
  have HC := Lib.hid C
  have H := Lib.hid h
  obtain ⟨kk, HKK⟩ : ∃ kk, Hid (kk = tcode F f c q ys.length) := ⟨_, Lib.hid rfl⟩
  obtain ⟨f2, HF2⟩ : ∃ f2, Hid (f2 = taken F f c q ys) := ⟨_, Lib.hid rfl⟩
  rw [← HKK.out, ← HF2.out]
  clear C h hu hl hd
  go_enter Tryd.func19, Tryd.ntmps19
  go_wp2_with fail
  (with_reducible refine HD.out.mono ?_)
  rintro e w1 ⟨v, e2, rfl, hv, he, hb⟩
  obtain rfl := he.nil
  obtain ⟨av, cv, ev⟩ := hv.len
  obtain ⟨n, HN⟩ : ∃ n, Hid (n = ys.length) := ⟨_, Lib.hid rfl⟩
  rw [← HN.out] at ev
  subst ev
  have HB := Lib.hid (below_alloc hb (.cells #[.int .i64 c, .int .i64 q, .slice av n cv] 84))
  have HX := Lib.hid (blk_new w1 #[.int .i64 c, .int .i64 q, .slice av n cv] 84)
  have HV := Lib.hid (hv.below (below_alloc (Below.refl _ w1) (.cells #[.int .i64 c, .int .i64 q, .slice av n cv] 84)))
  have HI := Lib.hid (HC.out.still H.out HB.out)
  have HNB := Lib.hid (show w1.heap.size ≠ b by have := (HC.out.blt H.out).1; have := hb.size; omega)
  obtain ⟨wa, hwa⟩ : ∃ wa, wa = w1.alloc (.cells #[.int .i64 c, .int .i64 q, .slice av n cv] 84) := ⟨_, rfl⟩
  rw [← hwa] at HB HX HV HI
  have HW := Lib.hid hwa
  clear hb hv he hwa
  go_wp2_with fail
  rw [← HW.out]
  generalize w1.heap.size = g1 at *
  clear HW
  obtain ⟨x0, x1⟩ := HC.out.two HI.out
  obtain ⟨y0, y1, y2⟩ := HX.out.three
  have HT := HC.out.take (HC.out.still HI.out (bel_drew wa)) c q _ ys (HV.out.below (bel_drew wa))
  rw [← HKK.out, ← HF2.out] at HT
  have HT := Lib.hid HT
  clear HD HKK HF2
  go_region_held3 (fun w' => (w'.cell? ⟨x, 0, none⟩ = some (.pointer (some ⟨b, 0, none⟩))) ∧ (w'.cell? ⟨g1, 0, none⟩ = some (.int .i64 c) ∧ w'.cell? ⟨g1, 1, none⟩ = some (.int .i64 q) ∧ w'.cell? ⟨g1, 2, none⟩ = some (.slice av n cv)))
    (first | exact ⟨x0, y0, y1, y2⟩ | exact HK5.out | exact HK6.out)
    (first
      | (go_at_call 48; (with_reducible refine HT.out.mono ?_); rintro e w5 ⟨e5, rfl, he, hi, hk⟩
         have HI5 := Lib.hid hi; have HE5 := Lib.hid he
         have HKB := Lib.hid ((Keep.of_below (F := fun g => g = b) (HB.out.trans (bel_drew wa |>.mono HB.out.size))).trans hk (fun g hg => .inl hg))
         have HX5 := Lib.hid ((HX.out.below (bel_drew wa)).keep hk HNB.out)
         have HK5 := Lib.hid (And.intro (HC.out.two hi).1 HX5.out.three)
         clear he hi hk)
      | (go_at_call 47; (with_reducible refine (wrap_any HE5.out _).mono ?_); rintro e w6 ⟨r, rfl, hr, hb⟩
         have HR6 := Lib.hid hr; have HI6 := Lib.hid (HC.out.still HI5.out hb)
         have HKB6 := Lib.hid (HKB.out.trans (Keep.of_below (F := fun g => g = b) hb) (fun g hg => .inl hg))
         have HK6 := Lib.hid (And.intro (HC.out.two HI6.out).1 (HX5.out.below hb).three)
         clear hr hb))
  go_wp2_with fail
  go_ret
  exact ⟨_, rfl, HR6.out, HI6.out, HKB6.out⟩
theorem in_take (C : Chs true 98 58 w b x F t I) (h : I wr f) (u : Value) (bs : List (BitVec 8)) (hu : Byts wr u bs) (hl : bs.length ≤ 140737488351232) :
    Calls Tryd.prog 19 #[.pointer (some ⟨x, 0, none⟩), u] wr fun e w' => ∃ e2, e = .returned e2 ∧ ErrV w' e2 (icode F f bs) ∧ I w' (itaken F f bs) ∧ Keep (fun g => g = b) wr w' := by
  obtain ⟨⟨k, c, q, ys⟩, hd⟩ : ∃ p, dcd bs = p := ⟨_, rfl⟩
  by_cases hk : k = 0
  · subst hk
    obtain ⟨h1, h2⟩ := icode_yes (F := F) (f := f) hd
    rw [h1, h2]
    exact in_take_yes C h u bs hu hl hd
  · obtain ⟨h1, h2⟩ := icode_no (F := F) (f := f) hd hk
    rw [h1, h2]
    exact (in_take_no u bs hu hl hd hk).mono fun e w' ⟨e2, he, hv, hb⟩ => ⟨e2, he, hv, C.still h hb, Keep.of_below hb⟩

/-- Bytes in a cell, no more than there may be. -/
def RB (w : World) (g o : Nat) (xs : List (BitVec 8)) : Prop := RByts w g o xs ∧ xs.length ≤ 140737488351232
theorem RB.below (hb : Below w.heap.size w w2) {g o : Nat} {xs : List (BitVec 8)} (h : RB w g o xs) : RB w2 g o xs := ⟨h.1.below hb, h.2⟩
set_option maxHeartbeats 1000000 in
theorem in_step (C : Chs true 98 58 w b x F t I) (h : I wr f) (v : Value) (ls : List (List (BitVec 8))) (hv : ∀ wr f, I wr f → Els RB 1 wr v ls) (hl : ls.length ≤ maxLen) (f2 : Nat → Ch) (n : Nat) (hs : stp14 F f ls = (f2, n)) :
    Calls Tryd.prog 13 #[.pointer (some ⟨x, 0, none⟩), v] wr fun e w' => e = .returned (.int .i64 (n : Int)) ∧ I w' f2 ∧ Keep (fun g => g = b) wr w' := by
  obtain ⟨a0, c0, ev⟩ := (hv wr f h).len
  obtain ⟨L, HL⟩ : ∃ L, Hid (L = ls.length) := ⟨_, Lib.hid rfl⟩
  rw [← HL.out] at ev hl
  have HV := Lib.hid hv
  have HC := Lib.hid C
  have HS := Lib.hid hs
  have hl : L ≤ 9223372036854775807 := hl
  have HLL := Lib.hid hl
  have HT := Lib.hid (in_tick C h)
  clear hv hs C h hl
  subst ev
  go_enter Tryd.func13, Tryd.ntmps13
  go_wp2_with fail
  (with_reducible refine HT.out.mono ?_)
  rintro e w1 ⟨rfl, hi, hk⟩
  have HI := Lib.hid hi
  have HK := Lib.hid hk
  clear hi hk HT
  go_wp2_with fail
  go_loopw [5, 12] (fun u5 u12 wx => ∃ (i m : Nat) (fi : Nat → Ch), i ≤ L ∧ u12 = .int .i64 (i : Int) ∧ u5 = .int .i64 (m : Int) ∧ Hid (tks F (fun k => older F (f k), 0) (ls.take i) = (fi, m)) ∧ Hid (I wx fi) ∧ Hid (Keep (fun g => g = b) wr wx)) (fun _ u12 _ => L - (intOf u12).toNat)
  case atStart => exact ⟨0, 0, _, by omega, rfl, rfl, Lib.hid rfl, HI, HK⟩
  case round =>
    obtain ⟨i, m, fi, hi, rfl, rfl, HM, HIr, HKr⟩ := hrel
    clear HI HK
    by_cases hlt : i < L
    · have hlz : (i : Int) < (L : Int) := by omega
      have hi0 : (0 : Int) ≤ (i : Int) := by omega
      obtain ⟨y, hy⟩ : ∃ y, ls[i]? = some y := ⟨_, List.getElem?_eq_getElem (by rw [← HL.out]; exact hlt)⟩
      obtain ⟨g, o, ea, hr, hyl⟩ := (HV.out _ fi HIr.out).at_ hy
      subst ea
      obtain ⟨ya, yc, hc, hby⟩ := hr
      have HN := tks_next F (fun k => older F (f k), 0) ls i y hy
      rw [HM.out] at HN
      have HN := Lib.hid HN
      have hmi : m ≤ i := by
        have := tks_le F (ls.take i) (fun k => older F (f k), 0)
        rw [HM.out] at this
        simp at this
        omega
      have HML := Lib.hid (show (m : Int) + 1 ≤ 9223372036854775807 ∧ (i : Int) + 1 ≤ 9223372036854775807 by have := HLL.out; omega)
      have hw5 : IntKind.i64.wrap ((m : Int) + 1) = (m : Int) + 1 := by have := HML.out; rw [IntKind.wrap_i64]; omega
      have hw12 : IntKind.i64.wrap ((i : Int) + 1) = (i : Int) + 1 := by have := HML.out; rw [IntKind.wrap_i64]; omega
      have HTK := Lib.hid (in_take HC.out HIr.out _ y hby hyl)
      obtain ⟨yl, HYL⟩ : ∃ yl, Hid (yl = y.length) := ⟨_, Lib.hid rfl⟩
      rw [← HYL.out, Nat.mul_one] at hc
      rw [← HYL.out] at HTK
      clear hy hby hyl hmi
      by_cases hk : icode F fi y = 0
      · have HN2 := HN.out
        rw [if_pos hk] at HN2
        rw [hk] at HTK
        have HN2 := Lib.hid HN2
        clear hk HN
        go_wp2_with fail
        (with_reducible refine HTK.out.mono ?_)
        rintro e w5 ⟨e5, rfl, he, hii, hkk⟩
        obtain rfl := he.nil
        have HI5 := Lib.hid hii
        have HK5 := Lib.hid (HKr.out.trans hkk (fun g hg => .inl hg))
        clear he hii hkk
        go_wp2_with fail
        go_roundw
        case rel => exact ⟨i + 1, m + 1, _, by omega, by go_num, by go_num, HN2, HI5, HK5⟩
        case measure => simp [intOf]; omega
      · have HN2 := HN.out
        rw [if_neg hk] at HN2
        have HN2 := Lib.hid HN2
        have HKK := Lib.hid hk
        clear hk HN
        go_wp2_with fail
        (with_reducible refine HTK.out.mono ?_)
        rintro e w5 ⟨e5, rfl, he, hii, hkk⟩
        obtain ⟨g5, rfl, _⟩ := he.not HKK.out
        have HI5 := Lib.hid hii
        have HK5 := Lib.hid (HKr.out.trans hkk (fun g hg => .inl hg))
        clear he hii hkk
        go_wp2_with fail
        go_roundw
        case rel => exact ⟨i + 1, m, _, by omega, by go_num, by go_num, HN2, HI5, HK5⟩
        case measure => simp [intOf]; omega
    · have hlz : (L : Int) ≤ (i : Int) := by omega
      have hiL : i = L := by omega
      have hM := HM.out
      rw [hiL, HL.out, List.take_length] at hM
      have hS := HS.out
      unfold stp14 at hS
      rw [hM] at hS
      cases hS
      clear hiL hM
      go_wp2_with fail
      go_ret
      exact ⟨rfl, HIr.out, HKr.out⟩
end Go.Proofs.YtolfdfbhignniaaDoor
/-
  The document's Take and Step, by contracts.
-/
namespace Go.Proofs.YtolfdfbhignniaaDoor
open Go.RowKit

variable {w wr w2 : World} {b x F t : Nat} {I : World → (Nat → Ch) → Prop} {f : Nat → Ch}
theorem rin_take_no (u : Value) (bs : List (BitVec 8)) (hu : Byts wr u bs) (hl : bs.length ≤ 140737488351232) {k c q : Int} {ys : List (BitVec 8)} (hd : dcd bs = (k, c, q, ys)) (hk : k ≠ 0) :
    Calls Tryd.prog 20 #[.pointer (some ⟨x, 0, none⟩), u] wr fun e w' => e = .returned (.int .i64 k) ∧ Below wr.heap.size wr w' := by
  have HD := Lib.hid (rdec_to bs hl hd u wr hu)
  have q0 : (k != 0) = true := by simpa using hk
  clear hu hl hd hk
  go_enter Tryd.func20, Tryd.ntmps20
  go_wp2_with fail
  (with_reducible refine HD.out.mono ?_)
  rintro e w1 ⟨v, rfl, hv, hb⟩
  obtain ⟨av, cv, ev⟩ := hv.len
  subst ev
  have HB := Lib.hid (below_alloc hb (.cells #[.int .i64 c, .int .i64 q, .slice av ys.length cv] 84))
  clear hb hv
  go_wp2_with fail
  go_ret
  exact ⟨rfl, HB.out⟩
set_option maxHeartbeats 1000000 in
theorem rin_take_yes (C : Chs false 100 62 w b x F t I) (h : I wr f) (u : Value) (bs : List (BitVec 8)) (hu : Byts wr u bs) (hl : bs.length ≤ 140737488351232) {c q : Int} {ys : List (BitVec 8)} (hd : dcd bs = (0, c, q, ys)) :
    Calls Tryd.prog 20 #[.pointer (some ⟨x, 0, none⟩), u] wr fun e w' => e = .returned (.int .i64 (tcode F f c q ys.length)) ∧ I w' (taken F f c q ys) ∧ Keep (fun g => g = b) wr w' := by
  have HD := Lib.hid (rdec_to bs hl hd u wr hu)
  have HC := Lib.hid C
  have H := Lib.hid h
  obtain ⟨kk, HKK⟩ : ∃ kk, Hid (kk = tcode F f c q ys.length) := ⟨_, Lib.hid rfl⟩
  obtain ⟨f2, HF2⟩ : ∃ f2, Hid (f2 = taken F f c q ys) := ⟨_, Lib.hid rfl⟩
  rw [← HKK.out, ← HF2.out]
  clear C h hu hl hd
  go_enter Tryd.func20, Tryd.ntmps20
  go_wp2_with fail
  (with_reducible refine HD.out.mono ?_)
  rintro e w1 ⟨v, rfl, hv, hb⟩
  obtain ⟨av, cv, ev⟩ := hv.len
  obtain ⟨n, HN⟩ : ∃ n, Hid (n = ys.length) := ⟨_, Lib.hid rfl⟩
  rw [← HN.out] at ev
  subst ev
  have HB := Lib.hid (below_alloc hb (.cells #[.int .i64 c, .int .i64 q, .slice av n cv] 84))
  have HX := Lib.hid (blk_new w1 #[.int .i64 c, .int .i64 q, .slice av n cv] 84)
  have HV := Lib.hid (hv.below (below_alloc (Below.refl _ w1) (.cells #[.int .i64 c, .int .i64 q, .slice av n cv] 84)))
  have HI := Lib.hid (HC.out.still H.out HB.out)
  have HNB := Lib.hid (show w1.heap.size ≠ b by have := (HC.out.blt H.out).1; have := hb.size; omega)
  obtain ⟨wa, hwa⟩ : ∃ wa, wa = w1.alloc (.cells #[.int .i64 c, .int .i64 q, .slice av n cv] 84) := ⟨_, rfl⟩
  rw [← hwa] at HB HX HV HI
  have HW := Lib.hid hwa
  clear hb hv hwa
  go_wp2_with fail
  rw [← HW.out]
  generalize w1.heap.size = g1 at *
  clear HW
  obtain ⟨x0, x1⟩ := HC.out.two HI.out
  obtain ⟨y0, y1, y2⟩ := HX.out.three
  have HT := HC.out.rtake (HC.out.still HI.out (bel_drew wa)) c q _ ys (HV.out.below (bel_drew wa))
  rw [← HKK.out, ← HF2.out] at HT
  have HT := Lib.hid HT
  clear HD HKK HF2
  go_region_held3 (fun w' => (w'.cell? ⟨x, 0, none⟩ = some (.pointer (some ⟨b, 0, none⟩))) ∧ (w'.cell? ⟨g1, 0, none⟩ = some (.int .i64 c) ∧ w'.cell? ⟨g1, 1, none⟩ = some (.int .i64 q) ∧ w'.cell? ⟨g1, 2, none⟩ = some (.slice av n cv)))
    (first | exact ⟨x0, y0, y1, y2⟩ | exact HK5.out)
    (first
      | (go_at_call 50; (with_reducible refine HT.out.mono ?_); rintro e w5 ⟨rfl, hi, hk⟩
         have HI5 := Lib.hid hi
         have HKB := Lib.hid ((Keep.of_below (F := fun g => g = b) (HB.out.trans (bel_drew wa |>.mono HB.out.size))).trans hk (fun g hg => .inl hg))
         have HX5 := Lib.hid ((HX.out.below (bel_drew wa)).keep hk HNB.out)
         have HK5 := Lib.hid (And.intro (HC.out.two hi).1 HX5.out.three)
         clear hi hk))
  go_wp2_with fail
  go_ret
  exact ⟨rfl, HI5.out, HKB.out⟩
theorem rin_take (C : Chs false 100 62 w b x F t I) (h : I wr f) (u : Value) (bs : List (BitVec 8)) (hu : Byts wr u bs) (hl : bs.length ≤ 140737488351232) :
    Calls Tryd.prog 20 #[.pointer (some ⟨x, 0, none⟩), u] wr fun e w' => e = .returned (.int .i64 (icode F f bs)) ∧ I w' (itaken F f bs) ∧ Keep (fun g => g = b) wr w' := by
  obtain ⟨⟨k, c, q, ys⟩, hd⟩ : ∃ p, dcd bs = p := ⟨_, rfl⟩
  by_cases hk : k = 0
  · subst hk
    obtain ⟨h1, h2⟩ := icode_yes (F := F) (f := f) hd
    rw [h1, h2]
    exact rin_take_yes C h u bs hu hl hd
  · obtain ⟨h1, h2⟩ := icode_no (F := F) (f := f) hd hk
    rw [h1, h2]
    exact (rin_take_no u bs hu hl hd hk).mono fun e w' ⟨he, hb⟩ => ⟨he, C.still h hb, Keep.of_below hb⟩

set_option maxHeartbeats 1000000 in
theorem rin_step (C : Chs false 100 62 w b x F t I) (h : I wr f) (v : Value) (ls : List (List (BitVec 8))) (hv : ∀ wr f, I wr f → Els RB 1 wr v ls) (hl : ls.length ≤ maxLen) (f2 : Nat → Ch) (n : Nat) (hs : stp14 F f ls = (f2, n)) :
    Calls Tryd.prog 14 #[.pointer (some ⟨x, 0, none⟩), v] wr fun e w' => e = .returned (.int .i64 (n : Int)) ∧ I w' f2 ∧ Keep (fun g => g = b) wr w' := by
  obtain ⟨a0, c0, ev⟩ := (hv wr f h).len
  obtain ⟨L, HL⟩ : ∃ L, Hid (L = ls.length) := ⟨_, Lib.hid rfl⟩
  rw [← HL.out] at ev hl
  obtain ⟨x0, x1⟩ := C.two h
  have HV := Lib.hid hv
  have HC := Lib.hid C
  have HS := Lib.hid hs
  have hl : L ≤ 9223372036854775807 := hl
  have HLL := Lib.hid hl
  have HT := Lib.hid (C.rtick h)
  clear hv hs C h hl
  subst ev
  go_enter Tryd.func14, Tryd.ntmps14
  go_wp2_with fail
  (with_reducible refine HT.out.mono ?_)
  rintro e w1 ⟨rfl, hi, hk⟩
  have HI := Lib.hid hi
  have HK := Lib.hid hk
  clear hi hk HT x0 x1
  go_wp2_with fail
  go_loopw [5, 6] (fun u5 u6 wx => ∃ (i m : Nat) (fi : Nat → Ch), i ≤ L ∧ u6 = .int .i64 (i : Int) ∧ u5 = .int .i64 (m : Int) ∧ Hid (tks F (fun k => older F (f k), 0) (ls.take i) = (fi, m)) ∧ Hid (I wx fi) ∧ Hid (Keep (fun g => g = b) wr wx)) (fun _ u6 _ => L - (intOf u6).toNat)
  case atStart => exact ⟨0, 0, _, by omega, rfl, rfl, Lib.hid rfl, HI, HK⟩
  case round =>
    obtain ⟨i, m, fi, hi, rfl, rfl, HM, HIr, HKr⟩ := hrel
    clear HI HK
    by_cases hlt : i < L
    · have hlz : (i : Int) < (L : Int) := by omega
      have hi0 : (0 : Int) ≤ (i : Int) := by omega
      obtain ⟨y, hy⟩ : ∃ y, ls[i]? = some y := ⟨_, List.getElem?_eq_getElem (by rw [← HL.out]; exact hlt)⟩
      obtain ⟨g, o, ea, hr, hyl⟩ := (HV.out _ fi HIr.out).at_ hy
      subst ea
      obtain ⟨ya, yc, hc, hby⟩ := hr
      have HN := tks_next F (fun k => older F (f k), 0) ls i y hy
      rw [HM.out] at HN
      have HN := Lib.hid HN
      have hmi : m ≤ i := by
        have := tks_le F (ls.take i) (fun k => older F (f k), 0)
        rw [HM.out] at this
        simp at this
        omega
      have HML := Lib.hid (show (m : Int) + 1 ≤ 9223372036854775807 ∧ (i : Int) + 1 ≤ 9223372036854775807 by have := HLL.out; omega)
      have hw5 : IntKind.i64.wrap ((m : Int) + 1) = (m : Int) + 1 := by have := HML.out; rw [IntKind.wrap_i64]; omega
      have hw12 : IntKind.i64.wrap ((i : Int) + 1) = (i : Int) + 1 := by have := HML.out; rw [IntKind.wrap_i64]; omega
      have HTK := Lib.hid (rin_take HC.out HIr.out _ y hby hyl)
      obtain ⟨yl, HYL⟩ : ∃ yl, Hid (yl = y.length) := ⟨_, Lib.hid rfl⟩
      rw [← HYL.out, Nat.mul_one] at hc
      rw [← HYL.out] at HTK
      clear hy hby hyl hmi
      by_cases hk : icode F fi y = 0
      · have HN2 := HN.out
        rw [if_pos hk] at HN2
        rw [hk] at HTK
        have HN2 := Lib.hid HN2
        clear hk HN
        go_wp2_with fail
        (with_reducible refine HTK.out.mono ?_)
        rintro e w5 ⟨rfl, hii, hkk⟩
        have HI5 := Lib.hid hii
        have HK5 := Lib.hid (HKr.out.trans hkk (fun g hg => .inl hg))
        clear hii hkk
        go_wp2_with fail
        go_roundw
        case rel => exact ⟨i + 1, m + 1, _, by omega, by go_num, by go_num, HN2, HI5, HK5⟩
        case measure => simp [intOf]; omega
      · have HN2 := HN.out
        rw [if_neg hk] at HN2
        have HN2 := Lib.hid HN2
        have q0 : (icode F fi y == 0) = false := by simpa using hk
        generalize icode F fi y = kk at *
        clear hk HN
        go_wp2_with fail
        (with_reducible refine HTK.out.mono ?_)
        rintro e w5 ⟨rfl, hii, hkk⟩
        have HI5 := Lib.hid hii
        have HK5 := Lib.hid (HKr.out.trans hkk (fun g hg => .inl hg))
        clear hii hkk
        go_wp2_with fail
        go_roundw
        case rel => exact ⟨i + 1, m, _, by omega, by go_num, by go_num, HN2, HI5, HK5⟩
        case measure => simp [intOf]; omega
    · have hlz : (L : Int) ≤ (i : Int) := by omega
      have hiL : i = L := by omega
      have hM := HM.out
      rw [hiL, HL.out, List.take_length] at hM
      have hS := HS.out
      unfold stp14 at hS
      rw [hM] at hS
      cases hS
      clear hiL hM
      go_wp2_with fail
      go_ret
      exact ⟨rfl, HIr.out, HKr.out⟩
end Go.Proofs.YtolfdfbhignniaaDoor
/-
  Slices of slices of bytes, and slices of such, among the arguments, with the form's own reach: how long each may be.
-/
namespace Go.Proofs.YtolfdfbhignniaaDoor
open Go.ChangeShapes Go.WideShapes Go.ChangeAt Go.RowKit

theorem weights_of {H : Type} {P : Program} {ts : List TypeId} {ds : List (DataW H)} (h : (DataW.weightsEach P ts ds).all (· ≤ reachBytes) = true) {j : Nat} {t : TypeId} {d : DataW H} (ht : ts[j]? = some t) (hd : ds[j]? = some d) : ∀ m ∈ d.weights P t, m ≤ reachBytes := fun m hm => by
  simpa using List.all_eq_true.1 h _ (DataW.weights_mem_each ht hd m hm)
theorem weightsAll_mem {H : Type} {P : Program} {e : TypeId} : ∀ {l : List (DataW H)} {d : DataW H}, d ∈ l → ∀ m ∈ d.weights P e, m ∈ DataW.weightsAll P e l
  | [], _, h, _, _ => by cases h
  | a :: t, d, h, m, hm => by
    simp only [DataW.weightsAll, List.mem_append]
    rcases List.mem_cons.1 h with rfl | h
    · exact .inl hm
    · exact .inr (weightsAll_mem h m hm)
theorem weights_elem {H : Type} {P : Program} {t e : TypeId} (hu : P.underlying t = some (.slice e)) {els spare : List (DataW H)} (hw : ∀ m ∈ (DataW.slice els spare).weights P t, m ≤ reachBytes) {d : DataW H} (hd : d ∈ els) : ∀ m ∈ d.weights P e, m ≤ reachBytes := fun m hm => hw m (by
  simp only [DataW.weights, hu]
  exact List.mem_cons_of_mem _ (List.mem_append_left _ (weightsAll_mem hd m hm)))
theorem weights_len {H : Type} {P : Program} {t e : TypeId} (hu : P.underlying t = some (.slice e)) {els spare : List (DataW H)} (hw : ∀ m ∈ (DataW.slice els spare).weights P t, m ≤ reachBytes) : (els.length + spare.length) * P.bytesOf e ≤ reachBytes := hw _ (by
  simp only [DataW.weights, hu]
  exact List.mem_cons_self)
/-- XElg's open_els_at, where a reader may know its element's reach. -/
theorem open_elsW {α : Type} [Inhabited α] {R : World → Nat → Nat → α → Prop} {sz : Nat} {H : Type} {enc : TypeId × Value → H} {P : Program} {W : World} {t e : TypeId}
    (ht : P.underlying t = some (.slice e)) (hsz : P.cellsOf e = sz) (h0 : 0 < sz)
    (hR : ∀ (g o n : Nat) (cs : List Value) x, cs.length = sz → (∀ i, i < sz → W.cell? ⟨g, o + i, none⟩ = cs[i]?) → DataW.trod enc P W 0 (fun _ => true) true n e cs = some x → (∀ m ∈ x.1.weights P e, m ≤ reachBytes) → ∃ y, R W g o y)
    {a0 : Option Addr} {len cap : Nat} {d : DataW H} {p : List MemPlace} (h : DataW.Trod enc P W 0 (fun _ => true) true t (.slice a0 len cap) d p) (hw : ∀ m ∈ d.weights P t, m ≤ reachBytes) :
    ∃ ls : List α, Els R sz W (.slice a0 len cap) ls ∧ ls.length ≤ maxLen := by
  obtain ⟨fuel, hf⟩ := h
  rcases Go.Deep.open_slice ht hf with ⟨hcs, hx⟩ | ⟨a, len', cap', m, n, D, Pl, hcs, _, hl, hm, hmm, hx, hcell⟩
  · simp [Value.cells] at hcs
    obtain ⟨rfl, rfl, rfl⟩ := hcs
    exact ⟨[], ⟨_, _, rfl, fun j y hy => by simp at hy⟩, by simp⟩
  · simp [Value.cells] at hcs
    obtain ⟨rfl, rfl, rfl⟩ := hcs
    simp only [if_true] at hmm
    subst hmm
    by_cases hlen : len = 0
    · subst hlen
      exact ⟨[], ⟨_, _, rfl, fun j y hy => by simp at hy⟩, by simp⟩
    have spot : a.spot = none := by
      obtain ⟨cs', h1, _⟩ := hcell 0 (by omega)
      rw [hsz] at h1
      obtain ⟨_, hlen', hc⟩ := World.cells?_some h1
      have := hc 0 h0
      rw [Go.Deep.add_add, List.getElem?_eq_getElem (by omega)] at this
      simpa [Addr.add] using World.cell?_spot this
    obtain ⟨b, off, sp⟩ := a
    obtain rfl : sp = none := spot
    cases hx
    have each : ∀ i, i < len → ∃ y : α, R W b (off + i * sz) y := by
      intro i hi
      obtain ⟨cs', h1, h2⟩ := hcell i (by omega)
      rw [hsz] at h1
      obtain ⟨_, hlen', hc⟩ := World.cells?_some h1
      refine hR b (off + i * sz) n cs' _ hlen' (fun j hj => ?_) h2 (weights_elem ht hw (List.mem_map.2 ⟨i, List.mem_range.2 hi, rfl⟩))
      have := hc j hj
      rw [Go.Deep.add_add, plain_add, ← Nat.add_assoc] at this
      exact this
    obtain ⟨f, hf⟩ := Go.Deep.choose_lt each
    refine ⟨(List.range len).map f, ⟨_, _, by simp only [List.length_map, List.length_range]; rfl, fun j y hy => ?_⟩, by simp; omega⟩
    have hj : j < len := by
      have := (List.getElem?_eq_some_iff.1 hy).1
      simpa using this
    rw [List.getElem?_map, List.getElem?_range hj] at hy
    simp only [Option.map_some, Option.some.injEq] at hy
    exact ⟨b, off, rfl, by rw [← hy]; exact hf j hj⟩
theorem bytes_u8 : Tryd.prog.bytesOf 5 = 1 := by kernel_rfl
theorem cells_bytes : Tryd.prog.cellsOf 44 = 1 := by kernel_rfl
theorem cells_rows : Tryd.prog.cellsOf 30 = 1 := by kernel_rfl
/-- Rows of bytes in a cell. -/
def RRows (w : World) (g o : Nat) (ls : List (List (BitVec 8))) : Prop := ∃ a c, w.cell? ⟨g, o, none⟩ = some (.slice a ls.length c) ∧ Els RB 1 w (.slice a ls.length c) ls ∧ ls.length ≤ maxLen
theorem RRows.below {w w' : World} (hb : Below w.heap.size w w') {g o : Nat} {ls : List (List (BitVec 8))} (h : RRows w g o ls) : RRows w' g o ls := by
  obtain ⟨a, c, h1, h2, h3⟩ := h
  exact ⟨a, c, below_cell hb h1, h2.below fun _ _ _ hr => hr.below hb, h3⟩
section
variable {H : Type} {enc : TypeId × Value → H} {W : World}
set_option maxRecDepth 100000 in
theorem read_rb (g o n : Nat) (u : Value) (x) (hc : W.cell? ⟨g, o, none⟩ = some u) (h : DataW.trod enc Tryd.prog W 0 (fun _ => true) true n 44 [u] = some x) (hw : ∀ m ∈ x.1.weights Tryd.prog 44, m ≤ reachBytes) : ∃ xs, RB W g o xs := by
  obtain ⟨a, l, c, e⟩ := Go.Joins.slice_form Tryd.underlying44 h
  simp at e
  subst e
  obtain ⟨zs, hs, _, _, hd⟩ := open_sl_at (d := x.1) (p := x.2) cel (fun n => BitVec.ofNat 8 n.toNat) (fun n hn => by unfold cel; rw [u8_of_wf hn]) Tryd.underlying44 Tryd.underlying5 cells_u8 ⟨n, h⟩
  have hl : Byts W (.slice a l c) (zs.map fun n => BitVec.ofNat 8 n.toNat) := hs
  obtain ⟨a', c', e'⟩ := hl.len
  simp only [Value.slice.injEq] at e'
  obtain ⟨rfl, rfl, rfl⟩ := e'
  refine ⟨_, ⟨_, _, hc, hl⟩, ?_⟩
  rcases hd with ⟨_, rfl⟩ | ⟨sp, h1⟩
  · simp
  · rw [h1] at hw
    have := weights_len Tryd.underlying44 hw
    rw [bytes_u8] at this
    simp [lits] at this
    unfold reachBytes at this
    simp
    omega
set_option maxRecDepth 100000 in
theorem open_rowsW {base : Nat} {v : Value} {d : DataW H} {p : List MemPlace} (hv : Value.okWide Tryd.prog W .any base 30 v) (h : DataW.Trod enc Tryd.prog W 0 (fun _ => true) true 30 v d p) (hw : ∀ m ∈ d.weights Tryd.prog 30, m ≤ reachBytes) :
    ∃ ls : List (List (BitVec 8)), Els RB 1 W v ls ∧ ls.length ≤ maxLen := by
  obtain ⟨a0, len, cap, rfl⟩ := okWide_slice Tryd.underlying30 hv
  exact open_elsW (R := RB) (sz := 1) Tryd.underlying30 cells_bytes (by decide) (fun g o n cs x hl hc ht hx => by
    obtain ⟨u, rfl⟩ := List.length_eq_one_iff.1 hl
    exact read_rb g o n u x (by simpa using hc 0 (by omega)) ht hx) h hw
set_option maxRecDepth 100000 in
theorem open_rows3 {base : Nat} {v : Value} {d : DataW H} {p : List MemPlace} (hv : Value.okWide Tryd.prog W .any base 22 v) (h : DataW.Trod enc Tryd.prog W 0 (fun _ => true) true 22 v d p) (hw : ∀ m ∈ d.weights Tryd.prog 22, m ≤ reachBytes) :
    ∃ ls : List (List (List (BitVec 8))), Els RRows 1 W v ls ∧ ls.length ≤ maxLen := by
  obtain ⟨a0, len, cap, rfl⟩ := okWide_slice Tryd.underlying22 hv
  exact open_elsW (R := RRows) (sz := 1) Tryd.underlying22 cells_rows (by decide) (fun g o n cs x hl hc ht hx => by
    obtain ⟨u, rfl⟩ := List.length_eq_one_iff.1 hl
    obtain ⟨a, l, c, e⟩ := Go.Joins.slice_form Tryd.underlying30 ht
    simp at e
    subst e
    obtain ⟨ls, h1, h2⟩ := open_elsW (R := RB) (sz := 1) (d := x.1) (p := x.2) Tryd.underlying30 cells_bytes (by decide) (fun g o n cs x hl hc ht hx => by
      obtain ⟨u, rfl⟩ := List.length_eq_one_iff.1 hl
      exact read_rb g o n u x (by simpa using hc 0 (by omega)) ht hx) ⟨n, ht⟩ hx
    obtain ⟨a', c', e'⟩ := h1.len
    simp only [Value.slice.injEq] at e'
    obtain ⟨rfl, rfl, rfl⟩ := e'
    exact ⟨ls, _, _, by simpa using hc 0 (by omega), h1, h2⟩) h hw
end
end Go.Proofs.YtolfdfbhignniaaDoor
/-
  crossbuckref13.Same of two that are the same, by contract.
-/
namespace Go.Proofs.YtolfdfbhignniaaDoor
open Go.RowKit

set_option maxHeartbeats 2000000 in
set_option maxRecDepth 10000 in
theorem same_to (a b c d s l o : Bool) (m : Int) (mn bt : Bool) (r : Int) (v v' : Value) (ts : List Ct) (w : World) (hv : Els RCt 5 w v ts) (hv' : Els RCt 5 w v' ts) (hl : ts.length ≤ 1000) :
    Calls Tryd.prog 15 #[.agg #[.bool a, .bool b, .bool c, .bool d, .bool s, .bool l, .bool o, .int .i64 m, .bool mn, .bool bt, .int .i64 r, v], .agg #[.bool a, .bool b, .bool c, .bool d, .bool s, .bool l, .bool o, .int .i64 m, .bool mn, .bool bt, .int .i64 r, v']] w
      fun e w' => e = .returned (.bool true) ∧ Below w.heap.size w w' := by
  have HV := Lib.hid hv
  have HV' := Lib.hid hv'
  obtain ⟨av, cv, ev⟩ := hv.len
  obtain ⟨av', cv', ev'⟩ := hv'.len
  obtain ⟨n, hn⟩ : ∃ n, n = ts.length := ⟨_, rfl⟩
  rw [← hn] at ev ev' hl
  subst ev ev'
  have HN := Lib.hid hn
  clear hv hv' hn
  have HX := Lib.hid (blk_new w #[.bool a, .bool b, .bool c, .bool d, .bool s, .bool l, .bool o, .int .i64 m, .bool mn, .bool bt, .int .i64 r, .slice av n cv] 36)
  have HX' := Lib.hid (blk_new (w.alloc (.cells #[.bool a, .bool b, .bool c, .bool d, .bool s, .bool l, .bool o, .int .i64 m, .bool mn, .bool bt, .int .i64 r, .slice av n cv] 36)) #[.bool a, .bool b, .bool c, .bool d, .bool s, .bool l, .bool o, .int .i64 m, .bool mn, .bool bt, .int .i64 r, .slice av' n cv'] 36)
  rw [show (w.alloc (.cells #[.bool a, .bool b, .bool c, .bool d, .bool s, .bool l, .bool o, .int .i64 m, .bool mn, .bool bt, .int .i64 r, .slice av n cv] 36)).heap.size = w.heap.size + 1 by simp] at HX'
  have HB := Lib.hid (below_alloc (below_alloc (Below.refl _ w) (.cells #[.bool a, .bool b, .bool c, .bool d, .bool s, .bool l, .bool o, .int .i64 m, .bool mn, .bool bt, .int .i64 r, .slice av n cv] 36)) (.cells #[.bool a, .bool b, .bool c, .bool d, .bool s, .bool l, .bool o, .int .i64 m, .bool mn, .bool bt, .int .i64 r, .slice av' n cv'] 36))
  have HX1 := Lib.hid (HX.out.below (below_alloc (Below.refl _ (w.alloc (.cells #[.bool a, .bool b, .bool c, .bool d, .bool s, .bool l, .bool o, .int .i64 m, .bool mn, .bool bt, .int .i64 r, .slice av n cv] 36))) (.cells #[.bool a, .bool b, .bool c, .bool d, .bool s, .bool l, .bool o, .int .i64 m, .bool mn, .bool bt, .int .i64 r, .slice av' n cv'] 36)))
  clear HX
  have hT := neq_bar a b c d a b c d false (by simp)
  have q1 : (s != s) = false := by simp
  have q2 : (l != l) = false := by simp
  have q3 : (o != o) = false := by simp
  have q4 : (m != m) = false := by simp
  have q5 : (mn != mn) = false := by simp
  have q6 : (bt != bt) = false := by simp
  have q7 : (r != r) = false := by simp
  have q8 : ((n : Int) != (n : Int)) = false := by simp
  go_enter Tryd.func15, Tryd.ntmps15
  (try dsimp only [List.append])
  go_wp2_with fail
  clear hT q1 q2 q3 q4 q5 q6 q7 q8
  go_loopw [5] (fun i wr => ∃ j : Nat, j ≤ n ∧ i = .int .i64 (j : Int) ∧ Hid (Below w.heap.size w wr) ∧ Hid (Blk wr w.heap.size #[.bool a, .bool b, .bool c, .bool d, .bool s, .bool l, .bool o, .int .i64 m, .bool mn, .bool bt, .int .i64 r, .slice av n cv] 36) ∧ Hid (Blk wr (w.heap.size + 1) #[.bool a, .bool b, .bool c, .bool d, .bool s, .bool l, .bool o, .int .i64 m, .bool mn, .bool bt, .int .i64 r, .slice av' n cv'] 36)) (fun i _ => n - (intOf i).toNat)
  case atStart => exact ⟨0, by omega, rfl, HB, HX1, HX'⟩
  case round =>
    obtain ⟨j, hj, rfl, HBr, HXr, HXr'⟩ := hrel
    clear HB HX1 HX'
    have hc0 := HXr.out.cell 11 (u := .slice av n cv) rfl
    have hd0 := HXr'.out.cell 11 (u := .slice av' n cv') rfl
    by_cases hlt : j < n
    · have hltI : (j : Int) < (n : Int) := by omega
      obtain ⟨y, hy⟩ : ∃ y, ts[j]? = some y := ⟨_, List.getElem?_eq_getElem (by rw [← HN.out]; exact hlt)⟩
      obtain ⟨g, p, ea, hr⟩ := HV.out.at_ hy
      obtain ⟨g', p', ea', hr'⟩ := HV'.out.at_ hy
      obtain ⟨e0, e1, e2, e3, e4⟩ := hr.below HBr.out
      obtain ⟨e0', e1', e2', e3', e4'⟩ := hr'.below HBr.out
      subst ea ea'
      have hN := neq_cnt y.fr y.i y.o y.cs y.l y.fr y.i y.o y.cs y.l false (by simp)
      clear hy hr hr'
      obtain ⟨k, i, oo, cs, ll⟩ := y
      dsimp only at e0 e1 e2 e3 e4 e0' e1' e2' e3' e4' hN
      go_wp2_with fail
      go_big_region
      go_wp2_with fail
      go_roundw
      case rel => exact ⟨j + 1, by omega, by go_num, Lib.hid (below_call HBr.out (bel_drew _)), Lib.hid (HXr.out.below (bel_drew _)), Lib.hid (HXr'.out.below (bel_drew _))⟩
      case measure => simp [intOf]; omega
    · have hltI : (n : Int) ≤ (j : Int) := by omega
      go_wp2_with fail
      go_ret
      exact ⟨rfl, HBr.out⟩
end Go.Proofs.YtolfdfbhignniaaDoor
