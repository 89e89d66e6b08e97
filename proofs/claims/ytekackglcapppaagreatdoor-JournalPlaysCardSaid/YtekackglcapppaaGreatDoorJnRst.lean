/-
  The document's store: New, Write, Kill, Revive, by contract.
-/
import Derived.StillTailTactics
import Derived.Test.YtekackglcapppaaGreatDoorYJn

namespace Go.Proofs.YtekackglcapppaaGreatDoor
open Go.RowKit

/-- How many bytes may still be written, as the document's store tells it. -/
def lft : Option Nat → Int
  | none => -1
  | some k => (k : Int)
/-- The document's store at block x, its bytes in block y. -/
def RSt (w : World) (x y : Nat) (S : Ss) : Prop :=
  ∃ a c, Blk w x #[.slice a S.xs.length c, .int .i64 (lft S.left), .bool S.dead] 53 ∧ Own w 0 (.slice a S.xs.length c) S.xs ∧ (∀ ad, a = some ad → ad.block = y ∧ y ≠ x) ∧ y < w.heap.size ∧ S.xs.length ≤ 65536 ∧ lft S.left ≤ 9223372036854775807
theorem RSt.keep {w w' : World} {x y : Nat} {S : Ss} (h : RSt w x y S) {G : Nat → Prop} (hk : Keep G w w') (h1 : ¬ G x) (h2 : ¬ G y) : RSt w' x y S := by
  obtain ⟨a, c, hb, ho, ha, hy, r⟩ := h
  refine ⟨a, c, hb.keep hk h1, ho.keepB hk fun g hg => ?_, ha, Nat.lt_of_lt_of_le hy hk.size, r⟩
  cases a with
  | none => cases hg
  | some ad =>
    simp only [Value.ownBlock] at hg
    have := (ha ad rfl).1
    rcases ho.2 with ⟨h3, _⟩ | ⟨g', cap, cur, h3, _⟩
    · cases h3
    · simp only [Value.slice.injEq, Option.some.injEq] at h3
      obtain ⟨rfl, _⟩ := h3
      simp only [Option.some.injEq] at hg
      subst hg
      simp only at this
      rw [this]; exact h2
theorem RSt.below {w w' : World} {x y : Nat} {S : Ss} (h : RSt w x y S) (hb : Below w.heap.size w w') : RSt w' x y S := h.keep (Keep.of_below (F := fun _ => False) hb) id id
theorem RSt.lt {w : World} {x y : Nat} {S : Ss} (h : RSt w x y S) : x < w.heap.size ∧ y < w.heap.size := by obtain ⟨a, c, hb, _, _, hy, _⟩ := h; exact ⟨hb.lt, hy⟩
theorem RSt.len {w : World} {x y : Nat} {S : Ss} (h : RSt w x y S) : S.xs.length ≤ 65536 := by obtain ⟨a, c, _, _, _, _, h, _⟩ := h; exact h

set_option maxHeartbeats 1000000 in
theorem rsnew_to (n : Int) (m : Nat) (hm : (m : Int) = min (max n 0) 65536) (w : World) :
    Calls Tryz.prog 20 #[.int .i64 n] w fun e w' => ∃ x y, e = .returned (.pointer (some ⟨x, 0, none⟩)) ∧ w.heap.size ≤ x ∧ w.heap.size ≤ y ∧ RSt w' x y ⟨List.replicate m 255#8, false, none⟩ ∧ Below w.heap.size w w' := by
  have h1 : ∃ k : Int, k = max n 0 := ⟨_, rfl⟩
  obtain ⟨k, HK⟩ := h1
  have m1 : ∀ (ts : Array TypeId) (t : TypeId) (w : World), (Builtin.max_ ts t #[.int .i64 n, .int .i64 0]).run Tryz.prog w = .ok (.int .i64 k) w := fun ts t w => by
    rw [run_max_int2, show (if n < (0 : Int) then (0 : Int) else n) = k by split <;> omega]
  have m2 : ∀ (ts : Array TypeId) (t : TypeId) (w : World), (Builtin.min_ ts t #[.int .i64 k, .int .i64 65536]).run Tryz.prog w = .ok (.int .i64 (m : Int)) w := fun ts t w => by
    rw [run_min_int2, show (if (65536 : Int) < k then (65536 : Int) else k) = (m : Int) by split <;> omega]
  have HM := Lib.hid (show m ≤ 65536 by omega)
  clear hm HK
  have HB0 := Lib.hid (below_alloc (Below.refl _ w) (.cells #[.slice none 0 0, .int .i64 (-1), .bool false] 53))
  have HK0 := Lib.hid (blk_new w #[.slice none 0 0, .int .i64 (-1), .bool false] 53)
  have HX : Hid (∃ a c, Hid (Blk (w.alloc (.cells #[.slice none 0 0, .int .i64 (-1), .bool false] 53)) w.heap.size #[.slice a 0 c, .int .i64 (-1), .bool false] 53) ∧ Hid (Own (w.alloc (.cells #[.slice none 0 0, .int .i64 (-1), .bool false] 53)) (w.heap.size + 1) (.slice a 0 c) (List.replicate 0 255#8))) :=
    Lib.hid ⟨none, 0, HK0, Lib.hid (World.ownsRow_nil _ _ 5 1)⟩
  clear HK0
  go_enter Tryz.func20, Tryz.ntmps20
  go_wp2_with fail
  go_loopw [4] (fun i wr => ∃ k : Nat, k ≤ m ∧ i = .int .i64 (k : Int) ∧ Hid (∃ a c, Hid (Blk wr w.heap.size #[.slice a k c, .int .i64 (-1), .bool false] 53) ∧ Hid (Own wr (w.heap.size + 1) (.slice a k c) (List.replicate k 255#8))) ∧ Hid (Below w.heap.size w wr)) (fun i _ => m - (intOf i).toNat)
  case atStart => exact ⟨0, by omega, rfl, HX, HB0⟩
  case round =>
    clear HX HB0
    obtain ⟨k, hk, rfl, HXX, HB⟩ := hrel
    obtain ⟨a, c, HBK, HO⟩ := HXX.out
    clear HXX
    have hmb : (m : Int) ≤ 65536 := by have := HM.out; omega
    rcases Nat.lt_or_ge k m with hlt | hge
    · have hlI : (k : Int) < (m : Int) := by omega
      have c0 := HBK.out.cell 0 rfl
      have HLM := Lib.hid (show (List.replicate k 255#8).length + ([255#8] : List (BitVec 8)).length ≤ 140737488355328 by simp; omega)
      have hz1 : w.heap.size + 1 ≤ wr.heap.size := HBK.out.lt
      have c0' : (wr.alloc (.cells #[.int .u8 255] 5)).cell? ⟨w.heap.size, 0, none⟩ = some (.slice a k c) := below_cell (below_alloc (Below.refl _ wr) _) c0
      go_wp2_with (at_builtin; refine wpList_app rfl _ _ rfl (w.heap.size + 1) _ _ rfl (HO.out.alloc _) _ [255#8] rfl (lit_byts wr #[.int .u8 255] 1 (0, 0) [255#8] rfl rfl) HLM.out (le_alloc hz1 _) ?_; intro v7 w7 hown7 hg7; have HK7 := Lib.hid (Keep.trans (Keep.of_below (F := fun g => (Value.slice a k c).ownBlock = some g) (below_alloc (Below.refl _ wr) (.cells #[.int .u8 255] 5))) (Keep.grown hg7 (F := fun g => (Value.slice a k c).ownBlock = some g) (fun g h => h)) (fun _ h => .inl h)); have HLO := Lib.hid (fun g (hg : (Value.slice a k c).ownBlock = some g) => (World.ownsRow.lt HO.out g hg).1); have HB7 := Lib.hid (HBK.out.keep HK7.out (fun h => by have := HLO.out _ h; omega)); obtain ⟨a7, c7, e7⟩ := hown7.byts.len; rw [show (List.replicate k 255#8 ++ [255#8]).length = k + 1 by simp] at e7; have HO7 : Hid (Own w7 (w.heap.size + 1) v7 (List.replicate (k + 1) 255#8)) := Lib.hid (by rw [List.replicate_succ']; exact hown7); obtain ⟨k1, hk1⟩ : ∃ k1, k1 = k + 1 := ⟨_, rfl⟩; rw [← hk1] at e7 HO7; have HK1 := Lib.hid hk1; subst e7; have hz7 : w7.frozen? ⟨w.heap.size, 0, none⟩ = false := HB7.out.frz 0; have hc7 : w7.cell? ⟨w.heap.size, 0, none⟩ = some (.slice a k c) := HB7.out.cell 0 rfl; clear hown7 hg7 hk1 c0 c0')
      have HKs := Lib.hid (Keep.set_ (F := fun g => g = w.heap.size) w7 w.heap.size 0 (.slice a7 k1 c7) rfl)
      go_roundw
      case rel =>
        refine ⟨k + 1, by omega, by go_num, Lib.hid ⟨a7, c7, Lib.hid ?_, Lib.hid ?_⟩, Lib.hid ?_⟩
        · have := HB7.out.set_ 0 (.slice a7 k1 c7)
          rw [HK1.out] at this ⊢
          simpa using this
        · rw [HK1.out] at HO7 ⊢
          exact HO7.out.keepB (Keep.set_ (F := fun g => g = w.heap.size) w7 w.heap.size 0 _ rfl) (fun g hg h => by have := (World.ownsRow.lt HO7.out g hg).1; omega)
        · exact below_keep (below_keep HB.out HK7.out (fun g hg => by have := HLO.out g hg; omega)) HKs.out (fun g hg => by omega)
      case measure => simp [intOf]; omega
    · obtain rfl : k = m := by omega
      clear hge
      go_wp2_with fail
      go_ret
      have ho := HO.out
      rcases ho.2 with ⟨h1, _⟩ | ⟨g, cap, cur, h1, hB, hg, _⟩
      · simp only [Value.slice.injEq] at h1
        obtain ⟨rfl, h0, rfl⟩ := h1
        refine ⟨_, w.heap.size, rfl, Nat.le_refl _, Nat.le_refl _, ⟨none, 0, by simpa [lft] using HBK.out, by simpa using (ho.mono (Nat.zero_le _)), fun ad e => (by cases e), HBK.out.lt, by simp; omega, by simp [lft]⟩, HB.out⟩
      · simp only [Value.slice.injEq] at h1
        obtain ⟨rfl, h0, rfl⟩ := h1
        refine ⟨_, g, rfl, Nat.le_refl _, by omega, ⟨some ⟨g, 0, none⟩, c, by simpa [lft] using HBK.out, by simpa using (ho.mono (Nat.zero_le _)), fun ad e => (by cases e; exact ⟨rfl, by show g ≠ w.heap.size; omega⟩), lt_of_block hg, by simp; omega, by simp [lft]⟩, HB.out⟩
/-- Between two rounds of Write: i bytes are written. -/
def RwI (w wr : World) (x y : Nat) (xs : List (BitVec 8)) (a : Nat) (ys : List (BitVec 8)) (left : Option Nat) (i : Nat) : Prop :=
  RSt wr x y ⟨splice xs a (ys.take i), false, left.map (· - i)⟩ ∧ (∀ L, left = some L → i ≤ L) ∧ Keep (fun k => k = x ∨ k = y) w wr
set_option maxHeartbeats 4000000 in
set_option maxRecDepth 10000 in
theorem rswrite_to {w : World} {x y : Nat} {S : Ss} (h : RSt w x y S) (A : Int) (a : Nat) (hA : A = (a : Int)) (v : Value) (ys : List (BitVec 8)) (hv : ∀ w', Keep (fun k => k = x ∨ k = y) w w' → Byts w' v ys) (hr : a + ys.length ≤ S.xs.length) :
    Calls Tryz.prog 22 #[.pointer (some ⟨x, 0, none⟩), .int .i64 A, v] w fun e w' => ∃ c, e = .returned (.int .i64 c) ∧ c = (sput S a ys).2 ∧ RSt w' x y (sput S a ys).1 ∧ Keep (fun k => k = x ∨ k = y) w w' := by
  subst hA
  obtain ⟨av, cv, ev⟩ := (hv w (Keep.refl _ w)).len
  obtain ⟨n, hn⟩ : ∃ n, n = ys.length := ⟨_, rfl⟩
  have HN := Lib.hid hn
  rw [← hn] at ev hr
  have HV := Lib.hid hv
  subst ev
  obtain ⟨xs, dead, left⟩ := S
  have HH := Lib.hid h
  have HLe := Lib.hid h.len
  obtain ⟨m, hm⟩ : ∃ m, m = xs.length := ⟨_, rfl⟩
  have HM := Lib.hid hm
  obtain ⟨a0, c0, hb, _⟩ := h
  have hc0 := hb.cell 0 rfl
  have hc2 := hb.cell 2 rfl
  have hr' : a + n ≤ m := by simp only at hr; omega
  have HR := Lib.hid hr'
  have hm6 : m ≤ 65536 := by have := HLe.out; simp only at this; omega
  simp only at hc0
  rw [← hm] at hc0
  clear hb hv hn hm hr
  cases dead with
  | true =>
    go_enter Tryz.func22, Tryz.ntmps22
    go_wp2_with fail
    go_ret
    exact ⟨_, rfl, by simp [sput], by simpa [sput] using HH.out, Keep.refl _ w⟩
  | false =>
    have q1 : decide ((a : Int) < 0) = false := by simp
    have q2 : decide ((m : Int) < (a : Int)) = false := by simp; omega
    have q2' : decide (m < a) = false := by simp; omega
    have hw : IntKind.i64.wrap ((m : Int) - (a : Int)) = ((m - a : Nat) : Int) := by rw [IntKind.wrap_i64]; omega
    obtain ⟨r, hrr⟩ : ∃ r, r = m - a := ⟨_, rfl⟩
    rw [← hrr] at hw
    have q3 : decide ((r : Int) < (n : Int)) = false := by simp; omega
    have q3' : decide (r < n) = false := by simp; omega
    have HI0 : Hid (RwI w w x y xs a ys left 0) := Lib.hid ⟨by
      rw [List.take_zero, splice_none]
      have e : left.map (· - 0) = left := by cases left <;> rfl
      rw [e]
      exact HH.out, fun L _ => Nat.zero_le _, Keep.refl _ w⟩
    have HPUT : Hid (∀ (wr : World), RwI w wr x y xs a ys left n → (sput ⟨xs, false, left⟩ a ys).2 = 0 ∧ RSt wr x y (sput ⟨xs, false, left⟩ a ys).1) := Lib.hid fun wr hi => by
      obtain ⟨h1, h2, _⟩ := hi
      rw [List.take_of_length_le (by rw [HN.out]; exact Nat.le_refl _)] at h1
      cases left with
      | none => exact ⟨rfl, h1⟩
      | some L =>
        have hL := h2 L rfl
        have e : sput ⟨xs, false, some L⟩ a ys = (⟨splice xs a ys, false, some (L - ys.length)⟩, 0) := by simp [sput, ← HN.out, hL]
        rw [e]
        refine ⟨rfl, ?_⟩
        rw [← HN.out]
        exact h1
    clear hrr hr'
    go_enter Tryz.func22, Tryz.ntmps22
    go_wp2_with fail
    clear q1 q2 q2' q3 q3' hw hc0 hc2
    go_loopw [7] (fun u wr => ∃ i : Nat, i ≤ n ∧ u = .int .i64 (i : Int) ∧ Hid (RwI w wr x y xs a ys left i)) (fun u _ => n - (intOf u).toNat)
    case atStart => exact ⟨0, by omega, rfl, HI0⟩
    case round =>
      clear HI0
      obtain ⟨i, hi, rfl, HI⟩ := hrel
      rcases Nat.lt_or_ge i n with hlt | hge
      · obtain ⟨h1, h2, h3⟩ := HI.out
        have HL2 := Lib.hid h2
        have HK := Lib.hid h3
        have HLS := Lib.hid (show (splice xs a (ys.take i)).length = m by rw [length_splice _ _ _ (by rw [List.length_take, ← HN.out, ← HM.out]; have := HR.out; omega), HM.out])
        obtain ⟨a1, c1, hb, ho, ha, hy, hle, hlf⟩ := h1
        obtain ⟨gb, ob, cb, z, ez, _, _, hz, hzc⟩ := (HV.out wr h3).at_ i (by rw [← HN.out]; exact hlt)
        simp only [Value.slice.injEq] at ez
        obtain ⟨rfl, hd3, rfl⟩ := ez
        clear hd3 h2 h3
        obtain ⟨gy, cy, hv0, hcap, _⟩ := ho.form (by show 0 < (splice xs a (ys.take i)).length; rw [HLS.out]; have := HR.out; omega)
        simp only [Value.slice.injEq] at hv0
        obtain ⟨rfl, hd3, rfl⟩ := hv0
        obtain ⟨hyy, hyx⟩ := ha _ rfl
        simp only at hyy
        subst hyy
        clear hd3 ha hcap
        dsimp only at hb ho hle hlf
        have HBK := Lib.hid hb
        have HO := Lib.hid ho
        have HZ := Lib.hid hz
        obtain ⟨j, hj⟩ : ∃ j, j = a + i := ⟨_, rfl⟩
        have HJ := Lib.hid hj
        have hjm : j < m := by have := HR.out; omega
        have e3 : IntKind.i64.wrap ((a : Int) + (i : Int)) = (j : Int) := by rw [IntKind.wrap_i64]; omega
        have hjI : (j : Int) < (m : Int) := by omega
        have hiI : (i : Int) < (n : Int) := by omega
        have hnb : (n : Int) ≤ 65536 := by have := HR.out; omega
        have hfz := ho.frozen rfl j
        obtain ⟨zo, hzo⟩ := show ∃ zo, wr.cell? ⟨gy, j, none⟩ = some zo from ⟨_, ho.cell rfl j _ (List.getElem?_eq_getElem (by rw [HLS.out]; exact hjm))⟩
        have hc0 := hb.cell 0 rfl
        have hc1 := hb.cell 1 rfl
        have hc2 := hb.cell 2 rfl
        rw [HLS.out] at hc0
        have HYX := Lib.hid hyx
        have HYL := Lib.hid hy
        clear hb ho hz hj hyx hy hlf hle
        cases left with
        | none =>
          have hc1' : wr.cell? ⟨x, 1, none⟩ = some (.int .i64 (-1)) := hc1
          have HB3 : Hid (RwI w ((wr.drew).setCell ⟨gy, j, none⟩ (.int .u8 (z.toNat : Int))) x gy xs a ys none (i + 1)) := Lib.hid ⟨⟨some ⟨gy, 0, none⟩, c1, by
            have h5 := (HBK.out.below (bel_drew wr)).keep (Keep.set_ (F := fun k => k = gy) wr.drew gy j (.int .u8 (z.toNat : Int)) rfl) (fun h => HYX.out h.symm)
            dsimp only at h5 ⊢
            rw [HLS.out] at h5
            rw [show (splice xs a (ys.take (i + 1))).length = m by rw [length_splice _ _ _ (by rw [List.length_take, ← HN.out, ← HM.out]; have := HR.out; omega), HM.out]]
            exact h5, by
            have h5 := (HO.out.below (bel_drew wr)).set_ rfl j z
            dsimp only at h5 ⊢
            rw [HJ.out, splice_set xs a ys i z HZ.out (by rw [← HN.out, ← HM.out]; exact HR.out)] at h5
            rw [show (splice xs a (ys.take (i + 1))).length = (splice xs a (ys.take i)).length by rw [HLS.out, length_splice _ _ _ (by rw [List.length_take, ← HN.out, ← HM.out]; have := HR.out; omega), HM.out], HJ.out]
            exact h5, fun ad e => by cases e; exact ⟨rfl, HYX.out⟩, by simpa [World.setCell] using HYL.out, by dsimp only; rw [length_splice _ _ _ (by rw [List.length_take, ← HN.out, ← HM.out]; have := HR.out; omega)]; exact HLe.out, by simp [lft]⟩, fun L h => (by cases h), (HK.out.more 1).store gy j _ (.inr rfl)⟩
          clear hc1
          go_wp2_with fail
          go_still_tail 12, (by kernel_rfl)
          change wpList _ _ _ _ _ wr.drew
          have hc1 : (wr.drew.setCell ⟨gy, j, none⟩ (.int .u8 (z.toNat : Int))).cell? ⟨x, 1, none⟩ = some (.int .i64 (-1)) := (HBK.out.below (bel_drew wr)).keep (Keep.set_ (F := fun k => k = gy) wr.drew gy j (.int .u8 (z.toNat : Int)) rfl) (fun h => HYX.out h.symm) |>.cell 1 rfl
          replace hzo : wr.drew.cell? ⟨gy, j, none⟩ = some zo := hzo
          replace hfz : wr.drew.frozen? ⟨gy, j, none⟩ = false := hfz
          clear hc0 hc1' hc2 hzc
          generalize wr.drew = w2 at *
          go_wp2_with fail
          go_roundw
          case rel => exact ⟨i + 1, by omega, by go_num, HB3⟩
          case measure => simp [intOf]; omega
        | some L =>
          have hLi := HL2.out L rfl
          obtain ⟨lz, hlz⟩ : ∃ lz, lz = L - i := ⟨_, rfl⟩
          have hc1' : wr.cell? ⟨x, 1, none⟩ = some (.int .i64 (lz : Int)) := by rw [hlz]; exact hc1
          have HLZ := Lib.hid hlz
          have hlb : (lz : Int) ≤ 9223372036854775807 := by
            obtain ⟨_, _, _, _, _, _, _, h⟩ := HI.out.1
            have h' : ((L - i : Nat) : Int) ≤ 9223372036854775807 := h
            omega
          clear hc1
          by_cases hz0 : lz = 0
          · have q0 : ((lz : Int) == 0) = true := by simp; omega
            have q0' : (lz == 0) = true := by simp; omega
            have hf2 := HBK.out.frz 2
            have HE : Hid ((sput ⟨xs, false, some L⟩ a ys).2 = 7 ∧ RSt (wr.setCell ⟨x, 2, none⟩ (.bool true)) x gy (sput ⟨xs, false, some L⟩ a ys).1) := Lib.hid (by
              have e : sput ⟨xs, false, some L⟩ a ys = (⟨splice xs a (ys.take L), true, some 0⟩, 7) := by
                unfold sput
                rw [if_neg (by simp)]
                simp only
                rw [if_neg (by rw [← HN.out]; omega)]
              rw [e]
              refine ⟨rfl, ?_⟩
              obtain rfl : L = i := by omega
              refine ⟨some ⟨gy, 0, none⟩, c1, ?_, HO.out.keepB (Keep.set_ (F := fun k => k = x) wr x 2 (.bool true) rfl) (fun g hg h => ?_), fun ad e => by cases e; exact ⟨rfl, HYX.out⟩, by simpa [World.setCell] using HYL.out, by dsimp only; rw [HLS.out]; exact (show m ≤ 65536 from hm6), by simp [lft]⟩
              · have h5 := HBK.out.set_ 2 (.bool true)
                simpa [lft] using h5
              · simp only [Value.ownBlock, Option.some.injEq] at hg
                exact HYX.out (hg.trans h))
            have HKE := Lib.hid (HK.out.store x 2 (.bool true) (.inl rfl))
            clear hz0 hlz hLi HI hzc hfz hzo hc0 HPUT
            go_wp2_with fail
            go_ret
            exact ⟨_, rfl, HE.out.1.symm, HE.out.2, HKE.out⟩
          · have q0 : ((lz : Int) == 0) = false := by simp; omega
            have q0' : (lz == 0) = false := by simp; omega
            have q4 : decide ((0 : Int) < (lz : Int)) = true := by simp; omega
            have q4' : decide (0 < lz) = true := by simp; omega
            obtain ⟨l1, hl1⟩ : ∃ l1, l1 = lz - 1 := ⟨_, rfl⟩
            have e4 : IntKind.i64.wrap ((lz : Int) - 1) = (l1 : Int) := by rw [IntKind.wrap_i64]; omega
            have HL1 := Lib.hid (show L - (i + 1) = l1 by omega)
            have HLI := Lib.hid (show i + 1 ≤ L by omega)
            have HB3 : Hid (RwI w (((wr.drew).setCell ⟨gy, j, none⟩ (.int .u8 (z.toNat : Int))).setCell ⟨x, 1, none⟩ (.int .i64 (l1 : Int))) x gy xs a ys (some L) (i + 1)) := Lib.hid ⟨⟨some ⟨gy, 0, none⟩, c1, by
              have h5 := ((HBK.out.below (bel_drew wr)).keep (Keep.set_ (F := fun k => k = gy) wr.drew gy j (.int .u8 (z.toNat : Int)) rfl) (fun h => HYX.out h.symm)).set_ 1 (.int .i64 (l1 : Int))
              dsimp only at h5 ⊢
              rw [HLS.out] at h5
              rw [show (splice xs a (ys.take (i + 1))).length = m by rw [length_splice _ _ _ (by rw [List.length_take, ← HN.out, ← HM.out]; have := HR.out; omega), HM.out]]
              rw [show lft ((some L).map (· - (i + 1))) = (l1 : Int) by show ((L - (i + 1) : Nat) : Int) = _; rw [HL1.out]]
              simpa using h5, by
              have h5 := ((HO.out.below (bel_drew wr)).set_ rfl j z).keepB (Keep.set_ (F := fun k => k = x) _ x 1 (.int .i64 (l1 : Int)) rfl) (fun g hg h => by simp only [Value.ownBlock, Option.some.injEq] at hg; exact HYX.out (hg.trans h))
              dsimp only at h5 ⊢
              rw [HJ.out, splice_set xs a ys i z HZ.out (by rw [← HN.out, ← HM.out]; exact HR.out)] at h5
              rw [show (splice xs a (ys.take (i + 1))).length = (splice xs a (ys.take i)).length by rw [HLS.out, length_splice _ _ _ (by rw [List.length_take, ← HN.out, ← HM.out]; have := HR.out; omega), HM.out], HJ.out]
              exact h5, fun ad e => by cases e; exact ⟨rfl, HYX.out⟩, by simpa [World.setCell] using HYL.out, by dsimp only; rw [length_splice _ _ _ (by rw [List.length_take, ← HN.out, ← HM.out]; have := HR.out; omega)]; exact HLe.out, by show ((L - (i + 1) : Nat) : Int) ≤ _; omega⟩, fun L' h => (by cases h; exact HLI.out), ((HK.out.more 1).store gy j _ (.inr rfl)).store x 1 _ (.inl rfl)⟩
            clear hz0 hlz hLi HI hl1
            go_wp2_with fail
            go_still_tail 12, (by kernel_rfl)
            change wpList _ _ _ _ _ wr.drew
            have hb2 := (HBK.out.below (bel_drew wr)).keep (Keep.set_ (F := fun k => k = gy) wr.drew gy j (.int .u8 (z.toNat : Int)) rfl) (fun h => HYX.out h.symm)
            have hc1 : (wr.drew.setCell ⟨gy, j, none⟩ (.int .u8 (z.toNat : Int))).cell? ⟨x, 1, none⟩ = some (.int .i64 (lz : Int)) := by
              have := hb2.cell 1 rfl
              rw [HLZ.out]
              exact this
            have hf1 := hb2.frz 1
            replace hzo : wr.drew.cell? ⟨gy, j, none⟩ = some zo := hzo
            replace hfz : wr.drew.frozen? ⟨gy, j, none⟩ = false := hfz
            clear hc0 hc1' hc2 hzc hb2
            generalize wr.drew = w2 at *
            go_wp2_with fail
            go_roundw
            case rel => exact ⟨i + 1, by omega, by go_num, HB3⟩
            case measure => simp [intOf]; omega
      · obtain rfl : i = n := by omega
        have HP := Lib.hid (HPUT.out wr HI.out)
        have HK := Lib.hid HI.out.2.2
        clear hge HI
        go_wp2_with fail
        go_ret
        exact ⟨_, rfl, HP.out.1.symm, HP.out.2, HK.out⟩
end Go.Proofs.YtekackglcapppaaGreatDoor
