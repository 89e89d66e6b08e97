/-
  JnRjo JnRapp JnRkill: merged.
-/
import Derived.Deep.RegionLaw
import Derived.Deep.DeepCutAuto
import Derived.Test.YtekackglcapppaaGreatDoorJnRst
import Derived.Test.YtekackglcapppaaGreatDoorYBr
import Derived.Test.YtekackglcapppaaGreatDoorYJn
/-
  The document's journal in memory; its half, Open, by contract.
-/
namespace Go.Proofs.YtekackglcapppaaGreatDoor
open Go.RowKit

/-- The document's journal at block b over the document's store at block x; its data lie in no block of X. -/
def Ro (w : World) (X : Nat → Prop) (b x h : Nat) (j : Jt) : Prop :=
  ∃ a n c, Blk w b #[.pointer (some ⟨x, 0, none⟩), .int .i64 (j.k : Int), .int .u32 (j.s : Int), .slice a n c, .int .i64 (j.e : Int), .bool j.is] 49 ∧ Byts w (.slice a n c) j.d ∧
    (∀ ad, a = some ad → n = 0 ∨ (¬ X ad.block ∧ ad.block ≠ b ∧ ad.block < w.heap.size)) ∧ ¬ X b ∧ j.s ≤ 4294967295 ∧ j.k ≤ 1 ∧ j.d.length ≤ 40 ∧ j.e ≤ h
theorem Ro.lt {w : World} {X : Nat → Prop} {b s h : Nat} {j : Jt} (H : Ro w X b s h j) : b < w.heap.size := by obtain ⟨_, _, _, h, _⟩ := H; exact h.lt
theorem Ro.keep {w w' : World} {X : Nat → Prop} {b s h : Nat} {j : Jt} (H : Ro w X b s h j) {G : Nat → Prop} (hk : Keep G w w') (h1 : ¬ G b) (h2 : ∀ k, G k → X k ∨ w.heap.size ≤ k) : Ro w' X b s h j := by
  obtain ⟨a, n, c, hb, hv, hX, r⟩ := H
  refine ⟨a, n, c, hb.keep hk h1, hv.keep hk fun ad n' c' e => ?_, fun ad e => (hX ad e).imp id fun ⟨p, q, t⟩ => ⟨p, q, Nat.lt_of_lt_of_le t hk.size⟩, r⟩
  simp only [Value.slice.injEq] at e
  obtain ⟨e1, e2, _⟩ := e
  subst e2
  exact (hX ad e1).imp id fun ⟨p, q, t⟩ hG => by
    rcases h2 _ hG with h3 | h3
    · exact p h3
    · omega
theorem Ro.below {w w' : World} {X : Nat → Prop} {b s h : Nat} {j : Jt} (H : Ro w X b s h j) (hb : Below w.heap.size w w') : Ro w' X b s h j := H.keep (Keep.of_below (F := fun _ => False) hb) id (fun _ h => h.elim)
theorem Ro.more {w : World} {X Y : Nat → Prop} {b s h : Nat} {j : Jt} (H : Ro w X b s h j) (hY : ∀ k, Y k → X k ∨ w.heap.size ≤ k) : Ro w Y b s h j := by
  obtain ⟨a, n, c, hb, hv, hX, hXb, r⟩ := H
  exact ⟨a, n, c, hb, hv, fun ad e => (hX ad e).imp id fun ⟨p, q, t⟩ => ⟨fun hy => (hY _ hy).elim p (by omega), q, t⟩, fun hy => (hY _ hy).elim hXb (by have := hb.lt; omega), r⟩
theorem Ro.facts {w : World} {X : Nat → Prop} {b s h : Nat} {j : Jt} (H : Ro w X b s h j) : j.s ≤ 4294967295 ∧ j.k ≤ 1 ∧ j.d.length ≤ 40 ∧ j.e ≤ h := by
  obtain ⟨_, _, _, _, _, _, _, r⟩ := H
  exact r
theorem Ro.not {w : World} {X : Nat → Prop} {b s h : Nat} {j : Jt} (H : Ro w X b s h j) : ¬ X b := by
  obtain ⟨_, _, _, _, _, _, r, _⟩ := H
  exact r
/-- b[0:0]. -/
theorem cutZ {w : World} {v : Value} {xs : List (BitVec 8)} (h : Byts w v xs) : ∃ v1,
    (∀ w', (Instr.slice 22 v (some (.int .i64 0)) (some (.int .i64 0)) none).run Tryz.prog w' = .ok v1 w') ∧ Byts w v1 [] := by
  have hu : Tryz.prog.underlying 22 = some (.slice (Tryz.prog.elem 22)) := by rw [elemB]; exact Tryz.underlying22
  rcases h with ⟨rfl, rfl | ⟨a, c, rfl⟩⟩ | ⟨g, o, cap, rfl, hc, h⟩
  · refine ⟨.slice none 0 0, fun w' => ?_, .inl ⟨rfl, .inl rfl⟩⟩
    rw [run_slice_lh _ _ _ _ _ hu _ _ _ _ (by simp) (by simp) (by simp), elemB, sizeU8]; rfl
  · by_cases h0 : c = 0
    · subst h0
      refine ⟨.slice (some a) 0 0, fun w' => ?_, .inl ⟨rfl, .inr ⟨a, 0, rfl⟩⟩⟩
      rw [run_slice_lh _ _ _ _ _ hu _ _ _ _ (by simp) (by simp) (by simp), elemB, sizeU8]
      simp [Result.andThen, sliced]
    · refine ⟨.slice (some a) 0 c, fun w' => ?_, .inl ⟨rfl, .inr ⟨a, c, rfl⟩⟩⟩
      rw [run_slice_lh _ _ _ _ _ hu _ _ _ _ (by simp) (by simp) (by simp), elemB, sizeU8]
      simp [Result.andThen, sliced, add_zero, h0]
  · by_cases h0 : cap = 0
    · subst h0
      refine ⟨.slice (some ⟨g, o, none⟩) 0 0, fun w' => ?_, .inl ⟨rfl, .inr ⟨_, 0, rfl⟩⟩⟩
      rw [run_slice_lh _ _ _ _ _ hu _ _ _ _ (by simp) (by simp) (by simp), elemB, sizeU8]
      simp [Result.andThen, sliced]
    · refine ⟨.slice (some ⟨g, o, none⟩) 0 cap, fun w' => ?_, .inl ⟨rfl, .inr ⟨_, cap, rfl⟩⟩⟩
      rw [run_slice_lh _ _ _ _ _ hu _ _ _ _ (by simp) (by simp) (by simp), elemB, sizeU8]
      simp [Result.andThen, sliced, add_zero, h0]
variable {w : World} {x y : Nat} {S : Ss}
set_option maxRecDepth 10000 in
theorem rhalf_to (h : RSt w x y S) (K : Int) (k : Nat) (hK : K = (k : Int)) (hk : k ≤ 1) :
    Calls Tryz.prog 26 #[.pointer (some ⟨x, 0, none⟩), .int .i64 K] w fun e w' => ∃ v, e = .returned v ∧ Own w' w.heap.size v (bnk S.xs k) ∧ Below w.heap.size w w' := by
  subst hK
  have hlen := h.len
  obtain ⟨a, c, hb, ho, _⟩ := h
  have c0 := hb.cell 0 rfl
  obtain ⟨m, hm⟩ : ∃ m, m = S.xs.length := ⟨_, rfl⟩
  rw [← hm] at c0 hlen ho
  obtain ⟨hh, hhe⟩ : ∃ hh, hh = m / 2 := ⟨_, rfl⟩
  have td : (m : Int).tdiv 2 = (hh : Int) := by rw [Int.tdiv_eq_ediv_of_nonneg (by omega)]; omega
  have tw : IntKind.i64.wrap (hh : Int) = (hh : Int) := by rw [IntKind.wrap_i64]; omega
  obtain ⟨F, hF⟩ : ∃ F, F = k * hh := ⟨_, rfl⟩
  have hFle : F + hh ≤ m := by rw [hF]; rcases show k = 0 ∨ k = 1 by omega with rfl | rfl <;> omega
  have mw : IntKind.i64.wrap ((k : Int) * (hh : Int)) = (F : Int) := by
    rw [hF, IntKind.wrap_i64]
    rcases show k = 0 ∨ k = 1 by omega with rfl | rfl <;> simp <;> omega
  obtain ⟨G, hG⟩ : ∃ G, G = F + hh := ⟨_, rfl⟩
  have gw : IntKind.i64.wrap ((F : Int) + (hh : Int)) = (G : Int) := by rw [IntKind.wrap_i64]; omega
  have hby := ho.byts
  have HBN : Hid (bnk S.xs k = (S.xs.drop F).take (G - F)) := Lib.hid (by unfold bnk; rw [← hm, ← hhe, ← hF, hG, Nat.add_sub_cancel_left])
  obtain ⟨v2, q1, hv2⟩ : ∃ v2, (∀ w', (Instr.slice 22 (.slice a m c) (some (.int .i64 (F : Int))) (some (.int .i64 (G : Int))) none).run Tryz.prog w' = .ok v2 w') ∧ Byts w v2 ((S.xs.drop F).take (G - F)) := by
    by_cases h0 : hh = 0
    · have hF0 : F = 0 := by rw [hF, h0, Nat.mul_zero]
      obtain ⟨v2, h1, h2⟩ := cutZ hby
      refine ⟨v2, fun w' => ?_, ?_⟩
      · rw [hG, h0, hF0]; exact h1 w'
      · rw [hG, h0, Nat.add_zero, Nat.sub_self, List.take_zero]; exact h2
    · exact cutM hby F G (by omega) (by omega)
  obtain ⟨av, cv, ev⟩ := hv2.len
  have hln : ((S.xs.drop F).take (G - F)).length = hh := by rw [List.length_take, List.length_drop, ← hm]; omega
  rw [hln] at ev
  subst ev
  have HV := Lib.hid hv2
  have HLN := Lib.hid hln
  have HB0 := Lib.hid (below_alloc (Below.refl _ w) (.cells #[] 5))
  have HO := Lib.hid (own_lit w w.heap.size [] (Nat.le_refl _) (by unfold maxLen; simp))
  have HV1 := Lib.hid (HV.out.below HB0.out)
  have hsz := HB0.out.size
  have HLL := Lib.hid (show ([] : List (BitVec 8)).length + ((S.xs.drop F).take (G - F)).length ≤ 140737488355328 by rw [hln]; simp; omega)
  have c0' : (w.alloc (.cells #[] 5)).cell? ⟨x, 0, none⟩ = some (.slice a m c) := below_cell HB0.out c0
  clear hb ho hby hv2 hm hlen hhe hF hFle hG hln
  go_enter Tryz.func26, Tryz.ntmps26
  go_wp2_with (at_builtin; refine wpList_app rfl _ _ rfl w.heap.size _ [] rfl HO.out _ _ rfl HV1.out HLL.out hsz ?_; intro v1 w2 hown1 hg1; have HO1 := Lib.hid hown1; have HB2 := Lib.hid (HO.out.grown HB0.out hg1); clear hown1 hg1 HO HB0 HV1 hsz HLL)
  go_ret
  exact ⟨_, rfl, by rw [HBN.out]; simpa using HO1.out, HB2.out⟩

set_option maxHeartbeats 2000000 in
set_option maxRecDepth 10000 in
theorem ropen_to (h : RSt w x y S) (X : Nat → Prop) (hX : ∀ k, X k → k < w.heap.size) (hh : Nat) (he : hh = S.xs.length / 2) :
    Calls Tryz.prog 8 #[.pointer (some ⟨x, 0, none⟩)] w fun e w' => ∃ b, e = .returned (.pointer (some ⟨b, 0, none⟩)) ∧ w.heap.size ≤ b ∧ Ro w' X b x hh (jopen S.xs) ∧ Below w.heap.size w w' := by
  have H := Lib.hid h
  have HX := Lib.hid hX
  have HE := Lib.hid he
  have hlen := h.len
  have HLB := Lib.hid (show ∀ k, k ≤ 1 → (bnk S.xs k).length ≤ 100000 from fun k hk => by rw [bnk_len _ _ hk]; omega)
  have HQ := Lib.hid (show jopen S.xs = if jsnd (blast S.xs 0) (blast S.xs 1) = true then jof 1 (blast S.xs 1) else jof 0 (blast S.xs 0) from rfl)
  have HBL := Lib.hid (show ∀ k, k ≤ 1 → ∀ n, blast S.xs k = some n → 1 ≤ n.d.length ∧ n.d.length ≤ 40 ∧ n.s ≤ 4294967295 ∧ n.e ≤ S.xs.length / 2 from fun k hk n hn => blast_some hk hn)
  have HH0 := Lib.hid (rhalf_to h 0 0 rfl (by omega))
  clear h he hX hlen
  go_enter Tryz.func8, Tryz.ntmps8
  go_wp2_with fail
  (with_reducible refine HH0.out.mono ?_)
  rintro e w1 ⟨v1, rfl, ho, hb⟩
  have HB1 := Lib.hid hb
  have HL0 := Lib.hid (rlast_any v1 _ w1 ho.byts (HLB.out 0 (by omega)))
  clear ho hb HH0
  go_wp2_with fail
  (with_reducible refine HL0.out.mono ?_)
  rintro e w2 ⟨s0, a0, n0, c0, p0, i0, rfl, hlt, hb⟩
  have HT0 : Hid (LastT (blast S.xs 0) w1.heap.size w2 s0 a0 n0 c0 p0 i0) := Lib.hid hlt
  have HB2 := Lib.hid (below_call HB1.out hb)
  have HZ1 := Lib.hid HB1.out.size
  have HB3 := Lib.hid (below_alloc HB2.out (.cells #[.int .u32 s0, .slice a0 n0 c0, .int .i64 p0] 47))
  have HN0 := Lib.hid (blk_new w2 #[.int .u32 s0, .slice a0 n0 c0, .int .i64 p0] 47)
  have HH1 := Lib.hid (rhalf_to (H.out.below HB3.out) 1 1 rfl (by omega))
  clear hlt hb HL0
  go_wp2_with fail
  (with_reducible refine HH1.out.mono ?_)
  rintro e w3 ⟨v3, rfl, ho, hb⟩
  have HB4 := Lib.hid (below_call HB3.out hb)
  have HN1 := Lib.hid (HN0.out.below hb)
  have HT1 := Lib.hid ((HT0.out.below (below_alloc (Below.refl _ w2) (.cells #[.int .u32 s0, .slice a0 n0 c0, .int .i64 p0] 47))).below hb)
  have HL1 := Lib.hid (rlast_any v3 _ w3 ho.byts (HLB.out 1 (by omega)))
  clear ho hb HH1 HN0 HT0 HB3
  go_wp2_with fail
  (with_reducible refine HL1.out.mono ?_)
  rintro e w4 ⟨s1, a1, n1, c1, p1, i1, rfl, hlt, hb⟩
  have HU1 : Hid (LastT (blast S.xs 1) w3.heap.size w4 s1 a1 n1 c1 p1 i1) := Lib.hid hlt
  have HB5 := Lib.hid (below_call HB4.out hb)
  have HN2 := Lib.hid ((HN1.out.below hb).below (below_alloc (Below.refl _ w4) (.cells #[.int .u32 s1, .slice a1 n1 c1, .int .i64 p1] 47)))
  have HT2 := Lib.hid (HT1.out.below hb)
  have HZ3 := Lib.hid (show w.heap.size ≤ w3.heap.size from HB4.out.size)
  have HZ4 := Lib.hid HB5.out.size
  clear hlt hb HL1 HN1 HT1 HB4
  obtain ⟨q0, q1, q2, q3, q4⟩ := HT2.out.jof 0
  obtain ⟨r0, r1, r2, r3, r4⟩ := HU1.out.jof 1
  obtain ⟨J0, HJ0⟩ : ∃ J, Hid (J = jof 0 (blast S.xs 0)) := ⟨_, Lib.hid rfl⟩
  obtain ⟨J1, HJ1⟩ : ∃ J, Hid (J = jof 1 (blast S.xs 1)) := ⟨_, Lib.hid rfl⟩
  rw [← HJ0.out] at q0 q1 q2 q3
  rw [← HJ1.out] at r0 r1 r2 r3
  have HSN := Lib.hid (show jsnd (blast S.xs 0) (blast S.xs 1) = (J1.is && (!J0.is || decide (J0.s < J1.s))) by rw [HJ0.out, HJ1.out]; cases blast S.xs 0 <;> cases blast S.xs 1 <;> rfl)
  rw [← HJ0.out, ← HJ1.out] at HQ
  have HF0 : Hid (J0.k = 0 ∧ J0.s ≤ 4294967295 ∧ J0.d.length ≤ 40 ∧ J0.e ≤ hh) := Lib.hid (by
    rw [HJ0.out]
    cases hb : blast S.xs 0 with
    | none => exact ⟨rfl, by simp [jof], by simp [jof], by simp [jof]⟩
    | some m => obtain ⟨h1, h2, h3, h4⟩ := HBL.out 0 (by omega) m hb; exact ⟨rfl, h3, h2, by rw [HE.out]; exact h4⟩)
  have HF1 : Hid (J1.k = 1 ∧ J1.s ≤ 4294967295 ∧ J1.d.length ≤ 40 ∧ J1.e ≤ hh) := Lib.hid (by
    rw [HJ1.out]
    cases hb : blast S.xs 1 with
    | none => exact ⟨rfl, by simp [jof], by simp [jof], by simp [jof]⟩
    | some m => obtain ⟨h1, h2, h3, h4⟩ := HBL.out 1 (by omega) m hb; exact ⟨rfl, h3, h2, by rw [HE.out]; exact h4⟩)
  have HQ3 := Lib.hid q3
  have HQ4 := Lib.hid q4
  have HR3 := Lib.hid r3
  have HR4 := Lib.hid r4
  subst q0 q1 q2 r0 r1 r2
  obtain ⟨k0, js0, d0, e0, j0⟩ := J0
  obtain ⟨k1, js1, d1, e1, j1⟩ := J1
  dsimp only at HSN HF0 HF1
  obtain ⟨rfl, _⟩ := HF0.out
  obtain ⟨rfl, _⟩ := HF1.out
  have fin : ∀ (w9 : World) (b : Nat) (a : Option Addr) (n c : Nat) (J : Jt) (lo : Nat), lo ≥ w.heap.size → w4.heap.size ≤ b → Blk w9 b #[.pointer (some ⟨x, 0, none⟩), .int .i64 (J.k : Int), .int .u32 (J.s : Int), .slice a n c, .int .i64 (J.e : Int), .bool J.is] 49 → Byts w9 (.slice a n c) J.d → (∀ ad, a = some ad → lo ≤ ad.block ∧ (n = 0 ∨ ad.block < w4.heap.size)) → w4.heap.size ≤ w9.heap.size → (J.s ≤ 4294967295 ∧ J.k ≤ 1 ∧ J.d.length ≤ 40 ∧ J.e ≤ hh) → Ro w9 X b x hh J := by
    intro w9 b a n c J lo hlo hb hblk hbyt had hsz hf
    refine ⟨a, n, c, hblk, hbyt, fun ad e => ?_, fun hx => ?_, hf.1, hf.2.1, hf.2.2.1, hf.2.2.2⟩
    · obtain ⟨h1, h2⟩ := had ad e
      refine h2.imp id fun h2 => ⟨fun hx => ?_, by omega, by omega⟩
      have := HX.out _ hx
      omega
    · have := HX.out _ hx
      have := HZ4.out
      omega
  have FIN := Lib.hid fin
  clear q3 q4 r3 r4 fin HJ0 HJ1 HBL HLB HE
  obtain ⟨z0, z1, z2⟩ := HN2.out.three
  dsimp only at z0 z1 z2
  cases j1 with
  | false =>
    cases j0 with
    | false =>
      go_wp2_with fail
      have HA := Lib.hid (below_alloc (below_alloc (Below.refl _ w4) (.cells #[.int .u32 (js1 : Int), .slice a1 n1 c1, .int .i64 (e1 : Int)] 47)) (.cells #[.pointer (some ⟨x, 0, none⟩), .int .i64 0, .int .u32 (js0 : Int), .slice a0 n0 c0, .int .i64 (e0 : Int), .bool false] 49))
      go_ret
      refine ⟨_, rfl, by have := HZ4.out; omega, ?_, below_call HB5.out HA.out⟩
      rw [HQ.out, HSN.out, if_neg (by simp)]
      refine FIN.out _ _ a0 n0 c0 ⟨0, js0, d0, e0, false⟩ w1.heap.size HZ1.out (by omega) ?_ (HQ3.out.below HA.out) HQ4.out (by simp; omega) ⟨HF0.out.2.1, by simp, HF0.out.2.2.1, HF0.out.2.2.2⟩
      have := blk_new (w4.alloc (.cells #[.int .u32 (js1 : Int), .slice a1 n1 c1, .int .i64 (e1 : Int)] 47)) #[.pointer (some ⟨x, 0, none⟩), .int .i64 0, .int .u32 (js0 : Int), .slice a0 n0 c0, .int .i64 (e0 : Int), .bool false] 49
      simpa using this
    | true =>
      go_wp2_with fail
      have HA := Lib.hid (below_alloc (below_alloc (Below.refl _ w4) (.cells #[.int .u32 (js1 : Int), .slice a1 n1 c1, .int .i64 (e1 : Int)] 47)) (.cells #[.pointer (some ⟨x, 0, none⟩), .int .i64 0, .int .u32 (js0 : Int), .slice a0 n0 c0, .int .i64 (e0 : Int), .bool true] 49))
      go_ret
      refine ⟨_, rfl, by have := HZ4.out; omega, ?_, below_call HB5.out HA.out⟩
      rw [HQ.out, HSN.out, if_neg (by simp)]
      refine FIN.out _ _ a0 n0 c0 ⟨0, js0, d0, e0, true⟩ w1.heap.size HZ1.out (by omega) ?_ (HQ3.out.below HA.out) HQ4.out (by simp; omega) ⟨HF0.out.2.1, by simp, HF0.out.2.2.1, HF0.out.2.2.2⟩
      have := blk_new (w4.alloc (.cells #[.int .u32 (js1 : Int), .slice a1 n1 c1, .int .i64 (e1 : Int)] 47)) #[.pointer (some ⟨x, 0, none⟩), .int .i64 0, .int .u32 (js0 : Int), .slice a0 n0 c0, .int .i64 (e0 : Int), .bool true] 49
      simpa using this
  | true =>
    cases j0 with
    | false =>
      go_wp2_with fail
      have HA := Lib.hid (below_alloc (below_alloc (Below.refl _ w4) (.cells #[.int .u32 (js1 : Int), .slice a1 n1 c1, .int .i64 (e1 : Int)] 47)) (.cells #[.pointer (some ⟨x, 0, none⟩), .int .i64 1, .int .u32 (js1 : Int), .slice a1 n1 c1, .int .i64 (e1 : Int), .bool true] 49))
      go_ret
      refine ⟨_, rfl, by have := HZ4.out; omega, ?_, below_call HB5.out HA.out⟩
      rw [HQ.out, HSN.out, if_pos (by simp)]
      refine FIN.out _ _ a1 n1 c1 ⟨1, js1, d1, e1, true⟩ w3.heap.size HZ3.out (by omega) ?_ (HR3.out.below HA.out) HR4.out (by simp; omega) ⟨HF1.out.2.1, by simp, HF1.out.2.2.1, HF1.out.2.2.2⟩
      have := blk_new (w4.alloc (.cells #[.int .u32 (js1 : Int), .slice a1 n1 c1, .int .i64 (e1 : Int)] 47)) #[.pointer (some ⟨x, 0, none⟩), .int .i64 1, .int .u32 (js1 : Int), .slice a1 n1 c1, .int .i64 (e1 : Int), .bool true] 49
      simpa using this
    | true =>
      rcases Nat.lt_or_ge js0 js1 with hlt | hge
      · have g1 : decide ((js0 : Int) < (js1 : Int)) = true := decide_eq_true (by omega)
        have g2 : decide (js0 < js1) = true := decide_eq_true hlt
        have HLT := Lib.hid hlt
        clear hlt
        go_wp2_with fail
        have HA := Lib.hid (below_alloc (below_alloc (Below.refl _ w4) (.cells #[.int .u32 (js1 : Int), .slice a1 n1 c1, .int .i64 (e1 : Int)] 47)) (.cells #[.pointer (some ⟨x, 0, none⟩), .int .i64 1, .int .u32 (js1 : Int), .slice a1 n1 c1, .int .i64 (e1 : Int), .bool true] 49))
        go_ret
        refine ⟨_, rfl, by have := HZ4.out; omega, ?_, below_call HB5.out HA.out⟩
        rw [HQ.out, HSN.out, if_pos (by simp; exact HLT.out)]
        refine FIN.out _ _ a1 n1 c1 ⟨1, js1, d1, e1, true⟩ w3.heap.size HZ3.out (by omega) ?_ (HR3.out.below HA.out) HR4.out (by simp; omega) ⟨HF1.out.2.1, by simp, HF1.out.2.2.1, HF1.out.2.2.2⟩
        have := blk_new (w4.alloc (.cells #[.int .u32 (js1 : Int), .slice a1 n1 c1, .int .i64 (e1 : Int)] 47)) #[.pointer (some ⟨x, 0, none⟩), .int .i64 1, .int .u32 (js1 : Int), .slice a1 n1 c1, .int .i64 (e1 : Int), .bool true] 49
        simpa using this
      · have g1 : decide ((js0 : Int) < (js1 : Int)) = false := decide_eq_false (by omega)
        have g2 : decide (js0 < js1) = false := decide_eq_false (by omega)
        have HLT := Lib.hid hge
        clear hge
        go_wp2_with fail
        have HA := Lib.hid (below_alloc (below_alloc (Below.refl _ w4) (.cells #[.int .u32 (js1 : Int), .slice a1 n1 c1, .int .i64 (e1 : Int)] 47)) (.cells #[.pointer (some ⟨x, 0, none⟩), .int .i64 0, .int .u32 (js0 : Int), .slice a0 n0 c0, .int .i64 (e0 : Int), .bool true] 49))
        go_ret
        refine ⟨_, rfl, by have := HZ4.out; omega, ?_, below_call HB5.out HA.out⟩
        rw [HQ.out, HSN.out, if_neg (by simp; exact HLT.out)]
        refine FIN.out _ _ a0 n0 c0 ⟨0, js0, d0, e0, true⟩ w1.heap.size HZ1.out (by omega) ?_ (HQ3.out.below HA.out) HQ4.out (by simp; omega) ⟨HF0.out.2.1, by simp, HF0.out.2.2.1, HF0.out.2.2.2⟩
        have := blk_new (w4.alloc (.cells #[.int .u32 (js1 : Int), .slice a1 n1 c1, .int .i64 (e1 : Int)] 47)) #[.pointer (some ⟨x, 0, none⟩), .int .i64 0, .int .u32 (js0 : Int), .slice a0 n0 c0, .int .i64 (e0 : Int), .bool true] 49
        simpa using this
end Go.Proofs.YtekackglcapppaaGreatDoor
/-
  The document's journal: Append, by contract.
-/
namespace Go.Proofs.YtekackglcapppaaGreatDoor
open Go.RowKit

/-- append, as one step of a region that draws its order. -/
theorem step_appB {w : World} {ops : Array Oper} {o : Oper} {a : Act} {K : Act → World → Prop} {Q : Exit → Act → World → Prop} {E : Prop} (hgd : o.guard = none) (s x : Operand)
    (ho : o.op = .call { callee := .builtin .append, args := #[s, x], argTypes := #[22, 22] })
    (base : Nat) (v : Value) (xs : List (BitVec 8)) (hs : a.eval s = v) (hown : Own w base v xs) (u : Value) (ys : List (BitVec 8)) (hx : a.eval x = u) (hu : Byts w u ys)
    (hm : xs.length + ys.length ≤ 140737488355328) (hbase : base ≤ w.heap.size)
    (h : ∀ v' w', Own w' base v' (xs ++ ys) → w.grownBy w' v.ownBlock → K (a.put o.dst v') w') :
    if Region.wanted o (yielded ops a.tmps) = true then Oper.wp Tryz.prog o a w K Q else E := by
  have hw : Region.wanted o (yielded ops a.tmps) = true := by simp [Region.wanted, hgd]
  rw [if_pos hw]
  obtain ⟨v', w', hrun, h1, h2⟩ := run_app base o.type v xs hown u ys hu hm hbase
  unfold Oper.wp
  simp [execOp, ho, resolve, invoke, builtin, hs, hx, hrun, Result.andThen]
  exact h v' w' h1 h2
variable {w : World} {x y : Nat} {S : Ss} {X : Nat → Prop} {b hh : Nat} {j : Jt}
theorem Ro.own2 {w w' : World} (H : Ro w X b x hh j) (hX : X x ∧ X y) (hk : Keep (fun k => k = x ∨ k = y) w w') : Ro w' X b x hh j :=
  H.keep hk (fun h => by rcases h with h | h <;> exact H.not (h ▸ by first | exact hX.1 | exact hX.2)) fun k h => by rcases h with rfl | rfl; exact .inl hX.1; exact .inl hX.2
set_option maxHeartbeats 8000000 in
set_option maxRecDepth 10000 in
theorem rappend_to (h : RSt w x y S) (H : Ro w X b x hh j) (hX : X x ∧ X y ∧ ∀ k, X k → k < w.heap.size) (he : hh = S.xs.length / 2) (v : Value) (d : List (BitVec 8)) (hv : ∀ w', Keep (fun k => k = b ∨ k = x ∨ k = y) w w' → Byts w' v d) (S' : Ss) (j' : Jt) (c : Int) (hp : japp S j d = (S', j', c)) :
    Calls Tryz.prog 11 #[.pointer (some ⟨b, 0, none⟩), v] w fun e w' => ∃ cc, e = .returned (.int .i64 cc) ∧ cc = c ∧ RSt w' x y S' ∧ Ro w' X b x hh j' ∧ Keep (fun k => k = b ∨ k = x ∨ k = y) w w' := by
  have HS := Lib.hid h
  have HJ := Lib.hid H
  have HXX := Lib.hid hX
  have HE := Lib.hid he
  have HV := Lib.hid hv
  have hlen := h.len
  have hf := H.facts
  obtain ⟨av, cv, ev⟩ := (hv w (Keep.refl _ w)).len
  obtain ⟨dn, hdn⟩ : ∃ dn, dn = d.length := ⟨_, rfl⟩
  have HDN := Lib.hid hdn
  rw [← hdn] at ev
  subst ev
  obtain ⟨js, hjs⟩ : ∃ js, js = j.s := ⟨_, rfl⟩
  have HJS : Hid (js = j.s) := Lib.hid hjs
  have hw := u32_bv js
  obtain ⟨sb, hsb⟩ : ∃ sb : BitVec 32, sb = BitVec.ofNat 32 (js + 1) := ⟨_, rfl⟩
  rw [← hsb] at hw
  have HSB := Lib.hid hsb
  obtain ⟨ar, nr, cr, hb, _⟩ := H
  have p0 := hb.cell 0 rfl
  have p1 := hb.cell 1 rfl
  have p2 := hb.cell 2 rfl
  have p4 := hb.cell 4 rfl
  obtain ⟨as0, cs0, hbs, _⟩ := h
  have s0 := hbs.cell 0 rfl
  obtain ⟨L, hL⟩ : ∃ L, L = S.xs.length := ⟨_, rfl⟩
  rw [← hL] at s0 he
  have td : (L : Int).tdiv 2 = (hh : Int) := by rw [Int.tdiv_eq_ediv_of_nonneg (by omega)]; omega
  have tw : IntKind.i64.wrap (hh : Int) = (hh : Int) := by rw [IntKind.wrap_i64]; omega
  rw [← hjs] at p2
  by_cases hd : dn = 0 ∨ 40 < dn
  · have HPR := Lib.hid (rprint_no (sb.toNat : Int) _ d w (hv w (Keep.refl _ w)) (by rw [← hdn]; exact hd))
    obtain ⟨rfl, rfl, hcc⟩ := japp_bad hp (by unfold jcode; rw [if_pos (by rw [← hdn]; exact hd)]; decide)
    have HCC : Hid (1 = c) := Lib.hid (by rw [hcc]; unfold jcode; rw [if_pos (by rw [← hdn]; exact hd)])
    clear hX hv hp hd hcc hdn hjs hsb hf hlen hb hbs p0 p1 p4 s0 td tw hL he
    go_enter Tryz.func11, Tryz.ntmps11
    go_wp2_with fail
    (with_reducible refine HPR.out.mono ?_)
    rintro e w1 ⟨rfl, rfl⟩
    go_wp2_with fail
    go_ret
    exact ⟨_, rfl, HCC.out, HS.out, HJ.out, Keep.refl _ w⟩
  · obtain ⟨h1, h2⟩ : 1 ≤ dn ∧ dn ≤ 40 := by omega
    have HPR := Lib.hid (rprint_yes sb _ d w (hv w (Keep.refl _ w)) (by omega) (by omega))
    obtain ⟨m, hm⟩ : ∃ m, m = dn + 8 := ⟨_, rfl⟩
    have HM := Lib.hid hm
    have HLN := Lib.hid (show (pr sb.toNat d).length = m by rw [len_pr, hm, hdn])
    have hmb : m ≤ 48 := by omega
    have hLb : L ≤ 65536 := by omega
    by_cases hx : hh < m ∨ js = 4294967295
    · have hcd : jcode (S.xs.length / 2) j d = 5 := by
        unfold jcode
        rw [if_neg (by omega), if_pos (by omega)]
      obtain ⟨rfl, rfl, hcc⟩ := japp_bad hp (by rw [hcd]; decide)
      have HCC : Hid (5 = c) := Lib.hid (by rw [hcc, hcd])
      have HX := Lib.hid hx
      clear hX hv hp hd hcc hcd hdn hjs hsb hf hlen hb hbs p1 p4 hL he hx h1 h2 hm
      go_enter Tryz.func11, Tryz.ntmps11
      go_wp2_with fail
      (with_reducible refine HPR.out.mono ?_)
      rintro e w1 ⟨r, rfl, ho, hb⟩
      have HB1 := Lib.hid hb
      obtain ⟨ra, rc, er⟩ := ho.byts.len
      rw [HLN.out] at er
      subst er
      have c0 := below_cell hb p0
      have c2 := below_cell hb p2
      have t0 := below_cell hb s0
      clear ho hb HPR p0 p2 s0
      by_cases g : hh < m
      · have g1 : decide ((hh : Int) < (m : Int)) = true := decide_eq_true (by omega)
        have g2 : decide (hh < m) = true := decide_eq_true g
        clear g
        go_wp2_with fail
        go_ret
        exact ⟨_, rfl, HCC.out, HS.out.below HB1.out, HJ.out.below HB1.out, Keep.of_below HB1.out⟩
      · have g1 : decide ((hh : Int) < (m : Int)) = false := decide_eq_false (by omega)
        have g2 : decide (hh < m) = false := decide_eq_false g
        have g3 : ((js : Int) == 4294967295) = true := by have := HX.out; simp; omega
        have g4 : (js == 4294967295) = true := by have := HX.out; simp; omega
        clear g
        go_wp2_with fail
        go_ret
        exact ⟨_, rfl, HCC.out, HS.out.below HB1.out, HJ.out.below HB1.out, Keep.of_below HB1.out⟩
    · have hcd : jcode (S.xs.length / 2) j d = 0 := by
        unfold jcode
        rw [if_neg (by omega), if_neg (by omega)]
      obtain ⟨j1, hj1⟩ : ∃ j1, j1 = js + 1 := ⟨_, rfl⟩
      have HJ1 : Hid (j1 = j.s + 1) := Lib.hid (by omega)
      have hsn : (sb.toNat : Nat) = j1 := by rw [hsb, BitVec.toNat_ofNat]; omega
      have HSN : Hid (sb.toNat = j.s + 1) := Lib.hid (by omega)
      rw [hsn] at hw HLN HPR
      have HD := Lib.hid (show 1 ≤ d.length ∧ d.length ≤ 40 ∧ d.length + 8 ≤ hh ∧ j.s + 1 ≤ 4294967295 ∧ j.e ≤ hh ∧ hh ≤ 32768 by omega)
      have g1 : decide ((hh : Int) < (m : Int)) = false := decide_eq_false (by omega)
      have g2 : decide (hh < m) = false := decide_eq_false (by omega)
      have g3 : ((js : Int) == 4294967295) = false := by simp; omega
      have g4 : (js == 4294967295) = false := by simp; omega
      obtain ⟨kn, hkn⟩ : ∃ kn, kn = j.k := ⟨_, rfl⟩
      have HKN := Lib.hid hkn
      obtain ⟨at0, hat⟩ : ∃ at0, at0 = j.e := ⟨_, rfl⟩
      have HAT := Lib.hid hat
      rw [← hkn] at p1
      rw [← hat] at p4
      have hk1 : kn ≤ 1 := by omega
      have ha1 : at0 ≤ 32768 := by omega
      have hh1 : hh ≤ 32768 := by omega
      obtain ⟨r1, hr1⟩ : ∃ r1, r1 = hh - at0 := ⟨_, rfl⟩
      have rw1 : IntKind.i64.wrap ((hh : Int) - (at0 : Int)) = (r1 : Int) := by rw [IntKind.wrap_i64]; omega
      have HR1 := Lib.hid hr1
      have HK1 := Lib.hid (show kn ≤ 1 by omega)
      have HKX := HK1
      have HPR1 : Hid (pr j1 d = pr (j.s + 1) d) := Lib.hid (by rw [HJ1.out])
      have HLB := Lib.hid (show (bnk S.xs kn).length ≤ 140737488355328 by rw [bnk_len _ _ hk1]; omega)
      obtain ⟨bl, hbl⟩ : ∃ bl, bl = bblank (bnk S.xs kn) at0 := ⟨_, rfl⟩
      have HBLK := Lib.hid hbl
      have HJN : Hid (jon S.xs j (d.length + 8) = (bl && decide (at0 + m ≤ hh))) := Lib.hid (by unfold jon; rw [← hkn, ← hat, ← hbl, ← HE.out, ← hdn, ← hm])
      have hp' := hp
      have HCD := Lib.hid hcd
      have HP := Lib.hid hp
      clear hX hv hp hp' hd hcd hdn hjs hsb hf hlen hb hbs hL he hx h1 h2 hm hkn hat hsn hj1 hbl hr1
      go_enter Tryz.func11, Tryz.ntmps11
      go_wp2_with fail
      (with_reducible refine HPR.out.mono ?_)
      rintro e w1 ⟨r, rfl, ho, hb⟩
      have HB1 := Lib.hid hb
      have HO1 := Lib.hid ho
      obtain ⟨ra, rc, er⟩ := ho.byts.len
      rw [HLN.out] at er
      subst er
      have c0 := below_cell hb p0
      have c1 := below_cell hb p1
      have c2 := below_cell hb p2
      have c4 := below_cell hb p4
      have t0 := below_cell hb s0
      have HHF := Lib.hid (rhalf_to (HS.out.below hb) (kn : Int) kn rfl HK1.out)
      clear ho hb HPR p0 p1 p2 p4 s0
      go_wp2_with fail
      (with_reducible refine HHF.out.mono ?_)
      rintro e w2 ⟨v2, rfl, ho, hb⟩
      have HBN := Lib.hid (rblank_any v2 _ w2 ho.byts HLB.out (at0 : Int) (by omega))
      rw [Int.toNat_natCast, ← HBLK.out] at HBN
      have HB2 := Lib.hid (below_call HB1.out hb)
      have HO2 := Lib.hid (HO1.out.below hb)
      have d0 := below_cell hb c0
      have d2 := below_cell hb t0
      clear ho hb HHF c0 c1 c2 c4 t0 HO1 HB1
      go_wp2_with fail
      (with_reducible refine HBN.out.mono ?_)
      rintro e w2' ⟨rfl, rfl⟩
      clear HBN
      have HRS2 := Lib.hid (HS.out.below HB2.out)
      have HRO2 := Lib.hid (HJ.out.below HB2.out)
      have HRV : Hid (∀ w' w'', Below w2.heap.size w2 w' → Keep (fun k => k = x ∨ k = y) w' w'' → Byts w'' (.slice ra m rc) (pr j1 d)) := Lib.hid fun w' w'' hb hk => by
        refine (HO2.out.below hb).byts.keep hk fun ad n c e => .inr fun hF => ?_
        have : w.heap.size ≤ ad.block := by
          rcases HO2.out.2 with ⟨h1, _⟩ | ⟨g, cap, cur, h1, hB, _⟩
          · rw [h1] at e; cases e
          · rw [h1] at e; cases e; exact hB
        have := HS.out.lt
        omega
      by_cases hjn : jon S.xs j (d.length + 8) = true
      · rw [HJN.out] at hjn
        simp only [Bool.and_eq_true, decide_eq_true_eq] at hjn
        obtain ⟨hbt, hle⟩ := hjn
        obtain ⟨hp1, hp2⟩ := japp_on HP.out HCD.out (by rw [HJN.out, hbt]; simpa using hle)
        rw [← HE.out, ← HKN.out, ← HAT.out, ← HPR1.out] at hp1
        have g5 : decide ((r1 : Int) < (m : Int)) = false := decide_eq_false (by have := HR1.out; omega)
        have g6 : decide (r1 < m) = false := decide_eq_false (by have := HR1.out; omega)
        obtain ⟨F, hF⟩ : ∃ F, F = kn * hh := ⟨_, rfl⟩
        have fw : IntKind.i64.wrap ((kn : Int) * (hh : Int)) = (F : Int) := by
          rw [hF, IntKind.wrap_i64]
          rcases show kn = 0 ∨ kn = 1 by omega with rfl | rfl <;> simp <;> omega
        obtain ⟨AA, hAA⟩ : ∃ AA, AA = F + at0 := ⟨_, rfl⟩
        have hFb : F ≤ 32768 := by rw [hF]; rcases show kn = 0 ∨ kn = 1 by omega with rfl | rfl <;> omega
        have aw : IntKind.i64.wrap ((F : Int) + (at0 : Int)) = (AA : Int) := by rw [IntKind.wrap_i64]; omega
        rw [← hF, ← hAA] at hp1
        have HWR : Hid (∀ w', Below w2.heap.size w2 w' → Calls Tryz.prog 22 #[.pointer (some ⟨x, 0, none⟩), .int .i64 (AA : Int), .slice ra m rc] w' fun e w'' => ∃ cc, e = .returned (.int .i64 cc) ∧ cc = c ∧ RSt w'' x y S' ∧ Keep (fun k => k = x ∨ k = y) w' w'') := Lib.hid fun w' hb => by
          have := rswrite_to (HRS2.out.below hb) (AA : Int) AA rfl (.slice ra m rc) (pr j1 d) (fun w'' hk => HRV.out w' w'' hb hk) (by rw [HLN.out]; have := HE.out; rw [hAA, hF]; rcases show kn = 0 ∨ kn = 1 by omega with rfl | rfl <;> omega)
          rw [hp1] at this
          exact this
        have HCO : Hid (c = 0 ∨ c = 7) := Lib.hid (by have := sput_code S AA (pr j1 d); rw [hp1] at this; exact this)
        obtain ⟨en, hen⟩ : ∃ en, en = at0 + m := ⟨_, rfl⟩
        have ew : IntKind.i64.wrap ((at0 : Int) + (m : Int)) = (en : Int) := by rw [IntKind.wrap_i64]; omega
        have HEN : Hid (en = j.e + (d.length + 8)) := Lib.hid (by rw [hen, HAT.out, HM.out, HDN.out])
        have HEB := Lib.hid (show j.e + (d.length + 8) ≤ hh by rw [← HEN.out, hen]; exact hle)
        have HP2 := Lib.hid hp2
        subst hbt
        clear hp1 hp2 hF hAA hen hle
        go_wp2_with fail
        (with_reducible refine (HWR.out _ (Below.refl _ _)).mono ?_)
        rintro e w3 ⟨cc, rfl, rfl, hR, hk⟩
        have RS := Lib.hid hR
        have RO := Lib.hid (HRO2.out.own2 ⟨HXX.out.1, HXX.out.2.1⟩ hk)
        have KK := Lib.hid (Keep.trans (F := fun k => k = b ∨ k = x ∨ k = y) (Keep.of_below HB2.out) (hk.mono (G := fun k => k = b ∨ k = x ∨ k = y) fun k h => .inr h) (fun _ h => .inl h))
        have d0 := hk.cell d0 (fun h => HJ.out.not (by rcases h with h | h; exact h ▸ HXX.out.1; exact h ▸ HXX.out.2.1))
        clear hR hk HWR HRS2 HRO2 HRV HO2
        rcases HCO.out with rfl | rfl
        · obtain rfl := HP2.out
          clear HCO
          have HKF := HKN

          obtain ⟨a3, n3, c3, hb3, hv3, hX3, hXb3, r3⟩ := RO.out
          have f1 := hb3.frz 1
          have q1 := hb3.cell 1 rfl
          have HB1 := Lib.hid (hb3.set_ 1 (.int .i64 (kn : Int)))
          obtain ⟨W1, hW1⟩ : ∃ W1, W1 = w3.setCell ⟨b, 1, none⟩ (.int .i64 (kn : Int)) := ⟨_, rfl⟩
          have HW1 := Lib.hid hW1
          have HK1 := Lib.hid (KK.out.store b 1 (.int .i64 (kn : Int)) (.inl rfl))
          have HR1 := Lib.hid (RS.out.keep (Keep.set_ (F := fun k => k = b) w3 b 1 (.int .i64 (kn : Int)) rfl) (fun h => HJ.out.not (h ▸ HXX.out.1)) (fun h => HJ.out.not (h ▸ HXX.out.2.1)))
          rw [← hW1] at HB1 HK1 HR1
          have HXb := Lib.hid hXb3
          have HR3 := Lib.hid r3
          clear hb3 hv3 hX3 hXb3 r3 RO RS KK
          go_wp2_with fail
          rw [← hW1]
          clear f1 q1 hW1
          have HBd := Lib.hid (HB1.out.below (bel_drew W1))
          have HBa := Lib.hid (below_call (below_alloc (Below.refl _ W1) (.cells #[] 5)) (bel_drew (W1.alloc (.cells #[] 5))))
          have HOa : Hid (Own (W1.alloc (.cells #[] 5)).drew W1.heap.size (.slice (some ⟨W1.heap.size, 0, none⟩) 0 0) []) := Lib.hid ((own_lit W1 W1.heap.size [] (Nat.le_refl _) (by unfold maxLen; simp)).below (bel_drew (W1.alloc (.cells #[] 5))))
          have HVa : Hid (Byts (W1.alloc (.cells #[] 5)).drew (.slice av dn cv) d) := Lib.hid ((HV.out W1 HK1.out).below HBa.out)
          have HLL := Lib.hid (show ([] : List (BitVec 8)).length + d.length ≤ 140737488355328 by have := HD.out; simp; omega)
          have hle : W1.heap.size ≤ (W1.alloc (.cells #[] 5)).drew.heap.size := HBa.out.size
          have c2 : W1.drew.cell? ⟨b, 2, none⟩ = some (.int .u32 (js : Int)) := by rw [HJS.out]; exact HBd.out.cell 2 (by simp)
          have c2b : W1.cell? ⟨b, 2, none⟩ = some (.int .u32 (js : Int)) := by rw [HJS.out]; exact HB1.out.cell 2 (by simp)
          have c2a := below_cell HBa.out c2b
          go_region_law (refine step_appB rfl (.tmp 123) (.tmp 124) rfl W1.heap.size _ [] rfl HOa.out _ d rfl HVa.out HLL.out hle ?_; intro v9 w9 hown9 hg9; have HO9 := Lib.hid hown9; have HB9 := Lib.hid (HOa.out.grown HBa.out hg9); clear hown9 hg9; obtain ⟨a9, c9, e9⟩ := HO9.out.byts.len; rw [List.nil_append, ← HDN.out] at e9; subst e9; have hb9 := HB1.out.below HB9.out; have k2 := hb9.cell 2 (u := .int .u32 (js : Int)) (by rw [HJS.out]; simp); have k3 := hb9.cell 3 (u := .slice a3 n3 c3) (by simp); have k4 := hb9.cell 4 (u := .int .i64 (j.e : Int)) (by simp); have k5 := hb9.cell 5 (u := .bool j.is) (by simp); have f2 := hb9.frz 2; have f3 := hb9.frz 3; have f4 := hb9.frz 4; have f5 := hb9.frz 5)
          all_goals
            go_wp2_with fail
            have HBK := Lib.hid (((((HB1.out.below HB9.out).set_ 2 (.int .u32 (j1 : Int))).set_ 3 (.slice a9 dn c9)).set_ 4 (.int .i64 (en : Int))).set_ 5 (.bool true))
            have HK9 := Lib.hid (((((Keep.refl (fun k => k = b) w9).store b 2 (.int .u32 (j1 : Int)) rfl).store b 3 (.slice a9 dn c9) rfl).store b 4 (.int .i64 (en : Int)) rfl).store b 5 (.bool true) rfl)
            have HBY : Hid (Byts w9 (.slice a9 dn c9) d) := Lib.hid (by have := HO9.out.byts; rw [List.nil_append] at this; exact this)
            have hap : ∀ ad, a9 = some ad → b < ad.block ∧ w.heap.size ≤ ad.block ∧ ad.block < w9.heap.size := fun ad e => by
              rcases HO9.out.2 with ⟨h1, _⟩ | ⟨g, cap, cur, h1, hB, hg, _⟩
              · rw [e] at h1; cases h1
              · rw [e] at h1
                simp only [Value.slice.injEq, Option.some.injEq] at h1
                obtain ⟨rfl, _⟩ := h1
                have h2 := HK1.out.size
                have h3 := HJ.out.lt
                show b < g ∧ w.heap.size ≤ g ∧ g < w9.heap.size
                exact ⟨by omega, by omega, lt_of_block hg⟩
            go_ret
            refine ⟨_, rfl, rfl, (HR1.out.below HB9.out).keep HK9.out (fun h => HJ.out.not (h ▸ HXX.out.1)) (fun h => HJ.out.not (h ▸ HXX.out.2.1)), ⟨a9, dn, c9, ?_, HBY.out.keep HK9.out (fun ad n c e => .inr (fun h => ?_)), fun ad e => .inr ⟨fun hx => ?_, ?_, ?_⟩, HXb.out, by have := HD.out; show j.s + 1 ≤ _; omega, (by show j.k ≤ 1; rw [← HKN.out]; exact HKX.out), HD.out.2.1, HEB.out⟩, (((((HK1.out.trans (Keep.of_below (F := fun _ => False) HB9.out) (fun _ h => h.elim)).store b 2 _ (.inl rfl)).store b 3 _ (.inl rfl)).store b 4 _ (.inl rfl)).store b 5 _ (.inl rfl))⟩
            · show Blk _ b #[.pointer (some ⟨x, 0, none⟩), .int .i64 ((j.k : Nat) : Int), .int .u32 ((j.s + 1 : Nat) : Int), .slice a9 dn c9, .int .i64 ((j.e + (d.length + 8) : Nat) : Int), .bool true] 49
              rw [← HKF.out, ← HJ1.out, ← HEN.out]
              have := HBK.out
              simpa using this
            · simp only [Value.slice.injEq] at e
              have := hap ad e.1
              omega
            · have := hap ad e
              have := HXX.out.2.2 _ hx
              omega
            · have := hap ad e
              omega
            · have := hap ad e
              simp [World.setCell]
              omega
        · obtain rfl := HP2.out
          go_wp2_with fail
          go_ret
          exact ⟨_, rfl, rfl, RS.out, RO.out, KK.out⟩
      · have hjn0 : jon S.xs j (d.length + 8) = false := by simpa using hjn
        obtain ⟨P, Q, c1, c2, hp1, hp2, hp3, hp4⟩ := japp_turn HP.out HCD.out hjn0
        obtain ⟨k1, hk1e⟩ : ∃ k1, k1 = 1 - kn := ⟨_, rfl⟩
        have kw : IntKind.i64.wrap (1 - (kn : Int)) = (k1 : Int) := by rw [IntKind.wrap_i64]; omega
        have hk1b : k1 ≤ 1 := by omega
        obtain ⟨F, hF⟩ : ∃ F, F = k1 * hh := ⟨_, rfl⟩
        have fw : IntKind.i64.wrap ((k1 : Int) * (hh : Int)) = (F : Int) := by
          rw [hF, IntKind.wrap_i64]
          rcases show k1 = 0 ∨ k1 = 1 by omega with e | e <;> rw [e] <;> simp <;> omega
        have hFb : F ≤ 32768 := by rw [hF]; rcases show k1 = 0 ∨ k1 = 1 by omega with e | e <;> rw [e] <;> omega
        have fw0 : IntKind.i64.wrap (F : Int) = (F : Int) := by rw [IntKind.wrap_i64]; omega
        have mw0 : IntKind.i64.wrap (m : Int) = (m : Int) := by rw [IntKind.wrap_i64]; omega
        have HKF : Hid (k1 = 1 - j.k) := Lib.hid (by rw [hk1e, HKN.out])
        rw [← HE.out, ← HKF.out, ← hF] at hp1 hp2
        rw [← HPR1.out] at hp2
        have hFle : F + hh ≤ S.xs.length := by have := HE.out; rw [hF]; rcases show k1 = 0 ∨ k1 = 1 by omega with e | e <;> rw [e] <;> omega
        have hPl : P.xs.length = S.xs.length := by have := sput_len S F (List.replicate hh 255#8) (by simpa using hFle); rw [hp1] at this; exact this
        have HWR1 : Hid (∀ w' u, RSt w' x y S → (∀ w'', Keep (fun k => k = x ∨ k = y) w' w'' → Byts w'' u (List.replicate hh 255#8)) → Calls Tryz.prog 22 #[.pointer (some ⟨x, 0, none⟩), .int .i64 (F : Int), u] w' fun e w'' => ∃ cc, e = .returned (.int .i64 cc) ∧ cc = c1 ∧ RSt w'' x y P ∧ Keep (fun k => k = x ∨ k = y) w' w'') := Lib.hid fun w' u hs hu => by
          have := rswrite_to hs (F : Int) F rfl u _ hu (by simpa using hFle)
          rw [hp1] at this
          exact this
        have HWR2 : Hid (∀ w', RSt w' x y P → (∀ w'', Keep (fun k => k = x ∨ k = y) w' w'' → Byts w'' (.slice ra m rc) (pr j1 d)) → Calls Tryz.prog 22 #[.pointer (some ⟨x, 0, none⟩), .int .i64 (F : Int), .slice ra m rc] w' fun e w'' => ∃ cc, e = .returned (.int .i64 cc) ∧ cc = c2 ∧ RSt w'' x y Q ∧ Keep (fun k => k = x ∨ k = y) w' w'') := Lib.hid fun w' hs hu => by
          have := rswrite_to hs (F : Int) F rfl (.slice ra m rc) (pr j1 d) hu (by rw [hPl, HLN.out]; have := HM.out; have := HDN.out; have := HD.out; omega)
          rw [hp2] at this
          exact this
        have HC1 : Hid (c1 = 0 ∨ c1 = 7) := Lib.hid (by have := sput_code S F (List.replicate hh 255#8); rw [hp1] at this; exact this)
        have HC2 : Hid (c2 = 0 ∨ c2 = 7) := Lib.hid (by have := sput_code P F (pr j1 d); rw [hp2] at this; exact this)
        have HP3 := Lib.hid hp3
        have HP4 := Lib.hid hp4
        have HEN : Hid (m = d.length + 8) := Lib.hid (by rw [HM.out, HDN.out])
        have hjf : bl = false ∨ (bl = true ∧ hh < at0 + m) := by
          rw [HJN.out] at hjn0
          cases bl with
          | false => exact .inl rfl
          | true => right; simp at hjn0; exact ⟨rfl, by omega⟩
        clear hp1 hp2 hp3 hp4 hjn hjn0 hF hFle hPl hk1e
        go_upto_region 10 with fail
        go_cut [75] (fun z wx => z = .bool true ∧ wx = w2)
        case first =>
          rcases hjf with rfl | ⟨rfl, hlt⟩
          · go_wp2_with fail
            go_meet
            exact ⟨rfl, rfl⟩
          · have g5 : decide ((r1 : Int) < (m : Int)) = true := decide_eq_true (by have := HR1.out; have := HM.out; omega)
            have g6 : decide (r1 < m) = true := decide_eq_true (by have := HR1.out; have := HM.out; omega)
            clear hlt
            go_wp2_with fail
            go_meet
            exact ⟨rfl, rfl⟩
        case rest =>
        obtain ⟨rfl, rfl⟩ := hcut
        clear hjf
        have HI0 : Hid (∃ a c, Hid (Own wc wc.heap.size (.slice a 0 c) (List.replicate 0 255#8)) ∧ (a = none ∧ c = 0)) := Lib.hid ⟨none, 0, Lib.hid (World.ownsRow_nil _ _ 5 1), rfl, rfl⟩
        have HBL0 := Lib.hid (Below.refl wc.heap.size wc)
        go_wp2_with fail
        go_loopw [11, 12] (fun s11 i wr => ∃ (q : Nat) (a : Option Addr) (ca : Nat), q ≤ hh ∧ i = .int .i64 (q : Int) ∧ s11 = .slice a q ca ∧ Hid (Own wr wc.heap.size (.slice a q ca) (List.replicate q 255#8)) ∧ Hid (Below wc.heap.size wc wr)) (fun _ i _ => hh - (intOf i).toNat)
        case atStart => exact ⟨0, none, 0, by omega, rfl, rfl, Lib.hid (World.ownsRow_nil _ _ 5 1), HBL0⟩
        case round =>
          clear HI0 HBL0
          obtain ⟨q, a, ca, hq, rfl, rfl, HO, HBL⟩ := hrel
          rcases Nat.lt_or_ge q hh with hlt | hge
          · have hlI : (q : Int) < (hh : Int) := by omega
            have HLM := Lib.hid (show (List.replicate q 255#8).length + ([255#8] : List (BitVec 8)).length ≤ 140737488355328 by simp; omega)
            have hz1 := HBL.out.size
            go_wp2_with (at_builtin; refine wpList_app rfl _ _ rfl wc.heap.size _ _ rfl (HO.out.alloc _) _ [255#8] rfl (lit_byts wr #[.int .u8 255] 1 (0, 0) [255#8] rfl rfl) HLM.out (le_alloc hz1 _) ?_; intro v7 w7 hown7 hg7; have HB7 := Lib.hid ((HO.out.alloc (.cells #[.int .u8 255] 5)).grown (below_alloc HBL.out _) hg7); obtain ⟨a7, c7, e7⟩ := hown7.byts.len; rw [show (List.replicate q 255#8 ++ [255#8]).length = q + 1 by simp] at e7; have HO7 : Hid (Own w7 wc.heap.size v7 (List.replicate (q + 1) 255#8)) := Lib.hid (by rw [List.replicate_succ']; exact hown7); obtain ⟨q1, hq1⟩ : ∃ q1, q1 = q + 1 := ⟨_, rfl⟩; rw [← hq1] at e7 HO7; have HQ1 := Lib.hid hq1; subst e7; clear hown7 hg7 hq1 HO HBL hz1 HLM)
            go_roundw
            case rel => exact ⟨q1, a7, c7, by have := HQ1.out; omega, by rw [HQ1.out]; go_num, rfl, HO7, HB7⟩
            case measure => simp [intOf]; omega
          · obtain rfl : q = hh := by omega
            have HBV : Hid (∀ w'', Keep (fun k => k = x ∨ k = y) wr w'' → Byts w'' (.slice a q ca) (List.replicate q 255#8)) := Lib.hid fun w'' hk => by
              refine HO.out.byts.keep hk fun ad n c e => .inr fun hF => ?_
              have : w.heap.size ≤ ad.block := by
                have h9 := HB2.out.size
                rcases HO.out.2 with ⟨h1, _⟩ | ⟨g, cap, cur, h1, hB, _⟩
                · rw [h1] at e; cases e
                · rw [h1] at e; cases e; exact Nat.le_trans h9 hB
              have := HS.out.lt
              omega
            have HRSr := Lib.hid (HRS2.out.below HBL.out)
            have HROr := Lib.hid (HRO2.out.below HBL.out)
            have HBr := Lib.hid (below_call HB2.out HBL.out)
            have d0r := below_cell HBL.out d0
            clear hge hq HO
            go_wp2_with fail
            (with_reducible refine (HWR1.out wr _ HRSr.out HBV.out).mono ?_)
            rintro e w3 ⟨cc, rfl, hcc, hR, hk⟩
            subst hcc
            have RS1 := Lib.hid hR
            have RO1 := Lib.hid (HROr.out.own2 ⟨HXX.out.1, HXX.out.2.1⟩ hk)
            have KK1 := Lib.hid (Keep.trans (F := fun k => k = b ∨ k = x ∨ k = y) (Keep.of_below HBr.out) (hk.mono (G := fun k => k = b ∨ k = x ∨ k = y) fun k h => .inr h) (fun _ h => .inl h))
            have d0s := hk.cell d0r (fun h => HJ.out.not (by rcases h with h | h; exact h ▸ HXX.out.1; exact h ▸ HXX.out.2.1))
            have HKW := Lib.hid hk
            clear hR hk HRSr HROr HBV d0r d0
            rcases HC1.out with rfl | rfl
            · obtain ⟨rfl, rfl⟩ : c = c2 ∧ S' = Q := by
                rcases HP3.out with h | h
                · exact h.2
                · exact absurd h.1 (by decide)
              have HRV3 : Hid (∀ w'', Keep (fun k => k = x ∨ k = y) w3 w'' → Byts w'' (.slice ra m rc) (pr j1 d)) := Lib.hid fun w'' hk => HRV.out wr w'' HBL.out (HKW.out.trans hk (fun _ h => .inl h))
              clear HC1 HP3
              go_wp2_with fail
              (with_reducible refine (HWR2.out w3 RS1.out HRV3.out).mono ?_)
              rintro e w4 ⟨cc, rfl, hcc, hR, hk⟩
              subst hcc
              have RS := Lib.hid hR
              have RO := Lib.hid (RO1.out.own2 ⟨HXX.out.1, HXX.out.2.1⟩ hk)
              have KK := Lib.hid (Keep.trans (F := fun k => k = b ∨ k = x ∨ k = y) KK1.out (hk.mono (G := fun k => k = b ∨ k = x ∨ k = y) fun k h => .inr h) (fun _ h => .inl h))
              clear hR hk RS1 RO1 KK1 HRV3 HWR1 HWR2 HRV d0s
              rcases HC2.out with rfl | rfl
              · obtain rfl := HP4.out
                clear HC2
                obtain ⟨a3, n3, c3, hb3, hv3, hX3, hXb3, r3⟩ := RO.out
                have f1 := hb3.frz 1
                have q1 := hb3.cell 1 rfl
                have HB1 := Lib.hid (hb3.set_ 1 (.int .i64 (k1 : Int)))
                obtain ⟨W1, hW1⟩ : ∃ W1, W1 = w4.setCell ⟨b, 1, none⟩ (.int .i64 (k1 : Int)) := ⟨_, rfl⟩
                have HW1 := Lib.hid hW1
                have HK1 := Lib.hid (KK.out.store b 1 (.int .i64 (k1 : Int)) (.inl rfl))
                have HR1 := Lib.hid (RS.out.keep (Keep.set_ (F := fun k => k = b) w4 b 1 (.int .i64 (k1 : Int)) rfl) (fun h => HJ.out.not (h ▸ HXX.out.1)) (fun h => HJ.out.not (h ▸ HXX.out.2.1)))
                rw [← hW1] at HB1 HK1 HR1
                have HXb := Lib.hid hXb3
                have HR3 := Lib.hid r3
                clear hb3 hv3 hX3 hXb3 r3 RO RS KK
                go_wp2_with fail
                rw [← hW1]
                clear f1 q1 hW1
                have HBd := Lib.hid (HB1.out.below (bel_drew W1))
                have HBa := Lib.hid (below_call (below_alloc (Below.refl _ W1) (.cells #[] 5)) (bel_drew (W1.alloc (.cells #[] 5))))
                have HOa : Hid (Own (W1.alloc (.cells #[] 5)).drew W1.heap.size (.slice (some ⟨W1.heap.size, 0, none⟩) 0 0) []) := Lib.hid ((own_lit W1 W1.heap.size [] (Nat.le_refl _) (by unfold maxLen; simp)).below (bel_drew (W1.alloc (.cells #[] 5))))
                have HVa : Hid (Byts (W1.alloc (.cells #[] 5)).drew (.slice av dn cv) d) := Lib.hid ((HV.out W1 HK1.out).below HBa.out)
                have HLL := Lib.hid (show ([] : List (BitVec 8)).length + d.length ≤ 140737488355328 by have := HD.out; simp; omega)
                have hle : W1.heap.size ≤ (W1.alloc (.cells #[] 5)).drew.heap.size := HBa.out.size
                have c2 : W1.drew.cell? ⟨b, 2, none⟩ = some (.int .u32 (js : Int)) := by rw [HJS.out]; exact HBd.out.cell 2 (by simp)
                have c2b : W1.cell? ⟨b, 2, none⟩ = some (.int .u32 (js : Int)) := by rw [HJS.out]; exact HB1.out.cell 2 (by simp)
                have c2a := below_cell HBa.out c2b
                go_region_law (refine step_appB rfl (.tmp 123) (.tmp 124) rfl W1.heap.size _ [] rfl HOa.out _ d rfl HVa.out HLL.out hle ?_; intro v9 w9 hown9 hg9; have HO9 := Lib.hid hown9; have HB9 := Lib.hid (HOa.out.grown HBa.out hg9); clear hown9 hg9; obtain ⟨a9, c9, e9⟩ := HO9.out.byts.len; rw [List.nil_append, ← HDN.out] at e9; subst e9; have hb9 := HB1.out.below HB9.out; have k2 := hb9.cell 2 (u := .int .u32 (js : Int)) (by rw [HJS.out]; simp); have k3 := hb9.cell 3 (u := .slice a3 n3 c3) (by simp); have k4 := hb9.cell 4 (u := .int .i64 (j.e : Int)) (by simp); have k5 := hb9.cell 5 (u := .bool j.is) (by simp); have f2 := hb9.frz 2; have f3 := hb9.frz 3; have f4 := hb9.frz 4; have f5 := hb9.frz 5)
                all_goals
                  go_wp2_with fail
                  have HBK := Lib.hid (((((HB1.out.below HB9.out).set_ 2 (.int .u32 (j1 : Int))).set_ 3 (.slice a9 dn c9)).set_ 4 (.int .i64 (m : Int))).set_ 5 (.bool true))
                  have HK9 := Lib.hid (((((Keep.refl (fun k => k = b) w9).store b 2 (.int .u32 (j1 : Int)) rfl).store b 3 (.slice a9 dn c9) rfl).store b 4 (.int .i64 (m : Int)) rfl).store b 5 (.bool true) rfl)
                  have HBY : Hid (Byts w9 (.slice a9 dn c9) d) := Lib.hid (by have := HO9.out.byts; rw [List.nil_append] at this; exact this)
                  have hap : ∀ ad, a9 = some ad → b < ad.block ∧ w.heap.size ≤ ad.block ∧ ad.block < w9.heap.size := fun ad e => by
                    rcases HO9.out.2 with ⟨h1, _⟩ | ⟨g, cap, cur, h1, hB, hg, _⟩
                    · rw [e] at h1; cases h1
                    · rw [e] at h1
                      simp only [Value.slice.injEq, Option.some.injEq] at h1
                      obtain ⟨rfl, _⟩ := h1
                      have h2 := HK1.out.size
                      have h3 := HJ.out.lt
                      show b < g ∧ w.heap.size ≤ g ∧ g < w9.heap.size
                      exact ⟨by omega, by omega, lt_of_block hg⟩
                  go_ret
                  refine ⟨_, rfl, rfl, (HR1.out.below HB9.out).keep HK9.out (fun h => HJ.out.not (h ▸ HXX.out.1)) (fun h => HJ.out.not (h ▸ HXX.out.2.1)), ⟨a9, dn, c9, ?_, HBY.out.keep HK9.out (fun ad n c e => .inr (fun h => ?_)), fun ad e => .inr ⟨fun hx => ?_, ?_, ?_⟩, HXb.out, by have := HD.out; show j.s + 1 ≤ _; omega, (by show 1 - j.k ≤ 1; omega), HD.out.2.1, HD.out.2.2.1⟩, (((((HK1.out.trans (Keep.of_below (F := fun _ => False) HB9.out) (fun _ h => h.elim)).store b 2 _ (.inl rfl)).store b 3 _ (.inl rfl)).store b 4 _ (.inl rfl)).store b 5 _ (.inl rfl))⟩
                  · show Blk _ b #[.pointer (some ⟨x, 0, none⟩), .int .i64 ((1 - j.k : Nat) : Int), .int .u32 ((j.s + 1 : Nat) : Int), .slice a9 dn c9, .int .i64 ((d.length + 8 : Nat) : Int), .bool true] 49
                    rw [← HKF.out, ← HJ1.out, ← HEN.out]
                    have := HBK.out
                    simpa using this
                  · simp only [Value.slice.injEq] at e
                    have := hap ad e.1
                    omega
                  · have := hap ad e
                    have := HXX.out.2.2 _ hx
                    omega
                  · have := hap ad e
                    omega
                  · have := hap ad e
                    simp [World.setCell]
                    omega
              · obtain rfl := HP4.out
                go_wp2_with fail
                go_ret
                exact ⟨_, rfl, rfl, RS.out, RO.out, KK.out⟩
            · obtain ⟨rfl, rfl⟩ : c = 7 ∧ S' = P := by
                rcases HP3.out with h | h
                · exact absurd h.1 (by decide)
                · exact h.2
              obtain rfl := HP4.out
              go_wp2_with fail
              go_ret
              exact ⟨_, rfl, rfl, RS1.out, RO1.out, KK1.out⟩
end Go.Proofs.YtekackglcapppaaGreatDoor
/-
  The document's store: Kill, Revive, by contract.
-/
namespace Go.Proofs.YtekackglcapppaaGreatDoor
open Go.RowKit

theorem rskill_to {w : World} {x y : Nat} {S : Ss} (h : RSt w x y S) (n : Int) (k : Nat) (hk : (k : Int) = max n 0) (hn : n ≤ 9223372036854775807) :
    Calls Tryz.prog 13 #[.pointer (some ⟨x, 0, none⟩), .int .i64 n] w fun e w' => e = .returned (.tuple #[]) ∧ RSt w' x y ⟨S.xs, S.dead, some k⟩ ∧ Keep (fun k => k = x ∨ k = y) w w' := by
  have m1 : ∀ (ts : Array TypeId) (t : TypeId) (w : World), (Builtin.max_ ts t #[.int .i64 n, .int .i64 0]).run Tryz.prog w = .ok (.int .i64 (k : Int)) w := fun ts t w => by
    rw [run_max_int2, show (if n < (0 : Int) then (0 : Int) else n) = (k : Int) by split <;> omega]
  have HKB := Lib.hid (show (k : Int) ≤ 9223372036854775807 by omega)
  obtain ⟨a, c, hb, ho, ha, hy, hl, _⟩ := h
  have HB := Lib.hid hb
  have HO := Lib.hid ho
  have HA := Lib.hid ha
  have HY := Lib.hid hy
  have HL := Lib.hid hl
  have c1 := hb.cell 1 rfl
  have f1 := hb.frz 1
  clear hb ho ha hy hl hk hn
  go_enter Tryz.func13, Tryz.ntmps13
  go_wp2_with fail
  go_end0
  refine ⟨rfl, ⟨a, c, by simpa [lft] using HB.out.set_ 1 (.int .i64 (k : Int)), HO.out.keepB (Keep.set_ (F := fun k => k = x) w x 1 (.int .i64 (k : Int)) rfl) (fun g hg h => ?_), HA.out, by simpa [World.setCell] using HY.out, HL.out, HKB.out⟩, (Keep.refl _ w).store x 1 _ (.inl rfl)⟩
  cases a with
  | none => cases hg
  | some ad =>
    have h2 := HA.out ad rfl
    rcases HO.out.2 with ⟨h3, _⟩ | ⟨g', cap, cur, h3, _⟩
    · cases h3
    · simp only [Value.slice.injEq, Option.some.injEq] at h3
      obtain ⟨rfl, _⟩ := h3
      simp only [Value.ownBlock, Option.some.injEq] at hg
      simp only at h2
      exact h2.2 (h2.1.symm.trans (hg.trans h))
theorem rsrevive_to {w : World} {x y : Nat} {S : Ss} (h : RSt w x y S) :
    Calls Tryz.prog 15 #[.pointer (some ⟨x, 0, none⟩)] w fun e w' => e = .returned (.tuple #[]) ∧ RSt w' x y ⟨S.xs, false, none⟩ ∧ Keep (fun k => k = x ∨ k = y) w w' := by
  obtain ⟨a, c, hb, ho, ha, hy, hl, _⟩ := h
  have HB := Lib.hid hb
  have HO := Lib.hid ho
  have HA := Lib.hid ha
  have HY := Lib.hid hy
  have HL := Lib.hid hl
  have c1 := hb.cell 1 rfl
  have f1 := hb.frz 1
  have c2 := hb.cell 2 rfl
  have f2 := hb.frz 2
  clear hb ho ha hy hl
  go_enter Tryz.func15, Tryz.ntmps15
  go_wp2_with fail
  go_end0
  refine ⟨rfl, ⟨a, c, by simpa [lft] using (HB.out.set_ 2 (.bool false)).set_ 1 (.int .i64 (-1)), HO.out.keepB (((Keep.refl (fun k => k = x) w).store x 2 (.bool false) rfl).store x 1 (.int .i64 (-1)) rfl) (fun g hg h => ?_), HA.out, by simpa [World.setCell] using HY.out, HL.out, by simp [lft]⟩, ((Keep.refl _ w).store x 2 _ (.inl rfl)).store x 1 _ (.inl rfl)⟩
  cases a with
  | none => cases hg
  | some ad =>
    have h2 := HA.out ad rfl
    rcases HO.out.2 with ⟨h3, _⟩ | ⟨g', cap, cur, h3, _⟩
    · cases h3
    · simp only [Value.slice.injEq, Option.some.injEq] at h3
      obtain ⟨rfl, _⟩ := h3
      simp only [Value.ownBlock, Option.some.injEq] at hg
      simp only at h2
      exact h2.2 (h2.1.symm.trans (hg.trans h))
end Go.Proofs.YtekackglcapppaaGreatDoor
