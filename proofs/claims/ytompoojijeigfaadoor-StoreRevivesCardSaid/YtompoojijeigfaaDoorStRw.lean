/-
  Write and Read of a store.
-/
import Derived.Test.YtompoojijeigfaaDoorStCalls
import Derived.Deep.RegionLaw
namespace Go.Proofs.YtompoojijeigfaaDoor
open Go.RowKit

variable {w : World} {s B : Nat} {xs : List (BitVec 8)} {dead doomed : Bool} {left : Nat}
theorem Keep.own2 {w w' : World} {s B : Nat} (h : Keep (fun k => k = s) w w') : Keep (own2 s B) w w' := h.mono fun _ e => .inl e
theorem Keep.own2B {w w' : World} {s B : Nat} (h : Keep (fun k => k = B) w w') : Keep (Go.Proofs.YtompoojijeigfaaDoor.own2 s B) w w' := h.mono fun _ e => .inr e
/-- Bytes stand in no block of a store's cells. -/
theorem byts_sto {v : Value} {ys : List (BitVec 8)} (hv : Byts w v ys) (h : Sto w s B xs dead doomed left) {w' : World} (hk : Keep (fun k => k = s) w w') : Byts w' v ys := by
  refine hv.keep hk fun a n c e => ?_
  rcases hv with ⟨h0, h1⟩ | ⟨g, o, cap, hg, hc, hcell⟩
  · rcases h1 with h1 | ⟨a', c', h1⟩
    · rw [h1] at e; cases e
    · rw [h1] at e; cases e; exact .inl rfl
  · rw [hg] at e
    simp only [Value.slice.injEq, Option.some.injEq] at e
    obtain ⟨rfl, rfl, rfl⟩ := e
    cases ys with
    | nil => exact .inl rfl
    | cons y ys =>
      right
      rintro rfl
      have h1 := hcell 0 y rfl
      rw [cell_of_row _ _ _ _ _ _ h.blk] at h1
      rcases Nat.lt_or_ge (o + 0) 4 with h3 | h3
      · have : o = 0 ∨ o = 1 ∨ o = 2 ∨ o = 3 := by omega
        rcases this with rfl | rfl | rfl | rfl <;> simp [cel] at h1
      · rw [Array.getElem?_eq_none (by simpa using h3)] at h1
        cases h1
/-- The error v is of the code k (0: none), made at or behind lo. -/
def ErrAt (w : World) (lo : Nat) (v : Value) (k : Int) : Prop := (v = .nilIface ∧ k = 0) ∨ ∃ g, lo ≤ g ∧ k ≠ 0 ∧ v = .iface 45 (.pointer (some ⟨g, 0, none⟩)) ∧ w.cell? ⟨g, 1, none⟩ = some (.int .i64 k)
theorem ErrAt.errV {lo : Nat} {v : Value} {k : Int} (h : ErrAt w lo v k) : ErrV w v k := by
  rcases h with h | ⟨g, _, h1, h2, h3⟩
  · exact .inl h
  · exact .inr ⟨g, h1, h2, h3⟩
theorem ErrAt.nil {lo : Nat} {v : Value} (h : ErrAt w lo v 0) : v = .nilIface := h.errV.nil
theorem ErrAt.keep {w' : World} {lo : Nat} {v : Value} {k : Int} (h : ErrAt w lo v k) {G : Nat → Prop} (hk : Keep G w w') (hG : ∀ g, G g → g < lo) : ErrAt w' lo v k := by
  rcases h with h | ⟨g, h0, h1, h2, h3⟩
  · exact .inl h
  · exact .inr ⟨g, h0, h1, h2, hk.cell h3 (fun e => by have := hG _ e; omega)⟩
theorem ErrAt.below {w' : World} {lo : Nat} {v : Value} {k : Int} (h : ErrAt w lo v k) (hb : Below w.heap.size w w') : ErrAt w' lo v k := h.keep (Keep.of_below (F := fun _ => False) hb) (fun _ h => h.elim)
theorem write_dead (h : Sto w s B xs true doomed left) (at_ : Int) (v : Value) :
    Calls Tryd.prog 9 #[.pointer (some ⟨s, 0, none⟩), .int .i64 at_, v] w fun e w' => ∃ v, e = .returned v ∧ ErrAt w' w.heap.size v 7 ∧ Sto w' s B xs true doomed left ∧ Below w.heap.size w w' := by
  have c1 := h.blk.cell 1 (u := .bool true) rfl
  have H := Lib.hid h
  have HN := Lib.hid (new_form 7 rfl)
  clear h
  go_enter Tryd.func9, Tryd.ntmps9
  go_wp2_with fail
  (with_reducible refine (HN.out _ _).mono ?_)
  rintro e w1 ⟨g, hgs, rfl, hg, hb⟩
  have HG := Lib.hid hg
  have HGS := Lib.hid hgs
  have HB := Lib.hid hb
  clear hg hb hgs
  go_wp2_with fail
  go_ret
  exact ⟨_, rfl, .inr ⟨g, HGS.out, by decide, rfl, HG.out⟩, H.out.below HB.out, HB.out⟩
theorem write_range (h : Sto w s B xs false doomed left) (at_ : Int) (v : Value) (ys : List (BitVec 8)) (hv : Byts w v ys) (hl : ys.length ≤ 140737488355328) (hr : ¬ (0 ≤ at_ ∧ at_ ≤ (xs.length : Int) - ys.length)) :
    Calls Tryd.prog 9 #[.pointer (some ⟨s, 0, none⟩), .int .i64 at_, v] w fun e w' => ∃ v, e = .returned v ∧ ErrAt w' w.heap.size v 6 ∧ Sto w' s B xs false doomed left ∧ Below w.heap.size w w' := by
  have c1 := h.blk.cell 1 (u := .bool false) rfl
  have H := Lib.hid h
  have HN := Lib.hid (new_form 6 rfl)
  obtain ⟨a, c, rfl⟩ := hv.len
  have HH := Lib.hid (holds_to h at_ (ys.length : Int) (by omega) (by omega) false (by simp only [hr]; rfl))
  obtain ⟨n, hn⟩ : ∃ n, n = ys.length := ⟨_, rfl⟩
  rw [← hn] at HH
  rw [← hn]
  clear h hr hv hl hn
  go_enter Tryd.func9, Tryd.ntmps9
  go_wp2_with fail
  (with_reducible refine HH.out.mono ?_)
  rintro e w1 ⟨rfl, rfl⟩
  go_wp2_with fail
  (with_reducible refine (HN.out _ _).mono ?_)
  rintro e w1 ⟨g, hgs, rfl, hg, hb⟩
  have HG := Lib.hid hg
  have HGS := Lib.hid hgs
  have HB := Lib.hid hb
  clear hg hb hgs
  go_wp2_with fail
  go_ret
  exact ⟨_, rfl, .inr ⟨g, HGS.out, by decide, rfl, HG.out⟩, H.out.below HB.out, HB.out⟩
/-- A Write that stands in it: k bytes are written. -/
theorem write_to (h : Sto w s B xs false doomed left) (A : Int) (a : Nat) (hA : A = (a : Int)) (v : Value) (ys : List (BitVec 8)) (hv : Byts w v ys) (hr : a + ys.length ≤ xs.length) (k left' : Nat)
    (hk : (doomed = false ∧ k = ys.length ∧ left' = left) ∨ (doomed = true ∧ k = min ys.length left ∧ left' = left - k)) (dead' : Bool) (code : Int) (hd : (k = ys.length ∧ dead' = false ∧ code = 0) ∨ (k < ys.length ∧ dead' = true ∧ code = 7)) :
    Calls Tryd.prog 9 #[.pointer (some ⟨s, 0, none⟩), .int .i64 A, v] w fun e w' => ∃ v, e = .returned v ∧ ErrAt w' w.heap.size v code ∧ Sto w' s B (splice xs a (ys.take k)) dead' doomed left' ∧ Keep (own2 s B) w w' := by
  subst hA
  have hlen := h.len
  have c1 := h.blk.cell 1 (u := .bool false) rfl
  have H := Lib.hid h
  have HN := Lib.hid (new_form 7 rfl)
  have HV := Lib.hid hv
  have hkl : k ≤ ys.length := by omega
  have HH := Lib.hid (holds_to h (a : Int) (ys.length : Int) (by omega) (by omega) true (by rw [decide_eq_true]; omega))
  have HS := Lib.hid (spend_to h ys.length k left' (by omega) hk)
  obtain ⟨v1, q2, hv1⟩ := cutL hv k hkl
  have HV1 := Lib.hid hv1
  have hlk : (ys.take k).length = k := by rw [List.length_take]; omega
  obtain ⟨sp, c', rfl, _⟩ := hv1.src
  rw [hlk] at HV1 q2
  obtain ⟨av, cv, ev⟩ := hv.len
  obtain ⟨n, hn⟩ : ∃ n, n = ys.length := ⟨_, rfl⟩
  obtain ⟨m, hm⟩ : ∃ m, m = xs.length := ⟨_, rfl⟩
  have HNn := Lib.hid hn
  have HM := Lib.hid hm
  rw [← hn] at HH HS ev
  rw [← hn] at hr hd hkl
  rw [← hm] at hr hlen
  subst ev
  clear h hv hv1 hk hn hm
  go_enter Tryd.func9, Tryd.ntmps9
  go_wp2_with fail
  (with_reducible refine HH.out.mono ?_)
  rintro e w1 ⟨rfl, rfl⟩
  go_wp2_with fail
  (with_reducible refine HS.out.mono ?_)
  rintro e w1 ⟨rfl, hs, hb⟩
  have HS1 := Lib.hid hs
  have HK1 := Lib.hid hb
  have c0 := hs.blk.cell 0 (u := .slice (some ⟨B, 0, none⟩) m m) (by rw [HM.out]; rfl)
  have HV2 := Lib.hid (byts_sto HV1.out H.out HK1.out)
  clear hs hb HH HS c1
  obtain ⟨o, d, HO, q1⟩ : ∃ o d, Hid (d = m - a ∧ (a < m → o = a)) ∧ ∀ w', (Instr.slice 22 (.slice (some ⟨B, 0, none⟩) m m) (some (.int .i64 (a : Int))) none none).run Tryd.prog w' = .ok (.slice (some ⟨B, o, none⟩) d d) w' := by
    have hu : Tryd.prog.underlying 22 = some (.slice (Tryd.prog.elem 22)) := by rw [elemB]; exact Tryd.underlying22
    by_cases e : m = a
    · refine ⟨0, 0, ⟨by omega, by omega⟩, fun w' => ?_⟩
      rw [run_slice_l _ _ _ _ _ hu _ _ (by omega) (by omega), elemB, sizeU8]
      simp [Result.andThen, sliced, e]
    · refine ⟨a, m - a, ⟨rfl, fun _ => rfl⟩, fun w' => ?_⟩
      rw [run_slice_l _ _ _ _ _ hu _ _ (by omega) (by omega), elemB, sizeU8]
      simp [Result.andThen, sliced, e, plain_add]
  obtain ⟨w2, hrun, hroom, hkeep⟩ : ∃ w', (∀ T, (Builtin.copy_ #[22, 22] T #[.slice (some ⟨B, o, none⟩) d d, .slice sp k c']).run Tryd.prog w1.drew = .ok (.int .i64 (k : Int)) w') ∧ Room w' B (splice xs a (ys.take k)) ∧ Keep (fun k => k = B) w1.drew w' := by
    obtain ⟨sp', c'', e', hsrc⟩ := (HV2.out.below (bel_drew w1)).src
    rw [hlk] at e' hsrc
    obtain ⟨w', h1, h2, h3⟩ := run_copy_room w1.drew (some ⟨B, o, none⟩) sp' d d k c'' B a xs (HS1.out.row.keep (Keep.of_below (F := fun _ => False) (bel_drew w1)) id) (ys.take k) (by
      rw [hlk]; have := HO.out; have e : Nat.min k d = min k d := rfl; omega) (fun h0 => by
      rw [hlk] at h0
      obtain ⟨ad, e1, e2⟩ := hsrc h0
      exact ⟨by rw [HO.out.2 (by omega)], ad, e1, e2⟩) (by rw [hlk, ← HM.out]; omega)
    rw [hlk] at h1
    exact ⟨w', by rw [e']; exact h1, h2, h3⟩
  have HR2 := Lib.hid hroom
  have HK2 := Lib.hid (Keep.trans (F := own2 s B) (HK1.out.own2.more 1) hkeep.own2B (fun _ h => .inl h))
  have HB2 := Lib.hid (HS1.out.blk.keep ((Keep.of_below (F := fun k => k = B) (bel_drew w1)).trans hkeep (fun _ h => .inl h)) (H.out.ne))
  clear hroom hkeep HV2 HV1 HV
  have HLK := Lib.hid hlk
  have HR := Lib.hid hr
  clear hlk
  go_wp2_with fail
  go_region_law (refine step_copy rfl _ _ rfl rfl rfl hrun ?_)
  have HLS := Lib.hid (show (splice xs a (ys.take k)).length = xs.length from length_splice _ _ _ (by rw [HLK.out, ← HM.out]; omega))
  clear q1 q2 hrun c0 HO
  rcases hd with ⟨e1, rfl, rfl⟩ | ⟨e1, rfl, rfl⟩
  · have g1 : decide ((k : Int) < (n : Int)) = false := decide_eq_false (by omega)
    have g2 : decide (k < n) = false := decide_eq_false (by omega)
    clear e1 hkl hr hlen
    go_wp2_with fail
    go_ret
    exact ⟨_, rfl, .inl ⟨rfl, rfl⟩, ⟨by rw [HLS.out]; exact HB2.out, HR2.out, H.out.ne, by rw [HLS.out]; exact H.out.len, HS1.out.most⟩, HK2.out⟩
  · have g1 : decide ((k : Int) < (n : Int)) = true := decide_eq_true (by omega)
    have g2 : decide (k < n) = true := decide_eq_true (by omega)
    have c1 := HB2.out.cell 1 (u := .bool false) rfl
    have f1 := HB2.out.frz 1
    clear e1 hkl hr hlen
    go_wp2_with fail
    have HK3 := Lib.hid (HK2.out.store s 1 (.bool true) (.inl rfl))
    have HB3 := Lib.hid (HB2.out.set_ 1 (.bool true))
    have HR3 := Lib.hid (HR2.out.keep (Keep.set_ (F := fun k => k = s) w2 s 1 (.bool true) rfl) (fun e => H.out.ne e.symm))
    clear HB2 HR2 HK2 c1 f1
    (with_reducible refine (HN.out _ _).mono ?_)
    rintro e w4 ⟨g, hgs, rfl, hg, hb⟩
    have HG := Lib.hid hg
    have HGS := Lib.hid hgs
    have HB := Lib.hid hb
    clear hg hb hgs
    go_wp2_with fail
    go_ret
    refine ⟨_, rfl, .inr ⟨g, Nat.le_trans HK3.out.size HGS.out, by decide, rfl, HG.out⟩, Sto.below (w := w2.setCell ⟨s, 1, none⟩ (.bool true)) ⟨?_, HR3.out, H.out.ne, by rw [HLS.out]; exact H.out.len, HS1.out.most⟩ HB.out, HK3.out.trans (Keep.of_below (F := fun _ => False) HB.out) (fun _ h => h.elim)⟩
    rw [HLS.out]
    exact HB3.out
/-- The n bytes from a on. -/
theorem read_to (h : Sto w s B xs dead doomed left) (A N : Int) (a n : Nat) (hA : A = (a : Int)) (hN : N = (n : Int)) (h1 : 1 ≤ n) (hr : a + n ≤ xs.length) :
    Calls Tryd.prog 14 #[.pointer (some ⟨s, 0, none⟩), .int .i64 A, .int .i64 N] w fun e w' => ∃ v, e = .returned v ∧ Own w' w.heap.size v ((xs.drop a).take n) ∧ Below w.heap.size w w' := by
  subst hA hN
  have hlen := h.len
  obtain ⟨m, hm⟩ : ∃ m, m = xs.length := ⟨_, rfl⟩
  have HM := Lib.hid hm
  have HH := Lib.hid (holds_to h (a : Int) (n : Int) (by omega) (by omega) true (by rw [decide_eq_true]; omega))
  have c0 := h.blk.cell 0 (u := .slice (some ⟨B, 0, none⟩) m m) (by rw [hm]; rfl)
  have e1 : IntKind.i64.wrap ((a : Int) + (n : Int)) = (a : Int) + (n : Int) := by rw [IntKind.wrap_i64]; omega
  have g1 : decide ((n : Int) < 1) = false := decide_eq_false (by omega)
  have g2 : decide (n < 1) = false := decide_eq_false (by omega)
  have hu : Tryd.prog.underlying 22 = some (.slice (Tryd.prog.elem 22)) := by rw [elemB]; exact Tryd.underlying22
  obtain ⟨c, HC⟩ : ∃ c, Hid (c = m - a) := ⟨_, Lib.hid rfl⟩
  have q1 : ∀ w', (Instr.slice 22 (.slice (some ⟨B, 0, none⟩) m m) (some (.int .i64 (a : Int))) (some (.int .i64 ((a : Int) + (n : Int)))) none).run Tryd.prog w' = .ok (.slice (some ⟨B, a, none⟩) n c) w' := fun w' => by
    rw [run_slice_lh _ _ _ _ _ hu _ _ _ _ (by omega) (by omega) (by omega), elemB, sizeU8]
    have e : ¬ m = a := by omega
    have e2 : ((a : Int) + (n : Int)).toNat - a = n := by omega
    simp [Result.andThen, sliced, e, e2, plain_add, HC.out]
  have hby : Byts w (.slice (some ⟨B, a, none⟩) n c) ((xs.drop a).take n) := by
    have hl : ((xs.drop a).take n).length = n := by rw [List.length_take, List.length_drop]; omega
    refine .inr ⟨B, a, c, by rw [hl], by rw [hl, HC.out]; omega, fun j x hx => ?_⟩
    have hj : j < n := by
      have := (List.getElem?_eq_some_iff.1 hx).1
      omega
    rw [List.getElem?_take, if_pos hj, List.getElem?_drop] at hx
    exact h.row.cell (a + j) x hx
  have HL := Lib.hid (clone_any _ _ w hby (by rw [List.length_take]; omega))
  clear h h1 hr hlen hm hu hby
  go_enter Tryd.func14, Tryd.ntmps14
  go_wp2_with fail
  (with_reducible refine HH.out.mono ?_)
  rintro e w1 ⟨rfl, rfl⟩
  go_wp2_with fail
  (with_reducible refine HL.out.mono ?_)
  rintro e w1 ⟨v, rfl, ho, hb⟩
  have HO := Lib.hid ho
  have HB := Lib.hid hb
  clear ho hb
  go_wp2_with fail
  go_ret
  exact ⟨v, rfl, HO.out, HB.out⟩
theorem read_none (h : Sto w s B xs dead doomed left) (a n : Int) (hn : n ≤ 9223372036854775807) (hr : n < 1 ∨ ¬ (0 ≤ a ∧ a ≤ (xs.length : Int) - n)) :
    Calls Tryd.prog 14 #[.pointer (some ⟨s, 0, none⟩), .int .i64 a, .int .i64 n] w fun e w' => e = .returned (.slice none 0 0) ∧ w = w' := by
  by_cases h1 : n < 1
  · have g1 : decide (n < 1) = true := decide_eq_true h1
    clear h hr hn h1
    go_enter Tryd.func14, Tryd.ntmps14
    go_wp2_with fail
    go_ret
    exact ⟨rfl, rfl⟩
  · have g1 : decide (n < 1) = false := decide_eq_false h1
    have HH := Lib.hid (holds_to h a n (by omega) hn false (by rw [eq_comm, decide_eq_false_iff_not]; exact hr.resolve_left h1))
    clear h hr hn h1
    go_enter Tryd.func14, Tryd.ntmps14
    go_wp2_with fail
    (with_reducible refine HH.out.mono ?_)
    rintro e w1 ⟨rfl, rfl⟩
    go_wp2_with fail
    go_ret
    exact ⟨rfl, rfl⟩
theorem read_any (h : Sto w s B xs dead doomed left) (A N : Int) (a n : Nat) (hA : A = (a : Int)) (hN : N = (n : Int)) (hr : a + n ≤ xs.length) :
    Calls Tryd.prog 14 #[.pointer (some ⟨s, 0, none⟩), .int .i64 A, .int .i64 N] w fun e w' => ∃ v, e = .returned v ∧ Byts w' v ((xs.drop a).take n) ∧ Below w.heap.size w w' := by
  rcases Nat.eq_zero_or_pos n with h0 | h0
  · subst h0
    refine (read_none h A N (by omega) (.inl (by omega))).mono fun e w' ⟨he, hw⟩ => ?_
    subst hw
    exact ⟨_, he, by rw [List.take_zero]; exact byts_nil _, Below.refl _ _⟩
  · exact (read_to h A N a n hA hN h0 hr).mono fun e w' ⟨v, he, ho, hb⟩ => ⟨v, he, ho.byts, hb⟩
/-- A store of a call's own: nothing older than w0 has changed. -/
structure Mine (w0 w : World) (s B : Nat) (xs : List (BitVec 8)) (dead doomed : Bool) (left : Nat) : Prop where
  sto : Sto w s B xs dead doomed left
  bel : Below w0.heap.size w0 w
  s_ : w0.heap.size ≤ s
  B_ : w0.heap.size ≤ B
theorem Mine.call {w0 w w' : World} {s B : Nat} {xs xs' : List (BitVec 8)} {dead doomed dead' doomed' : Bool} {left left' : Nat} (h : Mine w0 w s B xs dead doomed left) (hs : Sto w' s B xs' dead' doomed' left') (hk : Keep (own2 s B) w w') : Mine w0 w' s B xs' dead' doomed' left' :=
  ⟨hs, below_keep h.bel hk (fun g e => by rcases e with rfl | rfl; exact h.s_; exact h.B_), h.s_, h.B_⟩
theorem Mine.below {w0 w w' : World} {s B : Nat} {xs : List (BitVec 8)} {dead doomed : Bool} {left : Nat} (h : Mine w0 w s B xs dead doomed left) (hb : Below w.heap.size w w') : Mine w0 w' s B xs dead doomed left :=
  ⟨h.sto.below hb, h.bel.trans (hb.mono h.bel.size), h.s_, h.B_⟩
theorem Mine.alloc {w0 w : World} {s B : Nat} {xs : List (BitVec 8)} {dead doomed : Bool} {left : Nat} (h : Mine w0 w s B xs dead doomed left) (o : Obj) : Mine w0 (w.alloc o) s B xs dead doomed left := h.below (below_alloc (Below.refl _ w) o)
theorem Mine.lt {w0 w : World} {s B : Nat} {xs : List (BitVec 8)} {dead doomed : Bool} {left : Nat} (h : Mine w0 w s B xs dead doomed left) : ∀ g, Go.Proofs.YtompoojijeigfaaDoor.own2 s B g → g < w.heap.size := fun g e => by
  rcases e with rfl | rfl
  · exact h.sto.blk.lt
  · exact h.sto.row.lt
/-- The error v is of the code k, and no store's memory. -/
def ErrO (w : World) (s B : Nat) (v : Value) (k : Int) : Prop := ∃ lo, ErrAt w lo v k ∧ s < lo ∧ B < lo
theorem Mine.err {w0 w w' : World} {s B : Nat} {xs : List (BitVec 8)} {dead doomed : Bool} {left : Nat} (h : Mine w0 w s B xs dead doomed left) {v : Value} {k : Int} (he : ErrAt w' w.heap.size v k) : ErrO w' s B v k := ⟨_, he, h.sto.blk.lt, h.sto.row.lt⟩
theorem ErrO.keep {w w' : World} {s B : Nat} {v : Value} {k : Int} (h : ErrO w s B v k) (hk : Keep (Go.Proofs.YtompoojijeigfaaDoor.own2 s B) w w') : ErrO w' s B v k := by
  obtain ⟨lo, h1, h2, h3⟩ := h
  exact ⟨lo, h1.keep hk (fun g e => by rcases e with rfl | rfl <;> assumption), h2, h3⟩
theorem ErrO.below {w w' : World} {s B : Nat} {v : Value} {k : Int} (h : ErrO w s B v k) (hb : Below w.heap.size w w') : ErrO w' s B v k := h.keep (Keep.of_below hb)
theorem ErrO.alloc {w : World} {s B : Nat} {v : Value} {k : Int} (h : ErrO w s B v k) (o : Obj) : ErrO (w.alloc o) s B v k := h.below (below_alloc (Below.refl _ w) o)
theorem ErrO.code {w : World} {s B : Nat} {v : Value} {k : Int} (h : ErrO w s B v k) : Calls Tryd.prog 13 #[v] w fun e w' => e = .returned (.int .i64 k) ∧ w = w' := by
  obtain ⟨lo, h1, _⟩ := h
  exact code_err h1.errV
end Go.Proofs.YtompoojijeigfaaDoor
