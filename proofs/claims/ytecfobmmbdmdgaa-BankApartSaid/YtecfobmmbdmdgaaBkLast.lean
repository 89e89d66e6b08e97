/-
  bank.Last, by contract.
-/
import Derived.Test.YtecfobmmbdmdgaaBkNotes
import Derived.RegionIn
namespace Go.Proofs.Ytecfobmmbdmdgaa
open Go.RowKit

attribute [local go_sem] Oper.semAt_some

/-- Between two rounds of Last: the last note so far and whether there is one, in boxes; the answer's block. -/
def LastI (w : World) (D c : Nat) (pre : List NV) (W : World) : Prop :=
  ∃ s a k cc e ok, Blk W (w.heap.size + 1) #[.int .u32 s, .slice a k cc, .int .i64 e] 33 ∧ Blk W (w.heap.size + 1 + 1) #[.bool ok] 4 ∧ LastT ((pre.map NV.nt).getLast?) D W s a k cc e ok ∧ (∀ y : NV, .slice a k cc = y.v → ok = true → y.g ≠ c ∧ y.g ≠ D ∧ y.g ≠ D + 1 ∧ D ≤ y.g) ∧
    Blk W w.heap.size #[.int .u32 0, .slice none 0 0, .int .i64 0] 33 ∧ Below w.heap.size w W
theorem LastI.keep {w W1 W2 : World} {D c : Nat} {pre : List NV} (h : LastI w D c pre W1) (hw : w.heap.size + 4 ≤ D) (hc : D + 2 ≤ c) (hk : Keep (fun k => k = c ∨ k = D ∨ k = D + 1) W1 W2) : LastI w D c pre W2 := by
  obtain ⟨s, a, k, cc, e, ok, h1, h2, h3, h4, h5, h6⟩ := h
  exact ⟨s, a, k, cc, e, ok, h1.keep hk (by omega), h2.keep hk (by omega), h3.keep hk fun y hy ho hF => by have := h4 y hy ho; omega, h4, h5.keep hk (by omega), below_keep h6 hk fun g hg => by omega⟩
/-- One round: the note and 'there is one' are stored. -/
theorem LastI.round {w W : World} {D c : Nat} {pre : List NV} {x : NV} (h : LastI w D c pre W) (hw : w.heap.size + 4 ≤ D) (hc : D + 2 ≤ c) (hx : Own W D x.v x.d) (hxc : x.g ≠ c) (hx0 : x.g ≠ D) (hx1 : x.g ≠ D + 1) (bb : Nat) (hbb : bb = w.heap.size + 3) :
    Keep (fun k => Mayn w.heap.size bb c k ∧ k ≠ D ∧ k ≠ D + 1) W ((((W.setCell ⟨w.heap.size + 1, 0, none⟩ (.int .u32 (x.s : Int))).setCell ⟨w.heap.size + 1, 1, none⟩ x.v).setCell ⟨w.heap.size + 1, 2, none⟩ (.int .i64 (x.e : Int))).setCell ⟨w.heap.size + 1 + 1, 0, none⟩ (.bool true)) ∧
      LastI w D c (pre ++ [x]) ((((W.setCell ⟨w.heap.size + 1, 0, none⟩ (.int .u32 (x.s : Int))).setCell ⟨w.heap.size + 1, 1, none⟩ x.v).setCell ⟨w.heap.size + 1, 2, none⟩ (.int .i64 (x.e : Int))).setCell ⟨w.heap.size + 1 + 1, 0, none⟩ (.bool true)) := by
  obtain ⟨s, a, k, cc, e, ok, h1, h2, h3, h4, h5, h6⟩ := h
  have hk : Keep (fun k => k = w.heap.size + 1 ∨ k = w.heap.size + 1 + 1) W ((((W.setCell ⟨w.heap.size + 1, 0, none⟩ (.int .u32 (x.s : Int))).setCell ⟨w.heap.size + 1, 1, none⟩ x.v).setCell ⟨w.heap.size + 1, 2, none⟩ (.int .i64 (x.e : Int))).setCell ⟨w.heap.size + 1 + 1, 0, none⟩ (.bool true)) :=
    ((((Keep.refl (fun k => k = w.heap.size + 1 ∨ k = w.heap.size + 1 + 1) W).store _ 0 _ (.inl rfl)).store _ 1 _ (.inl rfl)).store _ 2 _ (.inl rfl)).store _ 0 _ (.inr rfl)
  have hn := (((h1.set_ 0 (.int .u32 (x.s : Int))).set_ 1 x.v).set_ 2 (.int .i64 (x.e : Int))).far (w.heap.size + 1 + 1) 0 (.bool true) (by omega)
  have hxl := (NV.own_block hx).choose_spec.2
  refine ⟨hk.mono fun g hg => ⟨fun h => by omega, by omega, by omega⟩, _, some ⟨x.g, 0, none⟩, x.d.length, x.c, _, true, hn, ?_, .inr ⟨rfl, x, ?_, rfl, rfl, rfl, hx.keepB hk fun g hg hF => ?_⟩, ?_, h5.keep hk (by omega), below_keep h6 hk fun g hg => by omega⟩
  · exact (((h2.far _ _ _ (by omega)).far _ _ _ (by omega)).far _ _ _ (by omega)).set_ 0 _
  · rw [List.map_append, List.map_cons, List.map_nil, List.getLast?_concat]
  · simp only [NV.v, Value.ownBlock, Option.some.injEq] at hg
    omega
  · intro y hy _
    simp only [NV.v, Value.slice.injEq, Option.some.injEq, Addr.mk.injEq] at hy
    obtain ⟨⟨hg, _⟩, _⟩ := hy
    exact ⟨by omega, by omega, by omega, by omega⟩
theorem four_new (w : World) (A B C E : Array Value) (T U X Y : TypeId) :
    Blk ((((w.alloc (.cells A T)).alloc (.cells B U)).alloc (.cells C X)).alloc (.cells E Y)) w.heap.size A T ∧ Blk ((((w.alloc (.cells A T)).alloc (.cells B U)).alloc (.cells C X)).alloc (.cells E Y)) (w.heap.size + 1) B U ∧
      Blk ((((w.alloc (.cells A T)).alloc (.cells B U)).alloc (.cells C X)).alloc (.cells E Y)) (w.heap.size + 1 + 1) C X ∧ Blk ((((w.alloc (.cells A T)).alloc (.cells B U)).alloc (.cells C X)).alloc (.cells E Y)) (w.heap.size + 1 + 1 + 1) E Y := by
  have h1 := ((blk_new w A T).below (below_alloc (Below.refl _ _) (.cells B U))).below (bel_two _ (.cells C X) (.cells E Y))
  have h2 := (blk_new (w.alloc (.cells A T)) B U).below (bel_two _ (.cells C X) (.cells E Y))
  have h3 := (blk_new ((w.alloc (.cells A T)).alloc (.cells B U)) C X).below (below_alloc (Below.refl _ _) (.cells E Y))
  have h4 := blk_new (((w.alloc (.cells A T)).alloc (.cells B U)).alloc (.cells C X)) E Y
  simp only [World.size_alloc] at h2 h3 h4
  exact ⟨h1, h2, h3, h4⟩

set_option maxRecDepth 100000 in
set_option maxHeartbeats 4000000 in
theorem last_in (F : Fence) (n : Nat) (hF : ∀ k, F.fn k) (hro : F.round = none) (hn : 3 ≤ n) (hC : ∀ (m f : Nat) (args : Array Value) (w : World) (R : Ending → World → Prop), Calls Try.prog f args w R → CallsIn F m Try.prog f args w R)
    (v : Value) (xs : List (BitVec 8)) (w : World) (hv : Byts w v xs) (hl : xs.length ≤ 100000) :
    CallsIn F n Try.prog 17 #[v] w fun e w' => ∃ s a k c p ok, e = .returned (.tuple #[.agg #[.int .u32 s, .slice a k c, .int .i64 p], .bool ok]) ∧ LastT (bnotes xs).getLast? w.heap.size w' s a k c p ok ∧ Below w.heap.size w w' := by
  have h1 : 1 ≤ n := by omega
  have hfar := far_of hv
  obtain ⟨av, cv, ev⟩ := hv.len
  subst ev
  refine callsIn_of_wp_marks Try.func17 rfl (hF _) ?_ hro
  simp only [Try.ntmps17, List.size_toArray, List.length_cons, List.length_nil, Nat.reduceAdd, Nat.reduceSub, Array.replicate_succ, Array.replicate_zero, List.push_toArray, List.append_toArray, List.nil_append, List.cons_append]
  gi_wp2_with (gi_at_call 24; (with_reducible refine (hC _ _ _ _ _ (row_any _ _ _ _)).mono ?_); rintro e w1 ⟨rfl, rfl⟩)
  have hW := four_new w #[.int .u32 0, .slice none 0 0, .int .i64 0] #[.int .u32 0, .slice none 0 0, .int .i64 0] #[.bool false] #[.slice av xs.length cv] 33 33 4 23
  have hB := below_alloc (below_alloc (bel_two w (.cells #[.int .u32 0, .slice none 0 0, .int .i64 0] 33) (.cells #[.int .u32 0, .slice none 0 0, .int .i64 0] 33)) (.cells #[.bool false] 4)) (.cells #[.slice av xs.length cv] 23)
  have hsz : ((((w.alloc (.cells #[.int .u32 0, .slice none 0 0, .int .i64 0] 33)).alloc (.cells #[.int .u32 0, .slice none 0 0, .int .i64 0] 33)).alloc (.cells #[.bool false] 4)).alloc (.cells #[.slice av xs.length cv] 23)).heap.size = w.heap.size + 4 := by simp
  generalize (((w.alloc (.cells #[.int .u32 0, .slice none 0 0, .int .i64 0] 33)).alloc (.cells #[.int .u32 0, .slice none 0 0, .int .i64 0] 33)).alloc (.cells #[.bool false] 4)).alloc (.cells #[.slice av xs.length cv] 23) = W0 at *
  have HSZ := Lib.hid hsz
  clear hsz
  refine range_row F n hF hro (by omega) hC (w.heap.size + 1 + 1 + 1) w.heap.size (.slice av xs.length cv) xs hl hfar (hv.below hB) (hW.2.2.2.cell 0 rfl) (by have := HSZ.out; omega) rfl
    (fun c pre W => LastI w W0.heap.size c pre W) ?start ?keep
    (fun x nb => { tmps := #[.slice av xs.length cv, undef, .pointer (some ⟨w.heap.size, 0, none⟩), .bool false, .pointer (some ⟨w.heap.size + 1, 0, none⟩), .pointer (some ⟨w.heap.size + 1 + 1, 0, none⟩), .pointer (some ⟨nb, 0, none⟩), .agg #[.int .u32 0, .slice none 0 0, .int .i64 0], .slice av xs.length cv, .func (.func 29) #[] #[.pointer (some ⟨w.heap.size + 1 + 1 + 1, 0, none⟩)], .agg #[.int .u32 (x.s : Int), .slice (some ⟨x.g, 0, none⟩) x.d.length x.c, .int .i64 (x.e : Int)], undef, undef, undef], defers := [] })
    ?assign ?body ?done
  case start =>
    intro c W hb hc
    refine ⟨_, _, _, _, _, _, hW.2.1.below hb, hW.2.2.1.below hb, .inl ⟨rfl, rfl, rfl, rfl, rfl, rfl, rfl⟩, ?_, hW.1.below hb, hB.trans (hb.mono (by have := HSZ.out; omega))⟩
    intro y hy h
    cases h
  case keep =>
    intro c pre W1 W2 hc hi hk
    exact hi.keep (by have := HSZ.out; omega) hc hk
  case assign =>
    intro l x W K hK
    gi_wp2
    exact hK
  case body =>
    rintro l c pre x nb W hc hcW hi ho hxc hx0 hx1 hxg hlen hnb
    have HZ := Lib.hid (hi.round (by have := HSZ.out; omega) hc ho hxc hx0 hx1 (w.heap.size + 1 + 1 + 1) rfl)
    obtain ⟨s, a, k, cc, e, ok, g1, g2, _, _, _, _⟩ := hi
    obtain ⟨d0, d1, d2⟩ := hnb.three
    obtain ⟨c0, c1, c2⟩ := g1.three
    have c3 := g2.cell 0 rfl
    have f0 := g1.frz 0
    have f1 := g1.frz 1
    have f2 := g1.frz 2
    have f3 := g2.frz 0
    clear ho hxg hlen hnb g1 g2
    gi_wp2
    exact HZ.out
  case done =>
    rintro c ys W hc hys ⟨s, a, k, cc, e, ok, g1, g2, g3, g4, g5, g6⟩ hD
    rw [hys] at g3
    obtain ⟨d0, d1, d2⟩ := g1.three
    obtain ⟨c0, c1, c2⟩ := g5.three
    have d3 : W.cell? ⟨w.heap.size + 1 + 1, 0, none⟩ = some (.bool ok) := g2.cell 0 rfl
    have f0 := g5.frz 0
    have f1 := g5.frz 1
    have f2 := g5.frz 2
    have HG := Lib.hid (And.intro hD (And.intro g3 (And.intro g4 (And.intro g5 g6))))
    clear g1 g2 g3 g4 g5 g6 hys hD
    obtain ⟨ff, fd, fa, fr⟩ := F
    obtain rfl : fr = none := hro
    gi_wp2
    have d0' : W.drew.cell? ⟨w.heap.size + 1, 0, none⟩ = some (.int .u32 s) := d0
    have d1' : W.drew.cell? ⟨w.heap.size + 1, 1, none⟩ = some (.slice a k cc) := d1
    have d2' : W.drew.cell? ⟨w.heap.size + 1, 2, none⟩ = some (.int .i64 e) := d2
    have d3' : W.drew.cell? ⟨w.heap.size + 1 + 1, 0, none⟩ = some (.bool ok) := d3
    have c0' : W.drew.cell? ⟨w.heap.size, 0, none⟩ = some (.int .u32 0) := c0
    have c1' : W.drew.cell? ⟨w.heap.size, 1, none⟩ = some (.slice none 0 0) := c1
    have c2' : W.drew.cell? ⟨w.heap.size, 2, none⟩ = some (.int .i64 0) := c2
    have f0' : W.drew.frozen? ⟨w.heap.size, 0, none⟩ = false := f0
    have f1' : W.drew.frozen? ⟨w.heap.size, 1, none⟩ = false := f1
    have f2' : W.drew.frozen? ⟨w.heap.size, 2, none⟩ = false := f2
    gi_region
    have hk : Keep (fun g => g = w.heap.size) W (((W.setCell ⟨w.heap.size, 0, none⟩ (.int .u32 s)).setCell ⟨w.heap.size, 1, none⟩ (.slice a k cc)).setCell ⟨w.heap.size, 2, none⟩ (.int .i64 e)).drew :=
      ((((Keep.refl (fun g => g = w.heap.size) W).store _ 0 _ rfl).store _ 1 _ rfl).store _ 2 _ rfl).more 1
    have hb : Blk (((W.setCell ⟨w.heap.size, 0, none⟩ (.int .u32 s)).setCell ⟨w.heap.size, 1, none⟩ (.slice a k cc)).setCell ⟨w.heap.size, 2, none⟩ (.int .i64 e)).drew w.heap.size #[.int .u32 s, .slice a k cc, .int .i64 e] 33 :=
      ((HG.out.2.2.2.1.set_ 0 _).set_ 1 _).set_ 2 _
    generalize (((W.setCell ⟨w.heap.size, 0, none⟩ (.int .u32 s)).setCell ⟨w.heap.size, 1, none⟩ (.slice a k cc)).setCell ⟨w.heap.size, 2, none⟩ (.int .i64 e)).drew = Wz at *
    have hD := (hk.block _ (lt_of_block HG.out.1) (by have := HSZ.out; omega)).trans HG.out.1
    have hp := keep_putObj Wz W0.heap.size (.deferred none)
    have HLT := Lib.hid ((HG.out.2.1.keep hk fun y hy ho hF => by have := (HG.out.2.2.1 y hy ho).2.2.2; have := HSZ.out; omega).keep hp fun y hy ho hF => (HG.out.2.2.1 y hy ho).2.1 hF)
    have HBL := Lib.hid (below_keep (below_keep HG.out.2.2.2.2 hk fun g hg => by omega) hp fun g hg => by have := HSZ.out; omega)
    obtain ⟨q0, q1, q2⟩ := (hb.keep hp (by have := HSZ.out; omega)).three
    clear d0 d1 d2 d3 c0 c1 c2 f0 f1 f2 d0' d1' d2' d3' c0' c1' c2' f0' f1' f2' hk hb
    gi_wp2
    refine ⟨by simp, .inl ⟨_, _, rfl, run_takeDeferred hD, ⟨.tuple #[.agg #[.int .u32 s, .slice a k cc, .int .i64 e], .bool ok], ?_, ⟨_, _, _, _, _, _, rfl, HLT.out.mono (by have := HSZ.out; omega), HBL.out⟩⟩⟩⟩
    rw [results_cell_tmp rfl]
    go_simp

theorem last_any (v : Value) (xs : List (BitVec 8)) (w : World) (hv : Byts w v xs) (hl : xs.length ≤ 100000) :
    Calls Try.prog 17 #[v] w fun e w' => ∃ s a k c p ok, e = .returned (.tuple #[.agg #[.int .u32 s, .slice a k c, .int .i64 p], .bool ok]) ∧ LastT (bnotes xs).getLast? w.heap.size w' s a k c p ok ∧ Below w.heap.size w w' :=
  (callsIn_wide (n := 3)).1 (last_in Fence.wide 3 (fun _ => trivial) rfl (Nat.le_refl _) (fun _ _ _ _ _ h => callsIn_wide.2 h) v xs w hv hl)
end Go.Proofs.Ytecfobmmbdmdgaa
