/-
  SnPrA SnPrB: merged.
-/
import Derived.BigQuiet
import Derived.Lib.QuietBelow
import Derived.Test.YtolfdfbhignniaaDoorBase
import Derived.Test.YtolfdfbhignniaaDoorSnBar
import Derived.Test.YtolfdfbhignniaaDoorSnAll
/-
  sensor's Print by contracts: the channels that are no track's.
-/
namespace Go.Proofs.YtolfdfbhignniaaDoor
open Go.RowKit

theorem laid_bools (bs : List Bool) (W : World) (g : Nat) (hg : g = W.heap.size) (C : Array Value) (hC : C = (bs.map Value.bool).toArray) (T : TypeId) : ∀ (j : Nat) b, bs[j]? = some b → (W.alloc (.cells C T)).cell? ⟨g, j, none⟩ = some (.bool b) := by
  intro j b hb
  subst hg hC
  exact (blk_new W _ T).cell j (by simp [hb])
/-- Print has told one byte. -/
def Said1 (w : World) (e : Ending) (w' : World) (x : BitVec 8) : Prop := ∃ g, e = .returned (.slice (some ⟨g, 0, none⟩) 1 1) ∧ Byts w' (.slice (some ⟨g, 0, none⟩) 1 1) [x] ∧ w.heap.size ≤ g ∧ Below w.heap.size w w'
theorem bar_lay (a b c d : Bool) : barIs (lay1 [a, b, c, d]) (a && !b) (b && !a) (c && !d) (d && !c) := by
  cases a <;> cases b <;> cases c <;> cases d <;> exact ⟨by decide, by decide, by decide, by decide⟩
section
variable (a b c d s l o : Bool) (m : Int) (mn bt : Bool) (r : Int) (tv : Value) (w : World)
set_option maxHeartbeats 4000000 in
theorem print_lamps : Calls Tryd.prog 22 #[.agg #[.bool a, .bool b, .bool c, .bool d, .bool s, .bool l, .bool o, .int .i64 m, .bool mn, .bool bt, .int .i64 r, tv], .int .i64 1] w fun e w' => Said1 w e w' (byteOf (lay1 [l])) := by
  have HL := Lib.hid (fun (W : World) (g : Nat) (hg : g = W.heap.size) => lay_to [l] 1 rfl (by omega) g (W.alloc (.cells #[.bool l] 4)) (laid_bools [l] W g hg _ rfl 4))
  have hr := lay1_range [l] (by simp)
  go_enter Tryd.func22, Tryd.ntmps22
  go_wp2_with fail
  (with_reducible refine (HL.out _ _ (by simp)).mono ?_)
  rintro e w1 ⟨rfl, rfl⟩
  go_wp2_with fail
  go_ret
  exact ⟨_, rfl, byte_at _ hr.1 (by omega) _ (by simp), by omega, below_alloc (below_alloc (below_alloc (Below.refl _ w) _) _) _⟩
set_option maxHeartbeats 4000000 in
theorem print_obst : Calls Tryd.prog 22 #[.agg #[.bool a, .bool b, .bool c, .bool d, .bool s, .bool l, .bool o, .int .i64 m, .bool mn, .bool bt, .int .i64 r, tv], .int .i64 2] w fun e w' => Said1 w e w' (byteOf (lay1 [o])) := by
  have HL := Lib.hid (fun (W : World) (g : Nat) (hg : g = W.heap.size) => lay_to [o] 1 rfl (by omega) g (W.alloc (.cells #[.bool o] 4)) (laid_bools [o] W g hg _ rfl 4))
  have hr := lay1_range [o] (by simp)
  go_enter Tryd.func22, Tryd.ntmps22
  go_wp2_with fail
  (with_reducible refine (HL.out _ _ (by simp)).mono ?_)
  rintro e w1 ⟨rfl, rfl⟩
  go_wp2_with fail
  go_ret
  exact ⟨_, rfl, byte_at _ hr.1 (by omega) _ (by simp), by omega, below_alloc (below_alloc (below_alloc (Below.refl _ w) _) _) _⟩
set_option maxHeartbeats 4000000 in
theorem print_power : Calls Tryd.prog 22 #[.agg #[.bool a, .bool b, .bool c, .bool d, .bool s, .bool l, .bool o, .int .i64 m, .bool mn, .bool bt, .int .i64 r, tv], .int .i64 4] w fun e w' => Said1 w e w' (byteOf (lay1 [mn, bt])) := by
  have HL := Lib.hid (fun (W : World) (g : Nat) (hg : g = W.heap.size) => lay_to [mn, bt] 2 rfl (by omega) g (W.alloc (.cells #[.bool mn, .bool bt] 4)) (laid_bools [mn, bt] W g hg _ rfl 4))
  have hr := lay1_range [mn, bt] (by simp)
  go_enter Tryd.func22, Tryd.ntmps22
  go_wp2_with fail
  (with_reducible refine (HL.out _ _ (by simp)).mono ?_)
  rintro e w1 ⟨rfl, rfl⟩
  go_wp2_with fail
  go_ret
  exact ⟨_, rfl, byte_at _ hr.1 (by omega) _ (by simp), by omega, below_alloc (below_alloc (below_alloc (Below.refl _ w) _) _) _⟩
set_option maxHeartbeats 4000000 in
theorem print_mode_yes (h : (0 ≤ m ∧ m < 3)) : Calls Tryd.prog 22 #[.agg #[.bool a, .bool b, .bool c, .bool d, .bool s, .bool l, .bool o, .int .i64 m, .bool mn, .bool bt, .int .i64 r, tv], .int .i64 3] w fun e w' => Said1 w e w' (byteOf m) := by
  obtain ⟨k, hk⟩ : ∃ k, m % 256 = k := ⟨_, rfl⟩
  have hk0 : 0 ≤ k := by omega
  have hk1 : k ≤ 255 := by omega
  obtain ⟨n, hn⟩ : ∃ n, (if 0 ≤ k ∧ k < 3 then k else 1) = n := ⟨_, rfl⟩
  have hq : (n == m) = true := by rw [← hn, if_pos (by omega)]; simp; omega
  have HX := Lib.hid (show m = k by omega)
  have HY := Lib.hid (byte_at (w.alloc (.cells #[.bool a, .bool b, .bool c, .bool d, .bool s, .bool l, .bool o, .int .i64 m, .bool mn, .bool bt, .int .i64 r, tv] 36)) hk0 hk1 (w.heap.size + 1) (by simp))
  have HK := Lib.hid ((blk_new w #[.bool a, .bool b, .bool c, .bool d, .bool s, .bool l, .bool o, .int .i64 m, .bool mn, .bool bt, .int .i64 r, tv] 36).below (below_alloc (Below.refl _ (w.alloc (.cells #[.bool a, .bool b, .bool c, .bool d, .bool s, .bool l, .bool o, .int .i64 m, .bool mn, .bool bt, .int .i64 r, tv] 36))) (.cells #[.int .u8 k] 5)))
  have HB := Lib.hid (below_alloc (below_alloc (Below.refl _ w) (.cells #[.bool a, .bool b, .bool c, .bool d, .bool s, .bool l, .bool o, .int .i64 m, .bool mn, .bool bt, .int .i64 r, tv] 36)) (.cells #[.int .u8 k] 5))
  clear h
  go_enter Tryd.func22, Tryd.ntmps22
  go_wp2_with fail
  have c0 := HK.out.cell 7 rfl
  generalize (w.alloc (.cells #[.bool a, .bool b, .bool c, .bool d, .bool s, .bool l, .bool o, .int .i64 m, .bool mn, .bool bt, .int .i64 r, tv] 36)).alloc (.cells #[.int .u8 k] 5) = w2 at *
  have HM := Lib.hid (fun (W : World) (hW : Below w2.heap.size w2 W) => (mode_to true _ _ k (sone_byte hk0 hk1) W n hn (HY.out.below hW)).mono (fun e w' (h : e = .returned (.int .i64 n) ∧ w' = W) => (⟨h.1, by rw [h.2]; exact Below.refl _ W⟩ : e = .returned (.int .i64 n) ∧ Below W.heap.size W w')))
  have HS := Lib.hid (fun (v : Value) (W : World) => (said_to v true W).mono (fun e w' (h : e = .returned (if true then v else .slice none 0 0) ∧ w' = W) => (⟨by first | simpa using h.1 | exact h.1, by rw [h.2]; exact Below.refl _ W⟩ : e = .returned v ∧ Below W.heap.size W w')))
  clear HK
  replace c0 := cell_regrown c0
  refine wp_region_quiet_below (by kernel_rfl) (by kernel_rfl) ?_
  repeat (go_big_quiet_step (first | (with_reducible exact Calls.regrown_of (HM.out _ (below_regrown _ _ _))) | (with_reducible exact Calls.regrown_of (HS.out _ _))))
  refine wpQuiet_nil ?_
  intro _ hw'
  obtain ⟨⟨dq, osq⟩, hw''⟩ := hw'
  subst hw''
  clear c0
  go_wp2_with fail
  go_ret
  exact ⟨_, rfl, by rw [HX.out]; exact HY.out.below (below_regrown _ dq osq), by omega, below_call HB.out (below_regrown _ dq osq)⟩
set_option maxHeartbeats 4000000 in
theorem print_routes_yes (h : (0 ≤ r ∧ r < 256)) : Calls Tryd.prog 22 #[.agg #[.bool a, .bool b, .bool c, .bool d, .bool s, .bool l, .bool o, .int .i64 m, .bool mn, .bool bt, .int .i64 r, tv], .int .i64 5] w fun e w' => Said1 w e w' (byteOf r) := by
  obtain ⟨k, hk⟩ : ∃ k, r % 256 = k := ⟨_, rfl⟩
  have hk0 : 0 ≤ k := by omega
  have hk1 : k ≤ 255 := by omega
  obtain ⟨n, hn⟩ : ∃ n, onl k 256 = n := ⟨_, rfl⟩
  have hq : (n == r) = true := by rw [← hn]; unfold onl; rw [if_pos (by omega)]; simp; omega
  have HX := Lib.hid (show r = k by omega)
  have HY := Lib.hid (byte_at (w.alloc (.cells #[.bool a, .bool b, .bool c, .bool d, .bool s, .bool l, .bool o, .int .i64 m, .bool mn, .bool bt, .int .i64 r, tv] 36)) hk0 hk1 (w.heap.size + 1) (by simp))
  have HK := Lib.hid ((blk_new w #[.bool a, .bool b, .bool c, .bool d, .bool s, .bool l, .bool o, .int .i64 m, .bool mn, .bool bt, .int .i64 r, tv] 36).below (below_alloc (Below.refl _ (w.alloc (.cells #[.bool a, .bool b, .bool c, .bool d, .bool s, .bool l, .bool o, .int .i64 m, .bool mn, .bool bt, .int .i64 r, tv] 36))) (.cells #[.int .u8 k] 5)))
  have HB := Lib.hid (below_alloc (below_alloc (Below.refl _ w) (.cells #[.bool a, .bool b, .bool c, .bool d, .bool s, .bool l, .bool o, .int .i64 m, .bool mn, .bool bt, .int .i64 r, tv] 36)) (.cells #[.int .u8 k] 5))
  clear h
  go_enter Tryd.func22, Tryd.ntmps22
  go_wp2_with fail
  have c0 := HK.out.cell 10 rfl
  generalize (w.alloc (.cells #[.bool a, .bool b, .bool c, .bool d, .bool s, .bool l, .bool o, .int .i64 m, .bool mn, .bool bt, .int .i64 r, tv] 36)).alloc (.cells #[.int .u8 k] 5) = w2 at *
  have HM := Lib.hid (fun (W : World) (hW : Below w2.heap.size w2 W) => (routes_to true _ _ k (sone_byte hk0 hk1) W 8 256 n (by decide) hn (HY.out.below hW)).mono (fun e w' (h : e = .returned (.int .i64 n) ∧ w' = W) => (⟨h.1, by rw [h.2]; exact Below.refl _ W⟩ : e = .returned (.int .i64 n) ∧ Below W.heap.size W w')))
  have HS := Lib.hid (fun (v : Value) (W : World) => (said_to v true W).mono (fun e w' (h : e = .returned (if true then v else .slice none 0 0) ∧ w' = W) => (⟨by first | simpa using h.1 | exact h.1, by rw [h.2]; exact Below.refl _ W⟩ : e = .returned v ∧ Below W.heap.size W w')))
  clear HK
  replace c0 := cell_regrown c0
  refine wp_region_quiet_below (by kernel_rfl) (by kernel_rfl) ?_
  repeat (go_big_quiet_step (first | (with_reducible exact Calls.regrown_of (HM.out _ (below_regrown _ _ _))) | (with_reducible exact Calls.regrown_of (HS.out _ _))))
  refine wpQuiet_nil ?_
  intro _ hw'
  obtain ⟨⟨dq, osq⟩, hw''⟩ := hw'
  subst hw''
  clear c0
  go_wp2_with fail
  go_ret
  exact ⟨_, rfl, by rw [HX.out]; exact HY.out.below (below_regrown _ dq osq), by omega, below_call HB.out (below_regrown _ dq osq)⟩
set_option maxHeartbeats 4000000 in
theorem print_mode_no (h : ¬ (0 ≤ m ∧ m < 3)) : Calls Tryd.prog 22 #[.agg #[.bool a, .bool b, .bool c, .bool d, .bool s, .bool l, .bool o, .int .i64 m, .bool mn, .bool bt, .int .i64 r, tv], .int .i64 3] w fun e w' => e = .returned (.slice none 0 0) ∧ Below w.heap.size w w' := by
  obtain ⟨k, hk⟩ : ∃ k, m % 256 = k := ⟨_, rfl⟩
  have hk0 : 0 ≤ k := by omega
  have hk1 : k ≤ 255 := by omega
  obtain ⟨n, hn⟩ : ∃ n, (if 0 ≤ k ∧ k < 3 then k else 1) = n := ⟨_, rfl⟩
  have hq : (n == m) = false := by rw [← hn]; split <;> simp <;> omega
  have HY := Lib.hid (byte_at (w.alloc (.cells #[.bool a, .bool b, .bool c, .bool d, .bool s, .bool l, .bool o, .int .i64 m, .bool mn, .bool bt, .int .i64 r, tv] 36)) hk0 hk1 (w.heap.size + 1) (by simp))
  have HK := Lib.hid ((blk_new w #[.bool a, .bool b, .bool c, .bool d, .bool s, .bool l, .bool o, .int .i64 m, .bool mn, .bool bt, .int .i64 r, tv] 36).below (below_alloc (Below.refl _ (w.alloc (.cells #[.bool a, .bool b, .bool c, .bool d, .bool s, .bool l, .bool o, .int .i64 m, .bool mn, .bool bt, .int .i64 r, tv] 36))) (.cells #[.int .u8 k] 5)))
  have HB := Lib.hid (below_alloc (below_alloc (Below.refl _ w) (.cells #[.bool a, .bool b, .bool c, .bool d, .bool s, .bool l, .bool o, .int .i64 m, .bool mn, .bool bt, .int .i64 r, tv] 36)) (.cells #[.int .u8 k] 5))
  clear h
  go_enter Tryd.func22, Tryd.ntmps22
  go_wp2_with fail
  have c0 := HK.out.cell 7 rfl
  generalize (w.alloc (.cells #[.bool a, .bool b, .bool c, .bool d, .bool s, .bool l, .bool o, .int .i64 m, .bool mn, .bool bt, .int .i64 r, tv] 36)).alloc (.cells #[.int .u8 k] 5) = w2 at *
  have HM := Lib.hid (fun (W : World) (hW : Below w2.heap.size w2 W) => (mode_to true _ _ k (sone_byte hk0 hk1) W n hn (HY.out.below hW)).mono (fun e w' (h : e = .returned (.int .i64 n) ∧ w' = W) => (⟨h.1, by rw [h.2]; exact Below.refl _ W⟩ : e = .returned (.int .i64 n) ∧ Below W.heap.size W w')))
  have HS := Lib.hid (fun (v : Value) (W : World) => (said_to v false W).mono (fun e w' (h : e = .returned (if false then v else .slice none 0 0) ∧ w' = W) => (⟨by first | simpa using h.1 | exact h.1, by rw [h.2]; exact Below.refl _ W⟩ : e = .returned (.slice none 0 0) ∧ Below W.heap.size W w')))
  clear HK
  replace c0 := cell_regrown c0
  refine wp_region_quiet_below (by kernel_rfl) (by kernel_rfl) ?_
  repeat (go_big_quiet_step (first | (with_reducible exact Calls.regrown_of (HM.out _ (below_regrown _ _ _))) | (with_reducible exact Calls.regrown_of (HS.out _ _))))
  refine wpQuiet_nil ?_
  intro _ hw'
  obtain ⟨⟨dq, osq⟩, hw''⟩ := hw'
  subst hw''
  clear c0
  go_wp2_with fail
  go_ret
  exact ⟨rfl, below_call HB.out (below_regrown _ dq osq)⟩
set_option maxHeartbeats 4000000 in
theorem print_routes_no (h : ¬ (0 ≤ r ∧ r < 256)) : Calls Tryd.prog 22 #[.agg #[.bool a, .bool b, .bool c, .bool d, .bool s, .bool l, .bool o, .int .i64 m, .bool mn, .bool bt, .int .i64 r, tv], .int .i64 5] w fun e w' => e = .returned (.slice none 0 0) ∧ Below w.heap.size w w' := by
  obtain ⟨k, hk⟩ : ∃ k, r % 256 = k := ⟨_, rfl⟩
  have hk0 : 0 ≤ k := by omega
  have hk1 : k ≤ 255 := by omega
  obtain ⟨n, hn⟩ : ∃ n, onl k 256 = n := ⟨_, rfl⟩
  have hq : (n == r) = false := by rw [← hn]; unfold onl; split <;> simp <;> omega
  have HY := Lib.hid (byte_at (w.alloc (.cells #[.bool a, .bool b, .bool c, .bool d, .bool s, .bool l, .bool o, .int .i64 m, .bool mn, .bool bt, .int .i64 r, tv] 36)) hk0 hk1 (w.heap.size + 1) (by simp))
  have HK := Lib.hid ((blk_new w #[.bool a, .bool b, .bool c, .bool d, .bool s, .bool l, .bool o, .int .i64 m, .bool mn, .bool bt, .int .i64 r, tv] 36).below (below_alloc (Below.refl _ (w.alloc (.cells #[.bool a, .bool b, .bool c, .bool d, .bool s, .bool l, .bool o, .int .i64 m, .bool mn, .bool bt, .int .i64 r, tv] 36))) (.cells #[.int .u8 k] 5)))
  have HB := Lib.hid (below_alloc (below_alloc (Below.refl _ w) (.cells #[.bool a, .bool b, .bool c, .bool d, .bool s, .bool l, .bool o, .int .i64 m, .bool mn, .bool bt, .int .i64 r, tv] 36)) (.cells #[.int .u8 k] 5))
  clear h
  go_enter Tryd.func22, Tryd.ntmps22
  go_wp2_with fail
  have c0 := HK.out.cell 10 rfl
  generalize (w.alloc (.cells #[.bool a, .bool b, .bool c, .bool d, .bool s, .bool l, .bool o, .int .i64 m, .bool mn, .bool bt, .int .i64 r, tv] 36)).alloc (.cells #[.int .u8 k] 5) = w2 at *
  have HM := Lib.hid (fun (W : World) (hW : Below w2.heap.size w2 W) => (routes_to true _ _ k (sone_byte hk0 hk1) W 8 256 n (by decide) hn (HY.out.below hW)).mono (fun e w' (h : e = .returned (.int .i64 n) ∧ w' = W) => (⟨h.1, by rw [h.2]; exact Below.refl _ W⟩ : e = .returned (.int .i64 n) ∧ Below W.heap.size W w')))
  have HS := Lib.hid (fun (v : Value) (W : World) => (said_to v false W).mono (fun e w' (h : e = .returned (if false then v else .slice none 0 0) ∧ w' = W) => (⟨by first | simpa using h.1 | exact h.1, by rw [h.2]; exact Below.refl _ W⟩ : e = .returned (.slice none 0 0) ∧ Below W.heap.size W w')))
  clear HK
  replace c0 := cell_regrown c0
  refine wp_region_quiet_below (by kernel_rfl) (by kernel_rfl) ?_
  repeat (go_big_quiet_step (first | (with_reducible exact Calls.regrown_of (HM.out _ (below_regrown _ _ _))) | (with_reducible exact Calls.regrown_of (HS.out _ _))))
  refine wpQuiet_nil ?_
  intro _ hw'
  obtain ⟨⟨dq, osq⟩, hw''⟩ := hw'
  subst hw''
  clear c0
  go_wp2_with fail
  go_ret
  exact ⟨rfl, below_call HB.out (below_regrown _ dq osq)⟩
set_option maxHeartbeats 4000000 in
theorem print_bar_yes (h : ((a && b) || (c && d)) = false) : Calls Tryd.prog 22 #[.agg #[.bool a, .bool b, .bool c, .bool d, .bool s, .bool l, .bool o, .int .i64 m, .bool mn, .bool bt, .int .i64 r, tv], .int .i64 0] w fun e w' => Said1 w e w' (byteOf (lay1 [a, b, c, d])) := by
  have HL := Lib.hid (fun (W : World) (g : Nat) (hg : g = W.heap.size) => lay_to [a, b, c, d] 4 rfl (by omega) g (W.alloc (.cells #[.bool a, .bool b, .bool c, .bool d] 4)) (laid_bools [a, b, c, d] W g hg _ rfl 4))
  have hr := lay1_range [a, b, c, d] (by simp)
  have hi := bar_lay a b c d
  have hq : decide (samB (a && !b) (b && !a) (c && !d) (d && !c) a b c d) = true := by revert h; cases a <;> cases b <;> cases c <;> cases d <;> decide
  obtain ⟨k, hk⟩ : ∃ k, lay1 [a, b, c, d] = k := ⟨_, rfl⟩
  rw [hk] at HL hr hi ⊢
  obtain ⟨hk0, hk1⟩ := hr
  replace hk1 : k ≤ 255 := by omega
  obtain ⟨e0, h0⟩ : ∃ e0, (a && !b) = e0 := ⟨_, rfl⟩
  obtain ⟨e1, h1⟩ : ∃ e1, (b && !a) = e1 := ⟨_, rfl⟩
  obtain ⟨e2, h2⟩ : ∃ e2, (c && !d) = e2 := ⟨_, rfl⟩
  obtain ⟨e3, h3⟩ : ∃ e3, (d && !c) = e3 := ⟨_, rfl⟩
  rw [h0, h1, h2, h3] at hi hq
  clear hk h h0 h1 h2 h3
  have HY := Lib.hid (byte_at (((w.alloc (.cells #[.bool a, .bool b, .bool c, .bool d, .bool s, .bool l, .bool o, .int .i64 m, .bool mn, .bool bt, .int .i64 r, tv] 36)).alloc (.cells #[.bool a, .bool b, .bool c, .bool d] 33)).alloc (.cells #[.bool a, .bool b, .bool c, .bool d] 4)) hk0 hk1 (w.heap.size + 1 + 1 + 1) (by simp))
  have HK := Lib.hid ((blk_new (w.alloc (.cells #[.bool a, .bool b, .bool c, .bool d, .bool s, .bool l, .bool o, .int .i64 m, .bool mn, .bool bt, .int .i64 r, tv] 36)) #[.bool a, .bool b, .bool c, .bool d] 33).below (below_alloc (below_alloc (Below.refl _ ((w.alloc (.cells #[.bool a, .bool b, .bool c, .bool d, .bool s, .bool l, .bool o, .int .i64 m, .bool mn, .bool bt, .int .i64 r, tv] 36)).alloc (.cells #[.bool a, .bool b, .bool c, .bool d] 33))) (.cells #[.bool a, .bool b, .bool c, .bool d] 4)) (.cells #[.int .u8 k] 5)))
  have HB := Lib.hid (below_alloc (below_alloc (below_alloc (below_alloc (Below.refl _ w) (.cells #[.bool a, .bool b, .bool c, .bool d, .bool s, .bool l, .bool o, .int .i64 m, .bool mn, .bool bt, .int .i64 r, tv] 36)) (.cells #[.bool a, .bool b, .bool c, .bool d] 33)) (.cells #[.bool a, .bool b, .bool c, .bool d] 4)) (.cells #[.int .u8 k] 5))
  go_enter Tryd.func22, Tryd.ntmps22
  go_wp2_with fail
  (with_reducible refine (HL.out _ _ (by simp)).mono ?_)
  rintro e w1 ⟨rfl, rfl⟩
  clear HL
  go_wp2_with fail
  have c0 := HK.out.cell 0 rfl
  have c1 := HK.out.cell 1 rfl
  have c2 := HK.out.cell 2 rfl
  have c3 := HK.out.cell 3 rfl
  rw [show (w.alloc (.cells #[.bool a, .bool b, .bool c, .bool d, .bool s, .bool l, .bool o, .int .i64 m, .bool mn, .bool bt, .int .i64 r, tv] 36)).heap.size = w.heap.size + 1 by simp] at c0 c1 c2 c3
  generalize (((w.alloc (.cells #[.bool a, .bool b, .bool c, .bool d, .bool s, .bool l, .bool o, .int .i64 m, .bool mn, .bool bt, .int .i64 r, tv] 36)).alloc (.cells #[.bool a, .bool b, .bool c, .bool d] 33)).alloc (.cells #[.bool a, .bool b, .bool c, .bool d] 4)).alloc (.cells #[.int .u8 k] 5) = w2 at *
  have HM := Lib.hid (fun (W : World) (hW : Below w2.heap.size w2 W) => barrier_to true _ _ k (sone_byte hk0 hk1) e0 e1 e2 e3 hi W (HY.out.below hW))
  have HS := Lib.hid (fun (v : Value) (W : World) => (said_to v true W).mono (fun e w' (h : e = .returned (if true then v else .slice none 0 0) ∧ w' = W) => (⟨by first | simpa using h.1 | exact h.1, by rw [h.2]; exact Below.refl _ W⟩ : e = .returned v ∧ Below W.heap.size W w')))
  have hE := eql_bar e0 e1 e2 e3 a b c d true hq.symm
  clear HK hi hq hk0 hk1
  replace c0 := cell_regrown c0
  replace c1 := cell_regrown c1
  replace c2 := cell_regrown c2
  replace c3 := cell_regrown c3
  refine wp_region_quiet_below (by kernel_rfl) (by kernel_rfl) ?_
  repeat (go_big_quiet_step (first | (with_reducible exact Calls.regrown_of (HM.out _ (below_regrown _ _ _))) | (with_reducible exact Calls.regrown_of (HS.out _ _))))
  refine wpQuiet_nil ?_
  intro _ hw'
  obtain ⟨⟨dq, osq⟩, hw''⟩ := hw'
  subst hw''
  clear c0 c1 c2 c3
  go_wp2_with fail
  go_ret
  exact ⟨_, rfl, HY.out.below (below_regrown _ dq osq), by omega, below_call HB.out (below_regrown _ dq osq)⟩
set_option maxHeartbeats 4000000 in
theorem print_bar_no (h : ((a && b) || (c && d)) = true) : Calls Tryd.prog 22 #[.agg #[.bool a, .bool b, .bool c, .bool d, .bool s, .bool l, .bool o, .int .i64 m, .bool mn, .bool bt, .int .i64 r, tv], .int .i64 0] w fun e w' => e = .returned (.slice none 0 0) ∧ Below w.heap.size w w' := by
  have HL := Lib.hid (fun (W : World) (g : Nat) (hg : g = W.heap.size) => lay_to [a, b, c, d] 4 rfl (by omega) g (W.alloc (.cells #[.bool a, .bool b, .bool c, .bool d] 4)) (laid_bools [a, b, c, d] W g hg _ rfl 4))
  have hr := lay1_range [a, b, c, d] (by simp)
  have hi := bar_lay a b c d
  have hq : decide (samB (a && !b) (b && !a) (c && !d) (d && !c) a b c d) = false := by revert h; cases a <;> cases b <;> cases c <;> cases d <;> decide
  obtain ⟨k, hk⟩ : ∃ k, lay1 [a, b, c, d] = k := ⟨_, rfl⟩
  rw [hk] at HL hr hi
  obtain ⟨hk0, hk1⟩ := hr
  replace hk1 : k ≤ 255 := by omega
  obtain ⟨e0, h0⟩ : ∃ e0, (a && !b) = e0 := ⟨_, rfl⟩
  obtain ⟨e1, h1⟩ : ∃ e1, (b && !a) = e1 := ⟨_, rfl⟩
  obtain ⟨e2, h2⟩ : ∃ e2, (c && !d) = e2 := ⟨_, rfl⟩
  obtain ⟨e3, h3⟩ : ∃ e3, (d && !c) = e3 := ⟨_, rfl⟩
  rw [h0, h1, h2, h3] at hi hq
  clear hk h h0 h1 h2 h3
  have HY := Lib.hid (byte_at (((w.alloc (.cells #[.bool a, .bool b, .bool c, .bool d, .bool s, .bool l, .bool o, .int .i64 m, .bool mn, .bool bt, .int .i64 r, tv] 36)).alloc (.cells #[.bool a, .bool b, .bool c, .bool d] 33)).alloc (.cells #[.bool a, .bool b, .bool c, .bool d] 4)) hk0 hk1 (w.heap.size + 1 + 1 + 1) (by simp))
  have HK := Lib.hid ((blk_new (w.alloc (.cells #[.bool a, .bool b, .bool c, .bool d, .bool s, .bool l, .bool o, .int .i64 m, .bool mn, .bool bt, .int .i64 r, tv] 36)) #[.bool a, .bool b, .bool c, .bool d] 33).below (below_alloc (below_alloc (Below.refl _ ((w.alloc (.cells #[.bool a, .bool b, .bool c, .bool d, .bool s, .bool l, .bool o, .int .i64 m, .bool mn, .bool bt, .int .i64 r, tv] 36)).alloc (.cells #[.bool a, .bool b, .bool c, .bool d] 33))) (.cells #[.bool a, .bool b, .bool c, .bool d] 4)) (.cells #[.int .u8 k] 5)))
  have HB := Lib.hid (below_alloc (below_alloc (below_alloc (below_alloc (Below.refl _ w) (.cells #[.bool a, .bool b, .bool c, .bool d, .bool s, .bool l, .bool o, .int .i64 m, .bool mn, .bool bt, .int .i64 r, tv] 36)) (.cells #[.bool a, .bool b, .bool c, .bool d] 33)) (.cells #[.bool a, .bool b, .bool c, .bool d] 4)) (.cells #[.int .u8 k] 5))
  go_enter Tryd.func22, Tryd.ntmps22
  go_wp2_with fail
  (with_reducible refine (HL.out _ _ (by simp)).mono ?_)
  rintro e w1 ⟨rfl, rfl⟩
  clear HL
  go_wp2_with fail
  have c0 := HK.out.cell 0 rfl
  have c1 := HK.out.cell 1 rfl
  have c2 := HK.out.cell 2 rfl
  have c3 := HK.out.cell 3 rfl
  rw [show (w.alloc (.cells #[.bool a, .bool b, .bool c, .bool d, .bool s, .bool l, .bool o, .int .i64 m, .bool mn, .bool bt, .int .i64 r, tv] 36)).heap.size = w.heap.size + 1 by simp] at c0 c1 c2 c3
  generalize (((w.alloc (.cells #[.bool a, .bool b, .bool c, .bool d, .bool s, .bool l, .bool o, .int .i64 m, .bool mn, .bool bt, .int .i64 r, tv] 36)).alloc (.cells #[.bool a, .bool b, .bool c, .bool d] 33)).alloc (.cells #[.bool a, .bool b, .bool c, .bool d] 4)).alloc (.cells #[.int .u8 k] 5) = w2 at *
  have HM := Lib.hid (fun (W : World) (hW : Below w2.heap.size w2 W) => barrier_to true _ _ k (sone_byte hk0 hk1) e0 e1 e2 e3 hi W (HY.out.below hW))
  have HS := Lib.hid (fun (v : Value) (W : World) => (said_to v false W).mono (fun e w' (h : e = .returned (if false then v else .slice none 0 0) ∧ w' = W) => (⟨by first | simpa using h.1 | exact h.1, by rw [h.2]; exact Below.refl _ W⟩ : e = .returned (.slice none 0 0) ∧ Below W.heap.size W w')))
  have hE := eql_bar e0 e1 e2 e3 a b c d false hq.symm
  clear HK hi hq hk0 hk1
  replace c0 := cell_regrown c0
  replace c1 := cell_regrown c1
  replace c2 := cell_regrown c2
  replace c3 := cell_regrown c3
  refine wp_region_quiet_below (by kernel_rfl) (by kernel_rfl) ?_
  repeat (go_big_quiet_step (first | (with_reducible exact Calls.regrown_of (HM.out _ (below_regrown _ _ _))) | (with_reducible exact Calls.regrown_of (HS.out _ _))))
  refine wpQuiet_nil ?_
  intro _ hw'
  obtain ⟨⟨dq, osq⟩, hw''⟩ := hw'
  subst hw''
  clear c0 c1 c2 c3
  go_wp2_with fail
  go_ret
  exact ⟨rfl, below_call HB.out (below_regrown _ dq osq)⟩
end
end Go.Proofs.YtolfdfbhignniaaDoor
/-
  sensor's Print of a track by contracts.
-/
namespace Go.Proofs.YtolfdfbhignniaaDoor
open Go.RowKit

theorem four_at (w : World) {n0 n1 n2 n3 : Int} (h0 : 0 ≤ n0 ∧ n0 ≤ 255) (h1 : 0 ≤ n1 ∧ n1 ≤ 255) (h2 : 0 ≤ n2 ∧ n2 ≤ 255) (h3 : 0 ≤ n3 ∧ n3 ≤ 255) (g : Nat) (hg : g = w.heap.size) : Byts (w.alloc (.cells #[.int .u8 n0, .int .u8 n1, .int .u8 n2, .int .u8 n3] 5)) (.slice (some ⟨g, 0, none⟩) 4 4) [byteOf n0, byteOf n1, byteOf n2, byteOf n3] := by
  subst hg
  exact lit_byts w _ 4 (0, 0) _ (by simp [cel, byteOf_nat h0.1 h0.2, byteOf_nat h1.1 h1.2, byteOf_nat h2.1 h2.2, byteOf_nat h3.1 h3.2]) rfl
/-- Print has told four bytes. -/
def Said4 (w : World) (e : Ending) (w' : World) (xs : List (BitVec 8)) : Prop := ∃ g, e = .returned (.slice (some ⟨g, 0, none⟩) 4 4) ∧ Byts w' (.slice (some ⟨g, 0, none⟩) 4 4) xs ∧ w.heap.size ≤ g ∧ Below w.heap.size w w'
/-- The bytes of what is told of a track. -/
def ctBytes (y : Ct) : List (BitVec 8) := [byteOf (y.i % 256), byteOf (y.o % 256), byteOf (y.cs % 256), byteOf (y.l % 256)]
theorem blk_five {w : World} {g : Nat} {c0 c1 c2 c3 c4 : Value} {T : TypeId} (h : Blk w g #[c0, c1, c2, c3, c4] T) : w.cell? ⟨g, 0, none⟩ = some c0 ∧ w.cell? ⟨g, 1, none⟩ = some c1 ∧ w.cell? ⟨g, 2, none⟩ = some c2 ∧ w.cell? ⟨g, 3, none⟩ = some c3 ∧ w.cell? ⟨g, 4, none⟩ = some c4 := ⟨h.cell 0 rfl, h.cell 1 rfl, h.cell 2 rfl, h.cell 3 rfl, h.cell 4 rfl⟩
section
variable (a b c d s l o : Bool) (m : Int) (mn bt : Bool) (r : Int) (tv : Value) (w : World) (ls : List Ct) (ch : Int) (i : Nat) (y : Ct)
set_option maxHeartbeats 8000000 in
theorem print_track_yes (hv : Els RCt 5 w tv ls) (hch : ch = 8 + (i : Int)) (hi : i < 1000) (hy : ls[i]? = some y) (h :  (cntOf true (ctBytes y) = y)) : Calls Tryd.prog 22 #[.agg #[.bool a, .bool b, .bool c, .bool d, .bool s, .bool l, .bool o, .int .i64 m, .bool mn, .bool bt, .int .i64 r, tv], .int .i64 ch] w fun e w' => Said4 w e w' (ctBytes y) := by
  obtain ⟨fr, ci, co, cs, li⟩ := y
  obtain ⟨n, hn⟩ : ∃ n, n = ls.length := ⟨_, rfl⟩
  have hin : i < n := by rw [hn]; exact (List.getElem?_eq_some_iff.1 hy).1
  obtain ⟨ta, tc, et⟩ := hv.len
  rw [← hn] at et
  subst et
  obtain ⟨g, p, rfl, hR⟩ := hv.at_ hy
  obtain ⟨x0, hx0⟩ : ∃ x0, ci % 256 = x0 := ⟨_, rfl⟩
  obtain ⟨x1, hx1⟩ : ∃ x1, co % 256 = x1 := ⟨_, rfl⟩
  obtain ⟨x2, hx2⟩ : ∃ x2, cs % 256 = x2 := ⟨_, rfl⟩
  obtain ⟨x3, hx3⟩ : ∃ x3, li % 256 = x3 := ⟨_, rfl⟩
  have r0 : 0 ≤ x0 ∧ x0 ≤ 255 := by omega
  have r1 : 0 ≤ x1 ∧ x1 ≤ 255 := by omega
  have r2 : 0 ≤ x2 ∧ x2 ≤ 255 := by omega
  have r3 : 0 ≤ x3 ∧ x3 ≤ 255 := by omega
  have eb : ctBytes ⟨fr, ci, co, cs, li⟩ = [byteOf x0, byteOf x1, byteOf x2, byteOf x3] := by unfold ctBytes; rw [hx0, hx1, hx2, hx3]
  rw [eb] at h ⊢
  obtain ⟨⟨f', i', o', c', l'⟩, hz⟩ : ∃ z, cntOf true [byteOf x0, byteOf x1, byteOf x2, byteOf x3] = z := ⟨_, rfl⟩
  have hq : decide (samC f' i' o' c' l' fr ci co cs li) = true := by
    rw [hz] at h
    cases h
    simp
  obtain ⟨c0, c1, c2, c3, c4⟩ := hR.below (below_alloc (Below.refl _ w) (.cells #[.bool a, .bool b, .bool c, .bool d, .bool s, .bool l, .bool o, .int .i64 m, .bool mn, .bool bt, .int .i64 r, .slice (some ⟨g, p, none⟩) n tc] 36))
  have HY := Lib.hid (four_at ((w.alloc (.cells #[.bool a, .bool b, .bool c, .bool d, .bool s, .bool l, .bool o, .int .i64 m, .bool mn, .bool bt, .int .i64 r, .slice (some ⟨g, p, none⟩) n tc] 36)).alloc (.cells #[.bool fr, .int .i64 ci, .int .i64 co, .int .i64 cs, .int .i64 li] 48)) r0 r1 r2 r3 (w.heap.size + 1 + 1) (by simp))
  have HK := Lib.hid ((blk_new (w.alloc (.cells #[.bool a, .bool b, .bool c, .bool d, .bool s, .bool l, .bool o, .int .i64 m, .bool mn, .bool bt, .int .i64 r, .slice (some ⟨g, p, none⟩) n tc] 36)) #[.bool fr, .int .i64 ci, .int .i64 co, .int .i64 cs, .int .i64 li] 48).below (below_alloc (Below.refl _ ((w.alloc (.cells #[.bool a, .bool b, .bool c, .bool d, .bool s, .bool l, .bool o, .int .i64 m, .bool mn, .bool bt, .int .i64 r, .slice (some ⟨g, p, none⟩) n tc] 36)).alloc (.cells #[.bool fr, .int .i64 ci, .int .i64 co, .int .i64 cs, .int .i64 li] 48))) (.cells #[.int .u8 x0, .int .u8 x1, .int .u8 x2, .int .u8 x3] 5)))
  have HB := Lib.hid (below_alloc (below_alloc (below_alloc (Below.refl _ w) (.cells #[.bool a, .bool b, .bool c, .bool d, .bool s, .bool l, .bool o, .int .i64 m, .bool mn, .bool bt, .int .i64 r, .slice (some ⟨g, p, none⟩) n tc] 36)) (.cells #[.bool fr, .int .i64 ci, .int .i64 co, .int .i64 cs, .int .i64 li] 48)) (.cells #[.int .u8 x0, .int .u8 x1, .int .u8 x2, .int .u8 x3] 5))
  clear h eb r0 r1 r2 r3 hv hR hy hn
  have q0 : (ch == 0) = false := by simp; omega
  have q1 : (ch == 1) = false := by simp; omega
  have q2 : (ch == 2) = false := by simp; omega
  have q3 : (ch == 3) = false := by simp; omega
  have q4 : (ch == 4) = false := by simp; omega
  have q5 : (ch == 5) = false := by simp; omega
  have q6 : ¬ ch < 8 := by omega
  have q7 : IntKind.i64.wrap (ch - 8) = (i : Int) := by rw [IntKind.wrap_i64]; omega
  have q8 : ¬ (n : Int) ≤ (i : Int) := by omega
  clear hch hi
  go_enter Tryd.func22, Tryd.ntmps22
  go_wp2_with fail
  clear c0 c1 c2 c3 c4 q0 q1 q2 q3 q4 q5 q6 q7 q8
  obtain ⟨c0, c1, c2, c3, c4⟩ := blk_five HK.out
  rw [show (w.alloc (.cells #[.bool a, .bool b, .bool c, .bool d, .bool s, .bool l, .bool o, .int .i64 m, .bool mn, .bool bt, .int .i64 r, .slice (some ⟨g, p, none⟩) n tc] 36)).heap.size = w.heap.size + 1 by simp] at c0 c1 c2 c3 c4
  generalize ((w.alloc (.cells #[.bool a, .bool b, .bool c, .bool d, .bool s, .bool l, .bool o, .int .i64 m, .bool mn, .bool bt, .int .i64 r, .slice (some ⟨g, p, none⟩) n tc] 36)).alloc (.cells #[.bool fr, .int .i64 ci, .int .i64 co, .int .i64 cs, .int .i64 li] 48)).alloc (.cells #[.int .u8 x0, .int .u8 x1, .int .u8 x2, .int .u8 x3] 5) = w2 at *
  have HM := Lib.hid (fun (W : World) (hW : Below w2.heap.size w2 W) => counts_to true _ _ ⟨f', i', o', c', l'⟩ hz W (HY.out.below hW))
  have HS := Lib.hid (fun (v : Value) (W : World) => (said_to v true W).mono (fun e w' (h : e = .returned (if true then v else .slice none 0 0) ∧ w' = W) => (⟨by first | simpa using h.1 | exact h.1, by rw [h.2]; exact Below.refl _ W⟩ : e = .returned v ∧ Below W.heap.size W w')))
  have hE := eql_cnt f' i' o' c' l' fr ci co cs li true hq.symm
  clear HK hq hz
  dsimp only at HM
  replace c0 := cell_regrown c0
  replace c1 := cell_regrown c1
  replace c2 := cell_regrown c2
  replace c3 := cell_regrown c3
  replace c4 := cell_regrown c4
  refine wp_region_quiet_below (by kernel_rfl) (by kernel_rfl) ?_
  repeat (go_big_quiet_step (first | (with_reducible exact Calls.regrown_of (HM.out _ (below_regrown _ _ _))) | (with_reducible exact Calls.regrown_of (HS.out _ _))))
  refine wpQuiet_nil ?_
  intro _ hw'
  obtain ⟨⟨dq, osq⟩, hw''⟩ := hw'
  subst hw''
  clear c0 c1 c2 c3 c4
  go_wp2_with fail
  go_ret
  exact ⟨_, rfl, HY.out.below (below_regrown _ dq osq), by omega, below_call HB.out (below_regrown _ dq osq)⟩
set_option maxHeartbeats 8000000 in
theorem print_track_no (hv : Els RCt 5 w tv ls) (hch : ch = 8 + (i : Int)) (hi : i < 1000) (hy : ls[i]? = some y) (h : ¬ (cntOf true (ctBytes y) = y)) : Calls Tryd.prog 22 #[.agg #[.bool a, .bool b, .bool c, .bool d, .bool s, .bool l, .bool o, .int .i64 m, .bool mn, .bool bt, .int .i64 r, tv], .int .i64 ch] w fun e w' => e = .returned (.slice none 0 0) ∧ Below w.heap.size w w' := by
  obtain ⟨fr, ci, co, cs, li⟩ := y
  obtain ⟨n, hn⟩ : ∃ n, n = ls.length := ⟨_, rfl⟩
  have hin : i < n := by rw [hn]; exact (List.getElem?_eq_some_iff.1 hy).1
  obtain ⟨ta, tc, et⟩ := hv.len
  rw [← hn] at et
  subst et
  obtain ⟨g, p, rfl, hR⟩ := hv.at_ hy
  obtain ⟨x0, hx0⟩ : ∃ x0, ci % 256 = x0 := ⟨_, rfl⟩
  obtain ⟨x1, hx1⟩ : ∃ x1, co % 256 = x1 := ⟨_, rfl⟩
  obtain ⟨x2, hx2⟩ : ∃ x2, cs % 256 = x2 := ⟨_, rfl⟩
  obtain ⟨x3, hx3⟩ : ∃ x3, li % 256 = x3 := ⟨_, rfl⟩
  have r0 : 0 ≤ x0 ∧ x0 ≤ 255 := by omega
  have r1 : 0 ≤ x1 ∧ x1 ≤ 255 := by omega
  have r2 : 0 ≤ x2 ∧ x2 ≤ 255 := by omega
  have r3 : 0 ≤ x3 ∧ x3 ≤ 255 := by omega
  have eb : ctBytes ⟨fr, ci, co, cs, li⟩ = [byteOf x0, byteOf x1, byteOf x2, byteOf x3] := by unfold ctBytes; rw [hx0, hx1, hx2, hx3]
  rw [eb] at h
  obtain ⟨⟨f', i', o', c', l'⟩, hz⟩ : ∃ z, cntOf true [byteOf x0, byteOf x1, byteOf x2, byteOf x3] = z := ⟨_, rfl⟩
  have hq : decide (samC f' i' o' c' l' fr ci co cs li) = false := by
    rw [hz] at h
    rw [decide_eq_false_iff_not]
    rintro ⟨rfl, rfl, rfl, rfl, rfl⟩
    exact h rfl
  obtain ⟨c0, c1, c2, c3, c4⟩ := hR.below (below_alloc (Below.refl _ w) (.cells #[.bool a, .bool b, .bool c, .bool d, .bool s, .bool l, .bool o, .int .i64 m, .bool mn, .bool bt, .int .i64 r, .slice (some ⟨g, p, none⟩) n tc] 36))
  have HY := Lib.hid (four_at ((w.alloc (.cells #[.bool a, .bool b, .bool c, .bool d, .bool s, .bool l, .bool o, .int .i64 m, .bool mn, .bool bt, .int .i64 r, .slice (some ⟨g, p, none⟩) n tc] 36)).alloc (.cells #[.bool fr, .int .i64 ci, .int .i64 co, .int .i64 cs, .int .i64 li] 48)) r0 r1 r2 r3 (w.heap.size + 1 + 1) (by simp))
  have HK := Lib.hid ((blk_new (w.alloc (.cells #[.bool a, .bool b, .bool c, .bool d, .bool s, .bool l, .bool o, .int .i64 m, .bool mn, .bool bt, .int .i64 r, .slice (some ⟨g, p, none⟩) n tc] 36)) #[.bool fr, .int .i64 ci, .int .i64 co, .int .i64 cs, .int .i64 li] 48).below (below_alloc (Below.refl _ ((w.alloc (.cells #[.bool a, .bool b, .bool c, .bool d, .bool s, .bool l, .bool o, .int .i64 m, .bool mn, .bool bt, .int .i64 r, .slice (some ⟨g, p, none⟩) n tc] 36)).alloc (.cells #[.bool fr, .int .i64 ci, .int .i64 co, .int .i64 cs, .int .i64 li] 48))) (.cells #[.int .u8 x0, .int .u8 x1, .int .u8 x2, .int .u8 x3] 5)))
  have HB := Lib.hid (below_alloc (below_alloc (below_alloc (Below.refl _ w) (.cells #[.bool a, .bool b, .bool c, .bool d, .bool s, .bool l, .bool o, .int .i64 m, .bool mn, .bool bt, .int .i64 r, .slice (some ⟨g, p, none⟩) n tc] 36)) (.cells #[.bool fr, .int .i64 ci, .int .i64 co, .int .i64 cs, .int .i64 li] 48)) (.cells #[.int .u8 x0, .int .u8 x1, .int .u8 x2, .int .u8 x3] 5))
  clear h eb r0 r1 r2 r3 hv hR hy hn
  have q0 : (ch == 0) = false := by simp; omega
  have q1 : (ch == 1) = false := by simp; omega
  have q2 : (ch == 2) = false := by simp; omega
  have q3 : (ch == 3) = false := by simp; omega
  have q4 : (ch == 4) = false := by simp; omega
  have q5 : (ch == 5) = false := by simp; omega
  have q6 : ¬ ch < 8 := by omega
  have q7 : IntKind.i64.wrap (ch - 8) = (i : Int) := by rw [IntKind.wrap_i64]; omega
  have q8 : ¬ (n : Int) ≤ (i : Int) := by omega
  clear hch hi
  go_enter Tryd.func22, Tryd.ntmps22
  go_wp2_with fail
  clear c0 c1 c2 c3 c4 q0 q1 q2 q3 q4 q5 q6 q7 q8
  obtain ⟨c0, c1, c2, c3, c4⟩ := blk_five HK.out
  rw [show (w.alloc (.cells #[.bool a, .bool b, .bool c, .bool d, .bool s, .bool l, .bool o, .int .i64 m, .bool mn, .bool bt, .int .i64 r, .slice (some ⟨g, p, none⟩) n tc] 36)).heap.size = w.heap.size + 1 by simp] at c0 c1 c2 c3 c4
  generalize ((w.alloc (.cells #[.bool a, .bool b, .bool c, .bool d, .bool s, .bool l, .bool o, .int .i64 m, .bool mn, .bool bt, .int .i64 r, .slice (some ⟨g, p, none⟩) n tc] 36)).alloc (.cells #[.bool fr, .int .i64 ci, .int .i64 co, .int .i64 cs, .int .i64 li] 48)).alloc (.cells #[.int .u8 x0, .int .u8 x1, .int .u8 x2, .int .u8 x3] 5) = w2 at *
  have HM := Lib.hid (fun (W : World) (hW : Below w2.heap.size w2 W) => counts_to true _ _ ⟨f', i', o', c', l'⟩ hz W (HY.out.below hW))
  have HS := Lib.hid (fun (v : Value) (W : World) => (said_to v false W).mono (fun e w' (h : e = .returned (if false then v else .slice none 0 0) ∧ w' = W) => (⟨by first | simpa using h.1 | exact h.1, by rw [h.2]; exact Below.refl _ W⟩ : e = .returned (.slice none 0 0) ∧ Below W.heap.size W w')))
  have hE := eql_cnt f' i' o' c' l' fr ci co cs li false hq.symm
  clear HK hq hz
  dsimp only at HM
  replace c0 := cell_regrown c0
  replace c1 := cell_regrown c1
  replace c2 := cell_regrown c2
  replace c3 := cell_regrown c3
  replace c4 := cell_regrown c4
  refine wp_region_quiet_below (by kernel_rfl) (by kernel_rfl) ?_
  repeat (go_big_quiet_step (first | (with_reducible exact Calls.regrown_of (HM.out _ (below_regrown _ _ _))) | (with_reducible exact Calls.regrown_of (HS.out _ _))))
  refine wpQuiet_nil ?_
  intro _ hw'
  obtain ⟨⟨dq, osq⟩, hw''⟩ := hw'
  subst hw''
  clear c0 c1 c2 c3 c4
  go_wp2_with fail
  go_ret
  exact ⟨rfl, below_call HB.out (below_regrown _ dq osq)⟩
end
end Go.Proofs.YtolfdfbhignniaaDoor
