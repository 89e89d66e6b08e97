/-
  sensor's Print by contracts: the channels that are no track's.
-/
import Derived.Test.YtnbhjnbdnngiiaaSnLay
import Derived.Test.YtnbhjnbdnngiiaaSnBar
import Derived.Test.YtnbhjnbdnngiiaaSnEq
import Derived.BigQuiet
import Derived.Lib.QuietBelow
namespace Go.Proofs.Ytnbhjnbdnngiiaa
open Go.RowKit

theorem laid_bools (bs : List Bool) (W : World) (g : Nat) (hg : g = W.heap.size) (C : Array Value) (hC : C = (bs.map Value.bool).toArray) (T : TypeId) : ∀ (j : Nat) b, bs[j]? = some b → (W.alloc (.cells C T)).cell? ⟨g, j, none⟩ = some (.bool b) := by
  intro j b hb
  subst hg hC
  exact (blk_new W _ T).cell j (by simp [hb])
/-- Print has told one byte. -/
def Said1 (w : World) (e : Ending) (w' : World) (x : BitVec 8) : Prop := ∃ g, e = .returned (.slice (some ⟨g, 0, none⟩) 1 1) ∧ Byts w' (.slice (some ⟨g, 0, none⟩) 1 1) [x] ∧ w.heap.size ≤ g ∧ Below w.heap.size w w'
theorem bar_lay (a b c d : Bool) : barIs (lay1 [a, b, c, d]) (a && !b) (b && !a) (c && !d) (d && !c) := by
  cases a <;> cases b <;> cases c <;> cases d <;> exact ⟨by decide, by decide, by decide, by decide⟩
section
variable (a b c d s l o : Bool) (m : Int) (mn bt : Bool) (r : Int) (tv : Value) (w : World)
set_option maxHeartbeats 4000000 in
theorem print_lamps : Calls Try.prog 23 #[.agg #[.bool a, .bool b, .bool c, .bool d, .bool s, .bool l, .bool o, .int .i64 m, .bool mn, .bool bt, .int .i64 r, tv], .int .i64 1] w fun e w' => Said1 w e w' (byteOf (lay1 [l])) := by
  have HL := Lib.hid (fun (W : World) (g : Nat) (hg : g = W.heap.size) => lay_to [l] 1 rfl (by omega) g (W.alloc (.cells #[.bool l] 4)) (laid_bools [l] W g hg _ rfl 4))
  have hr := lay1_range [l] (by simp)
  go_enter Try.func23, Try.ntmps23
  go_wp2_with fail
  (with_reducible refine (HL.out _ _ (by simp)).mono ?_)
  rintro e w1 ⟨rfl, rfl⟩
  go_wp2_with fail
  go_ret
  exact ⟨_, rfl, byte_at _ hr.1 (by omega) _ (by simp), by omega, below_alloc (below_alloc (below_alloc (Below.refl _ w) _) _) _⟩
set_option maxHeartbeats 4000000 in
theorem print_obst : Calls Try.prog 23 #[.agg #[.bool a, .bool b, .bool c, .bool d, .bool s, .bool l, .bool o, .int .i64 m, .bool mn, .bool bt, .int .i64 r, tv], .int .i64 2] w fun e w' => Said1 w e w' (byteOf (lay1 [o])) := by
  have HL := Lib.hid (fun (W : World) (g : Nat) (hg : g = W.heap.size) => lay_to [o] 1 rfl (by omega) g (W.alloc (.cells #[.bool o] 4)) (laid_bools [o] W g hg _ rfl 4))
  have hr := lay1_range [o] (by simp)
  go_enter Try.func23, Try.ntmps23
  go_wp2_with fail
  (with_reducible refine (HL.out _ _ (by simp)).mono ?_)
  rintro e w1 ⟨rfl, rfl⟩
  go_wp2_with fail
  go_ret
  exact ⟨_, rfl, byte_at _ hr.1 (by omega) _ (by simp), by omega, below_alloc (below_alloc (below_alloc (Below.refl _ w) _) _) _⟩
set_option maxHeartbeats 4000000 in
theorem print_power : Calls Try.prog 23 #[.agg #[.bool a, .bool b, .bool c, .bool d, .bool s, .bool l, .bool o, .int .i64 m, .bool mn, .bool bt, .int .i64 r, tv], .int .i64 4] w fun e w' => Said1 w e w' (byteOf (lay1 [mn, bt])) := by
  have HL := Lib.hid (fun (W : World) (g : Nat) (hg : g = W.heap.size) => lay_to [mn, bt] 2 rfl (by omega) g (W.alloc (.cells #[.bool mn, .bool bt] 4)) (laid_bools [mn, bt] W g hg _ rfl 4))
  have hr := lay1_range [mn, bt] (by simp)
  go_enter Try.func23, Try.ntmps23
  go_wp2_with fail
  (with_reducible refine (HL.out _ _ (by simp)).mono ?_)
  rintro e w1 ⟨rfl, rfl⟩
  go_wp2_with fail
  go_ret
  exact ⟨_, rfl, byte_at _ hr.1 (by omega) _ (by simp), by omega, below_alloc (below_alloc (below_alloc (Below.refl _ w) _) _) _⟩
set_option maxHeartbeats 4000000 in
theorem print_mode_yes (h : (0 ≤ m ∧ m < 3)) : Calls Try.prog 23 #[.agg #[.bool a, .bool b, .bool c, .bool d, .bool s, .bool l, .bool o, .int .i64 m, .bool mn, .bool bt, .int .i64 r, tv], .int .i64 3] w fun e w' => Said1 w e w' (byteOf m) := by
  obtain ⟨k, hk⟩ : ∃ k, m % 256 = k := ⟨_, rfl⟩
  have hk0 : 0 ≤ k := by omega
  have hk1 : k ≤ 255 := by omega
  obtain ⟨n, hn⟩ : ∃ n, (if 0 ≤ k ∧ k < 3 then k else 1) = n := ⟨_, rfl⟩
  have hq : (n == m) = true := by rw [← hn, if_pos (by omega)]; simp; omega
  have HX := Lib.hid (show m = k by omega)
  have HY := Lib.hid (byte_at (w.alloc (.cells #[.bool a, .bool b, .bool c, .bool d, .bool s, .bool l, .bool o, .int .i64 m, .bool mn, .bool bt, .int .i64 r, tv] 38)) hk0 hk1 (w.heap.size + 1) (by simp))
  have HK := Lib.hid ((blk_new w #[.bool a, .bool b, .bool c, .bool d, .bool s, .bool l, .bool o, .int .i64 m, .bool mn, .bool bt, .int .i64 r, tv] 38).below (below_alloc (Below.refl _ (w.alloc (.cells #[.bool a, .bool b, .bool c, .bool d, .bool s, .bool l, .bool o, .int .i64 m, .bool mn, .bool bt, .int .i64 r, tv] 38))) (.cells #[.int .u8 k] 5)))
  have HB := Lib.hid (below_alloc (below_alloc (Below.refl _ w) (.cells #[.bool a, .bool b, .bool c, .bool d, .bool s, .bool l, .bool o, .int .i64 m, .bool mn, .bool bt, .int .i64 r, tv] 38)) (.cells #[.int .u8 k] 5))
  clear h
  go_enter Try.func23, Try.ntmps23
  go_wp2_with fail
  have c0 := HK.out.cell 7 rfl
  generalize (w.alloc (.cells #[.bool a, .bool b, .bool c, .bool d, .bool s, .bool l, .bool o, .int .i64 m, .bool mn, .bool bt, .int .i64 r, tv] 38)).alloc (.cells #[.int .u8 k] 5) = w2 at *
  have HM := Lib.hid (fun (W : World) (hW : Below w2.heap.size w2 W) => (mode_to true _ _ k (sone_byte hk0 hk1) W n hn (HY.out.below hW)).mono (fun e w' (h : e = .returned (.int .i64 n) ∧ w' = W) => (⟨h.1, by rw [h.2]; exact Below.refl _ W⟩ : e = .returned (.int .i64 n) ∧ Below W.heap.size W w')))
  have HS := Lib.hid (fun (v : Value) (W : World) => (said_to v true W).mono (fun e w' (h : e = .returned (if true then v else .slice none 0 0) ∧ w' = W) => (⟨by first | simpa using h.1 | exact h.1, by rw [h.2]; exact Below.refl _ W⟩ : e = .returned v ∧ Below W.heap.size W w')))
  clear HK
  replace c0 := cell_regrown c0
  refine wp_region_quiet_below (by kernel_rfl) (by kernel_rfl) ?_
  repeat (go_big_quiet_step (first | (with_reducible exact Calls.regrown_of (HM.out _ (below_regrown _ _ _))) | (with_reducible exact Calls.regrown_of (HS.out _ _))))
  refine wpQuiet_nil ?_
  intro _ hw'
  obtain ⟨⟨dq, osq⟩, hw''⟩ := hw'
  subst hw''
  clear c0
  go_wp2_with fail
  go_ret
  exact ⟨_, rfl, by rw [HX.out]; exact HY.out.below (below_regrown _ dq osq), by omega, below_call HB.out (below_regrown _ dq osq)⟩
set_option maxHeartbeats 4000000 in
theorem print_routes_yes (h : (0 ≤ r ∧ r < 256)) : Calls Try.prog 23 #[.agg #[.bool a, .bool b, .bool c, .bool d, .bool s, .bool l, .bool o, .int .i64 m, .bool mn, .bool bt, .int .i64 r, tv], .int .i64 5] w fun e w' => Said1 w e w' (byteOf r) := by
  obtain ⟨k, hk⟩ : ∃ k, r % 256 = k := ⟨_, rfl⟩
  have hk0 : 0 ≤ k := by omega
  have hk1 : k ≤ 255 := by omega
  obtain ⟨n, hn⟩ : ∃ n, onl k 256 = n := ⟨_, rfl⟩
  have hq : (n == r) = true := by rw [← hn]; unfold onl; rw [if_pos (by omega)]; simp; omega
  have HX := Lib.hid (show r = k by omega)
  have HY := Lib.hid (byte_at (w.alloc (.cells #[.bool a, .bool b, .bool c, .bool d, .bool s, .bool l, .bool o, .int .i64 m, .bool mn, .bool bt, .int .i64 r, tv] 38)) hk0 hk1 (w.heap.size + 1) (by simp))
  have HK := Lib.hid ((blk_new w #[.bool a, .bool b, .bool c, .bool d, .bool s, .bool l, .bool o, .int .i64 m, .bool mn, .bool bt, .int .i64 r, tv] 38).below (below_alloc (Below.refl _ (w.alloc (.cells #[.bool a, .bool b, .bool c, .bool d, .bool s, .bool l, .bool o, .int .i64 m, .bool mn, .bool bt, .int .i64 r, tv] 38))) (.cells #[.int .u8 k] 5)))
  have HB := Lib.hid (below_alloc (below_alloc (Below.refl _ w) (.cells #[.bool a, .bool b, .bool c, .bool d, .bool s, .bool l, .bool o, .int .i64 m, .bool mn, .bool bt, .int .i64 r, tv] 38)) (.cells #[.int .u8 k] 5))
  clear h
  go_enter Try.func23, Try.ntmps23
  go_wp2_with fail
  have c0 := HK.out.cell 10 rfl
  generalize (w.alloc (.cells #[.bool a, .bool b, .bool c, .bool d, .bool s, .bool l, .bool o, .int .i64 m, .bool mn, .bool bt, .int .i64 r, tv] 38)).alloc (.cells #[.int .u8 k] 5) = w2 at *
  have HM := Lib.hid (fun (W : World) (hW : Below w2.heap.size w2 W) => (routes_to true _ _ k (sone_byte hk0 hk1) W 8 256 n (by decide) hn (HY.out.below hW)).mono (fun e w' (h : e = .returned (.int .i64 n) ∧ w' = W) => (⟨h.1, by rw [h.2]; exact Below.refl _ W⟩ : e = .returned (.int .i64 n) ∧ Below W.heap.size W w')))
  have HS := Lib.hid (fun (v : Value) (W : World) => (said_to v true W).mono (fun e w' (h : e = .returned (if true then v else .slice none 0 0) ∧ w' = W) => (⟨by first | simpa using h.1 | exact h.1, by rw [h.2]; exact Below.refl _ W⟩ : e = .returned v ∧ Below W.heap.size W w')))
  clear HK
  replace c0 := cell_regrown c0
  refine wp_region_quiet_below (by kernel_rfl) (by kernel_rfl) ?_
  repeat (go_big_quiet_step (first | (with_reducible exact Calls.regrown_of (HM.out _ (below_regrown _ _ _))) | (with_reducible exact Calls.regrown_of (HS.out _ _))))
  refine wpQuiet_nil ?_
  intro _ hw'
  obtain ⟨⟨dq, osq⟩, hw''⟩ := hw'
  subst hw''
  clear c0
  go_wp2_with fail
  go_ret
  exact ⟨_, rfl, by rw [HX.out]; exact HY.out.below (below_regrown _ dq osq), by omega, below_call HB.out (below_regrown _ dq osq)⟩
set_option maxHeartbeats 4000000 in
theorem print_mode_no (h : ¬ (0 ≤ m ∧ m < 3)) : Calls Try.prog 23 #[.agg #[.bool a, .bool b, .bool c, .bool d, .bool s, .bool l, .bool o, .int .i64 m, .bool mn, .bool bt, .int .i64 r, tv], .int .i64 3] w fun e w' => e = .returned (.slice none 0 0) ∧ Below w.heap.size w w' := by
  obtain ⟨k, hk⟩ : ∃ k, m % 256 = k := ⟨_, rfl⟩
  have hk0 : 0 ≤ k := by omega
  have hk1 : k ≤ 255 := by omega
  obtain ⟨n, hn⟩ : ∃ n, (if 0 ≤ k ∧ k < 3 then k else 1) = n := ⟨_, rfl⟩
  have hq : (n == m) = false := by rw [← hn]; split <;> simp <;> omega
  have HY := Lib.hid (byte_at (w.alloc (.cells #[.bool a, .bool b, .bool c, .bool d, .bool s, .bool l, .bool o, .int .i64 m, .bool mn, .bool bt, .int .i64 r, tv] 38)) hk0 hk1 (w.heap.size + 1) (by simp))
  have HK := Lib.hid ((blk_new w #[.bool a, .bool b, .bool c, .bool d, .bool s, .bool l, .bool o, .int .i64 m, .bool mn, .bool bt, .int .i64 r, tv] 38).below (below_alloc (Below.refl _ (w.alloc (.cells #[.bool a, .bool b, .bool c, .bool d, .bool s, .bool l, .bool o, .int .i64 m, .bool mn, .bool bt, .int .i64 r, tv] 38))) (.cells #[.int .u8 k] 5)))
  have HB := Lib.hid (below_alloc (below_alloc (Below.refl _ w) (.cells #[.bool a, .bool b, .bool c, .bool d, .bool s, .bool l, .bool o, .int .i64 m, .bool mn, .bool bt, .int .i64 r, tv] 38)) (.cells #[.int .u8 k] 5))
  clear h
  go_enter Try.func23, Try.ntmps23
  go_wp2_with fail
  have c0 := HK.out.cell 7 rfl
  generalize (w.alloc (.cells #[.bool a, .bool b, .bool c, .bool d, .bool s, .bool l, .bool o, .int .i64 m, .bool mn, .bool bt, .int .i64 r, tv] 38)).alloc (.cells #[.int .u8 k] 5) = w2 at *
  have HM := Lib.hid (fun (W : World) (hW : Below w2.heap.size w2 W) => (mode_to true _ _ k (sone_byte hk0 hk1) W n hn (HY.out.below hW)).mono (fun e w' (h : e = .returned (.int .i64 n) ∧ w' = W) => (⟨h.1, by rw [h.2]; exact Below.refl _ W⟩ : e = .returned (.int .i64 n) ∧ Below W.heap.size W w')))
  have HS := Lib.hid (fun (v : Value) (W : World) => (said_to v false W).mono (fun e w' (h : e = .returned (if false then v else .slice none 0 0) ∧ w' = W) => (⟨by first | simpa using h.1 | exact h.1, by rw [h.2]; exact Below.refl _ W⟩ : e = .returned (.slice none 0 0) ∧ Below W.heap.size W w')))
  clear HK
  replace c0 := cell_regrown c0
  refine wp_region_quiet_below (by kernel_rfl) (by kernel_rfl) ?_
  repeat (go_big_quiet_step (first | (with_reducible exact Calls.regrown_of (HM.out _ (below_regrown _ _ _))) | (with_reducible exact Calls.regrown_of (HS.out _ _))))
  refine wpQuiet_nil ?_
  intro _ hw'
  obtain ⟨⟨dq, osq⟩, hw''⟩ := hw'
  subst hw''
  clear c0
  go_wp2_with fail
  go_ret
  exact ⟨rfl, below_call HB.out (below_regrown _ dq osq)⟩
set_option maxHeartbeats 4000000 in
theorem print_routes_no (h : ¬ (0 ≤ r ∧ r < 256)) : Calls Try.prog 23 #[.agg #[.bool a, .bool b, .bool c, .bool d, .bool s, .bool l, .bool o, .int .i64 m, .bool mn, .bool bt, .int .i64 r, tv], .int .i64 5] w fun e w' => e = .returned (.slice none 0 0) ∧ Below w.heap.size w w' := by
  obtain ⟨k, hk⟩ : ∃ k, r % 256 = k := ⟨_, rfl⟩
  have hk0 : 0 ≤ k := by omega
  have hk1 : k ≤ 255 := by omega
  obtain ⟨n, hn⟩ : ∃ n, onl k 256 = n := ⟨_, rfl⟩
  have hq : (n == r) = false := by rw [← hn]; unfold onl; split <;> simp <;> omega
  have HY := Lib.hid (byte_at (w.alloc (.cells #[.bool a, .bool b, .bool c, .bool d, .bool s, .bool l, .bool o, .int .i64 m, .bool mn, .bool bt, .int .i64 r, tv] 38)) hk0 hk1 (w.heap.size + 1) (by simp))
  have HK := Lib.hid ((blk_new w #[.bool a, .bool b, .bool c, .bool d, .bool s, .bool l, .bool o, .int .i64 m, .bool mn, .bool bt, .int .i64 r, tv] 38).below (below_alloc (Below.refl _ (w.alloc (.cells #[.bool a, .bool b, .bool c, .bool d, .bool s, .bool l, .bool o, .int .i64 m, .bool mn, .bool bt, .int .i64 r, tv] 38))) (.cells #[.int .u8 k] 5)))
  have HB := Lib.hid (below_alloc (below_alloc (Below.refl _ w) (.cells #[.bool a, .bool b, .bool c, .bool d, .bool s, .bool l, .bool o, .int .i64 m, .bool mn, .bool bt, .int .i64 r, tv] 38)) (.cells #[.int .u8 k] 5))
  clear h
  go_enter Try.func23, Try.ntmps23
  go_wp2_with fail
  have c0 := HK.out.cell 10 rfl
  generalize (w.alloc (.cells #[.bool a, .bool b, .bool c, .bool d, .bool s, .bool l, .bool o, .int .i64 m, .bool mn, .bool bt, .int .i64 r, tv] 38)).alloc (.cells #[.int .u8 k] 5) = w2 at *
  have HM := Lib.hid (fun (W : World) (hW : Below w2.heap.size w2 W) => (routes_to true _ _ k (sone_byte hk0 hk1) W 8 256 n (by decide) hn (HY.out.below hW)).mono (fun e w' (h : e = .returned (.int .i64 n) ∧ w' = W) => (⟨h.1, by rw [h.2]; exact Below.refl _ W⟩ : e = .returned (.int .i64 n) ∧ Below W.heap.size W w')))
  have HS := Lib.hid (fun (v : Value) (W : World) => (said_to v false W).mono (fun e w' (h : e = .returned (if false then v else .slice none 0 0) ∧ w' = W) => (⟨by first | simpa using h.1 | exact h.1, by rw [h.2]; exact Below.refl _ W⟩ : e = .returned (.slice none 0 0) ∧ Below W.heap.size W w')))
  clear HK
  replace c0 := cell_regrown c0
  refine wp_region_quiet_below (by kernel_rfl) (by kernel_rfl) ?_
  repeat (go_big_quiet_step (first | (with_reducible exact Calls.regrown_of (HM.out _ (below_regrown _ _ _))) | (with_reducible exact Calls.regrown_of (HS.out _ _))))
  refine wpQuiet_nil ?_
  intro _ hw'
  obtain ⟨⟨dq, osq⟩, hw''⟩ := hw'
  subst hw''
  clear c0
  go_wp2_with fail
  go_ret
  exact ⟨rfl, below_call HB.out (below_regrown _ dq osq)⟩
set_option maxHeartbeats 4000000 in
theorem print_bar_yes (h : ((a && b) || (c && d)) = false) : Calls Try.prog 23 #[.agg #[.bool a, .bool b, .bool c, .bool d, .bool s, .bool l, .bool o, .int .i64 m, .bool mn, .bool bt, .int .i64 r, tv], .int .i64 0] w fun e w' => Said1 w e w' (byteOf (lay1 [a, b, c, d])) := by
  have HL := Lib.hid (fun (W : World) (g : Nat) (hg : g = W.heap.size) => lay_to [a, b, c, d] 4 rfl (by omega) g (W.alloc (.cells #[.bool a, .bool b, .bool c, .bool d] 4)) (laid_bools [a, b, c, d] W g hg _ rfl 4))
  have hr := lay1_range [a, b, c, d] (by simp)
  have hi := bar_lay a b c d
  have hq : decide (samB (a && !b) (b && !a) (c && !d) (d && !c) a b c d) = true := by revert h; cases a <;> cases b <;> cases c <;> cases d <;> decide
  obtain ⟨k, hk⟩ : ∃ k, lay1 [a, b, c, d] = k := ⟨_, rfl⟩
  rw [hk] at HL hr hi ⊢
  obtain ⟨hk0, hk1⟩ := hr
  replace hk1 : k ≤ 255 := by omega
  obtain ⟨e0, h0⟩ : ∃ e0, (a && !b) = e0 := ⟨_, rfl⟩
  obtain ⟨e1, h1⟩ : ∃ e1, (b && !a) = e1 := ⟨_, rfl⟩
  obtain ⟨e2, h2⟩ : ∃ e2, (c && !d) = e2 := ⟨_, rfl⟩
  obtain ⟨e3, h3⟩ : ∃ e3, (d && !c) = e3 := ⟨_, rfl⟩
  rw [h0, h1, h2, h3] at hi hq
  clear hk h h0 h1 h2 h3
  have HY := Lib.hid (byte_at (((w.alloc (.cells #[.bool a, .bool b, .bool c, .bool d, .bool s, .bool l, .bool o, .int .i64 m, .bool mn, .bool bt, .int .i64 r, tv] 38)).alloc (.cells #[.bool a, .bool b, .bool c, .bool d] 27)).alloc (.cells #[.bool a, .bool b, .bool c, .bool d] 4)) hk0 hk1 (w.heap.size + 1 + 1 + 1) (by simp))
  have HK := Lib.hid ((blk_new (w.alloc (.cells #[.bool a, .bool b, .bool c, .bool d, .bool s, .bool l, .bool o, .int .i64 m, .bool mn, .bool bt, .int .i64 r, tv] 38)) #[.bool a, .bool b, .bool c, .bool d] 27).below (below_alloc (below_alloc (Below.refl _ ((w.alloc (.cells #[.bool a, .bool b, .bool c, .bool d, .bool s, .bool l, .bool o, .int .i64 m, .bool mn, .bool bt, .int .i64 r, tv] 38)).alloc (.cells #[.bool a, .bool b, .bool c, .bool d] 27))) (.cells #[.bool a, .bool b, .bool c, .bool d] 4)) (.cells #[.int .u8 k] 5)))
  have HB := Lib.hid (below_alloc (below_alloc (below_alloc (below_alloc (Below.refl _ w) (.cells #[.bool a, .bool b, .bool c, .bool d, .bool s, .bool l, .bool o, .int .i64 m, .bool mn, .bool bt, .int .i64 r, tv] 38)) (.cells #[.bool a, .bool b, .bool c, .bool d] 27)) (.cells #[.bool a, .bool b, .bool c, .bool d] 4)) (.cells #[.int .u8 k] 5))
  go_enter Try.func23, Try.ntmps23
  go_wp2_with fail
  (with_reducible refine (HL.out _ _ (by simp)).mono ?_)
  rintro e w1 ⟨rfl, rfl⟩
  clear HL
  go_wp2_with fail
  have c0 := HK.out.cell 0 rfl
  have c1 := HK.out.cell 1 rfl
  have c2 := HK.out.cell 2 rfl
  have c3 := HK.out.cell 3 rfl
  rw [show (w.alloc (.cells #[.bool a, .bool b, .bool c, .bool d, .bool s, .bool l, .bool o, .int .i64 m, .bool mn, .bool bt, .int .i64 r, tv] 38)).heap.size = w.heap.size + 1 by simp] at c0 c1 c2 c3
  generalize (((w.alloc (.cells #[.bool a, .bool b, .bool c, .bool d, .bool s, .bool l, .bool o, .int .i64 m, .bool mn, .bool bt, .int .i64 r, tv] 38)).alloc (.cells #[.bool a, .bool b, .bool c, .bool d] 27)).alloc (.cells #[.bool a, .bool b, .bool c, .bool d] 4)).alloc (.cells #[.int .u8 k] 5) = w2 at *
  have HM := Lib.hid (fun (W : World) (hW : Below w2.heap.size w2 W) => barrier_to true _ _ k (sone_byte hk0 hk1) e0 e1 e2 e3 hi W (HY.out.below hW))
  have HS := Lib.hid (fun (v : Value) (W : World) => (said_to v true W).mono (fun e w' (h : e = .returned (if true then v else .slice none 0 0) ∧ w' = W) => (⟨by first | simpa using h.1 | exact h.1, by rw [h.2]; exact Below.refl _ W⟩ : e = .returned v ∧ Below W.heap.size W w')))
  have hE := eql_bar e0 e1 e2 e3 a b c d true hq.symm
  clear HK hi hq hk0 hk1
  replace c0 := cell_regrown c0
  replace c1 := cell_regrown c1
  replace c2 := cell_regrown c2
  replace c3 := cell_regrown c3
  refine wp_region_quiet_below (by kernel_rfl) (by kernel_rfl) ?_
  repeat (go_big_quiet_step (first | (with_reducible exact Calls.regrown_of (HM.out _ (below_regrown _ _ _))) | (with_reducible exact Calls.regrown_of (HS.out _ _))))
  refine wpQuiet_nil ?_
  intro _ hw'
  obtain ⟨⟨dq, osq⟩, hw''⟩ := hw'
  subst hw''
  clear c0 c1 c2 c3
  go_wp2_with fail
  go_ret
  exact ⟨_, rfl, HY.out.below (below_regrown _ dq osq), by omega, below_call HB.out (below_regrown _ dq osq)⟩
set_option maxHeartbeats 4000000 in
theorem print_bar_no (h : ((a && b) || (c && d)) = true) : Calls Try.prog 23 #[.agg #[.bool a, .bool b, .bool c, .bool d, .bool s, .bool l, .bool o, .int .i64 m, .bool mn, .bool bt, .int .i64 r, tv], .int .i64 0] w fun e w' => e = .returned (.slice none 0 0) ∧ Below w.heap.size w w' := by
  have HL := Lib.hid (fun (W : World) (g : Nat) (hg : g = W.heap.size) => lay_to [a, b, c, d] 4 rfl (by omega) g (W.alloc (.cells #[.bool a, .bool b, .bool c, .bool d] 4)) (laid_bools [a, b, c, d] W g hg _ rfl 4))
  have hr := lay1_range [a, b, c, d] (by simp)
  have hi := bar_lay a b c d
  have hq : decide (samB (a && !b) (b && !a) (c && !d) (d && !c) a b c d) = false := by revert h; cases a <;> cases b <;> cases c <;> cases d <;> decide
  obtain ⟨k, hk⟩ : ∃ k, lay1 [a, b, c, d] = k := ⟨_, rfl⟩
  rw [hk] at HL hr hi
  obtain ⟨hk0, hk1⟩ := hr
  replace hk1 : k ≤ 255 := by omega
  obtain ⟨e0, h0⟩ : ∃ e0, (a && !b) = e0 := ⟨_, rfl⟩
  obtain ⟨e1, h1⟩ : ∃ e1, (b && !a) = e1 := ⟨_, rfl⟩
  obtain ⟨e2, h2⟩ : ∃ e2, (c && !d) = e2 := ⟨_, rfl⟩
  obtain ⟨e3, h3⟩ : ∃ e3, (d && !c) = e3 := ⟨_, rfl⟩
  rw [h0, h1, h2, h3] at hi hq
  clear hk h h0 h1 h2 h3
  have HY := Lib.hid (byte_at (((w.alloc (.cells #[.bool a, .bool b, .bool c, .bool d, .bool s, .bool l, .bool o, .int .i64 m, .bool mn, .bool bt, .int .i64 r, tv] 38)).alloc (.cells #[.bool a, .bool b, .bool c, .bool d] 27)).alloc (.cells #[.bool a, .bool b, .bool c, .bool d] 4)) hk0 hk1 (w.heap.size + 1 + 1 + 1) (by simp))
  have HK := Lib.hid ((blk_new (w.alloc (.cells #[.bool a, .bool b, .bool c, .bool d, .bool s, .bool l, .bool o, .int .i64 m, .bool mn, .bool bt, .int .i64 r, tv] 38)) #[.bool a, .bool b, .bool c, .bool d] 27).below (below_alloc (below_alloc (Below.refl _ ((w.alloc (.cells #[.bool a, .bool b, .bool c, .bool d, .bool s, .bool l, .bool o, .int .i64 m, .bool mn, .bool bt, .int .i64 r, tv] 38)).alloc (.cells #[.bool a, .bool b, .bool c, .bool d] 27))) (.cells #[.bool a, .bool b, .bool c, .bool d] 4)) (.cells #[.int .u8 k] 5)))
  have HB := Lib.hid (below_alloc (below_alloc (below_alloc (below_alloc (Below.refl _ w) (.cells #[.bool a, .bool b, .bool c, .bool d, .bool s, .bool l, .bool o, .int .i64 m, .bool mn, .bool bt, .int .i64 r, tv] 38)) (.cells #[.bool a, .bool b, .bool c, .bool d] 27)) (.cells #[.bool a, .bool b, .bool c, .bool d] 4)) (.cells #[.int .u8 k] 5))
  go_enter Try.func23, Try.ntmps23
  go_wp2_with fail
  (with_reducible refine (HL.out _ _ (by simp)).mono ?_)
  rintro e w1 ⟨rfl, rfl⟩
  clear HL
  go_wp2_with fail
  have c0 := HK.out.cell 0 rfl
  have c1 := HK.out.cell 1 rfl
  have c2 := HK.out.cell 2 rfl
  have c3 := HK.out.cell 3 rfl
  rw [show (w.alloc (.cells #[.bool a, .bool b, .bool c, .bool d, .bool s, .bool l, .bool o, .int .i64 m, .bool mn, .bool bt, .int .i64 r, tv] 38)).heap.size = w.heap.size + 1 by simp] at c0 c1 c2 c3
  generalize (((w.alloc (.cells #[.bool a, .bool b, .bool c, .bool d, .bool s, .bool l, .bool o, .int .i64 m, .bool mn, .bool bt, .int .i64 r, tv] 38)).alloc (.cells #[.bool a, .bool b, .bool c, .bool d] 27)).alloc (.cells #[.bool a, .bool b, .bool c, .bool d] 4)).alloc (.cells #[.int .u8 k] 5) = w2 at *
  have HM := Lib.hid (fun (W : World) (hW : Below w2.heap.size w2 W) => barrier_to true _ _ k (sone_byte hk0 hk1) e0 e1 e2 e3 hi W (HY.out.below hW))
  have HS := Lib.hid (fun (v : Value) (W : World) => (said_to v false W).mono (fun e w' (h : e = .returned (if false then v else .slice none 0 0) ∧ w' = W) => (⟨by first | simpa using h.1 | exact h.1, by rw [h.2]; exact Below.refl _ W⟩ : e = .returned (.slice none 0 0) ∧ Below W.heap.size W w')))
  have hE := eql_bar e0 e1 e2 e3 a b c d false hq.symm
  clear HK hi hq hk0 hk1
  replace c0 := cell_regrown c0
  replace c1 := cell_regrown c1
  replace c2 := cell_regrown c2
  replace c3 := cell_regrown c3
  refine wp_region_quiet_below (by kernel_rfl) (by kernel_rfl) ?_
  repeat (go_big_quiet_step (first | (with_reducible exact Calls.regrown_of (HM.out _ (below_regrown _ _ _))) | (with_reducible exact Calls.regrown_of (HS.out _ _))))
  refine wpQuiet_nil ?_
  intro _ hw'
  obtain ⟨⟨dq, osq⟩, hw''⟩ := hw'
  subst hw''
  clear c0 c1 c2 c3
  go_wp2_with fail
  go_ret
  exact ⟨rfl, below_call HB.out (below_regrown _ dq osq)⟩
end
end Go.Proofs.Ytnbhjnbdnngiiaa
