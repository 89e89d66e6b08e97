/-
  The wheel's small calls by contracts: place, above, reaches, isArmed, slotOf.
-/
import Derived.Test.YtaonnkocopngaaaDoorMem
import Derived.Deep.RegionWith
namespace Go.Proofs.YtaonnkocopngaaaDoor
open Go.RowKit

/-- A time: below 2 to the 62nd. -/
abbrev Tim (a : Nat) : Prop := a < 4611686018427387904

theorem place_any (t l p : Nat) (L : Int) (hL : L = (l : Int)) (hl : l ≤ 3) (hp : p = t / 64 ^ l % 64) (w : World) (ht : Tim t) : Calls Tryd.prog 34 #[.int .u64 (t : Int), .int .i64 L] w fun e w' => e = .returned (.int .u64 (p : Int)) ∧ w' = w := by
  subst hL hp
  have hc : l = 0 ∨ l = 1 ∨ l = 2 ∨ l = 3 := by omega
  rcases hc with rfl | rfl | rfl | rfl
  all_goals
    go_enter Tryd.func34, Tryd.ntmps34
    go_wp2_with fail
    go_ret
    refine ⟨by simp, rfl⟩
theorem above_any (t l p : Nat) (L : Int) (hL : L = (l : Int)) (hl : l ≤ 2) (hp : p = t / 64 ^ (l + 1)) (w : World) (ht : Tim t) : Calls Tryd.prog 35 #[.int .u64 (t : Int), .int .i64 L] w fun e w' => e = .returned (.int .u64 (p : Int)) ∧ w' = w := by
  subst hL hp
  have hc : l = 0 ∨ l = 1 ∨ l = 2 := by omega
  rcases hc with rfl | rfl | rfl
  all_goals
    go_enter Tryd.func35, Tryd.ntmps35
    go_wp2_with fail
    go_ret
    refine ⟨by simp, rfl⟩
variable {b tb n now : Nat} {vs : Nat → Value} {en : Nat → Ent} {S : Nat → List Nat} {w : World}
theorem modz (a k : Nat) : (((a : Int) % (k : Int)) == 0) = decide (a % k = 0) := by
  rw [Bool.eq_iff_iff]
  simp
  omega
theorem reaches_any (h : Wh w b tb n now vs en S) (l : Nat) (L : Int) (hL : L = (l : Int)) (hl : l = 1 ∨ l = 2 ∨ l = 3) (ht : Tim now) (r : Bool) (hr : r = decide (now % 64 ^ l = 0)) :
    Calls Tryd.prog 39 #[.pointer (some ⟨b, 0, none⟩), .int .i64 L] w fun e w' => e = .returned (.bool r) ∧ ∃ m, w' = w.drewN m := by
  obtain ⟨h0, h1⟩ := h.now_
  clear h
  subst hL
  have HR := Lib.hid hr
  clear hr
  rcases hl with rfl | rfl | rfl
  all_goals
    go_enter Tryd.func39, Tryd.ntmps39
    go_wp2_with fail
    go_quiet (fail)
    go_wp2_with fail
    go_ret
    refine ⟨?_, _, rfl⟩
    rw [HR.out]
    first | exact congrArg (fun x => Ending.returned (.bool x)) (modz now 64) | exact congrArg (fun x => Ending.returned (.bool x)) (modz now 4096) | exact congrArg (fun x => Ending.returned (.bool x)) (modz now 262144)

/-- No timer has such a number. -/
theorem isArmed_out (h : Wh w b tb n now vs en S) (t : Int) (ht : t < 0 ∨ (n : Int) ≤ t) :
    Calls Tryd.prog 30 #[.pointer (some ⟨b, 0, none⟩), .int .i64 t] w fun e w' => e = .returned (.bool false) ∧ w' = w := by
  have h0 := h.tims
  clear h
  rcases ht with ht | ht
  · have hd : decide (0 ≤ t) = false := by simp; omega
    go_enter Tryd.func30, Tryd.ntmps30
    go_wp2_with fail
    go_ret
    exact ⟨rfl, rfl⟩
  · have hd : decide (0 ≤ t) = true := by simp; omega
    go_enter Tryd.func30, Tryd.ntmps30
    go_wp2_with fail
    go_ret
    exact ⟨rfl, rfl⟩
theorem isArmed_in (h : Wh w b tb n now vs en S) (i : Nat) (t : Int) (ht : t = (i : Int)) (hi : i < n) (r : Bool) (hr : r = (en i).armed) :
    Calls Tryd.prog 30 #[.pointer (some ⟨b, 0, none⟩), .int .i64 t] w fun e w' => e = .returned (.bool r) ∧ w' = w := by
  have h0 := h.tims
  have h1 := (h.ent i hi).1
  rw [← hr] at h1
  clear h hr
  subst ht
  go_enter Tryd.func30, Tryd.ntmps30
  go_wp2_with fail
  go_ret
  exact ⟨rfl, rfl⟩

theorem six_at (now due j : Nat) (hj : j ≤ 3) (h1 : ∀ i, i < j → due / 64 ^ (i + 1) ≠ now / 64 ^ (i + 1)) (h2 : j < 3 → due / 64 ^ (j + 1) = now / 64 ^ (j + 1)) : 64 * j + due / 64 ^ j % 64 = six now due := by
  have hc : j = 0 ∨ j = 1 ∨ j = 2 ∨ j = 3 := by omega
  have e0 := h1 0
  have e1 := h1 1
  have e2 := h1 2
  unfold six six1 six2 six3
  rcases hc with rfl | rfl | rfl | rfl
  · rw [if_pos (by simpa using h2 (by omega))]; simp
  · rw [if_neg (by simpa using e0 (by omega)), if_pos (by simpa using h2 (by omega))]
  · rw [if_neg (by simpa using e0 (by omega)), if_neg (by simpa using e1 (by omega)), if_pos (by simpa using h2 (by omega))]
  · rw [if_neg (by simpa using e0 (by omega)), if_neg (by simpa using e1 (by omega)), if_neg (by simpa using e2 (by omega))]

set_option maxHeartbeats 1000000 in
theorem slotOf_any (h : Wh w b tb n now vs en S) (due : Nat) (ht : Tim now) (hd : Tim due) :
    Calls Tryd.prog 27 #[.pointer (some ⟨b, 0, none⟩), .int .u64 (due : Int)] w fun e w' => e = .returned (.pointer (some ⟨b, 2 + six now due, none⟩)) ∧ ∃ m, w' = w.drewN m := by
  obtain ⟨h0, h1⟩ := h.now_
  have HT := Lib.hid ht
  have HD := Lib.hid hd
  clear h ht hd
  go_enter Tryd.func27, Tryd.ntmps27
  go_wp2_with fail
  go_loopw [5] (fun l wr => ∃ (j m : Nat), j ≤ 3 ∧ l = .int .i64 (j : Int) ∧ wr = w.drewN m ∧ Hid (∀ i, i < j → due / 64 ^ (i + 1) ≠ now / 64 ^ (i + 1))) (fun l _ => 3 - (intOf l).toNat)
  case atStart => exact ⟨0, 0, by omega, rfl, rfl, Lib.hid (fun i hi => by omega)⟩
  case round =>
    obtain ⟨j, m, hj, rfl, hw, HI⟩ := hrel
    have h0r : wr.cell? ⟨b, 0, none⟩ = some (.int .u64 (now : Int)) := by rw [hw]; exact h0
    have HW := Lib.hid hw
    clear h0 h1 hw
    by_cases hlt : j < 3
    · have q0 : decide ((j : Int) < 3) = true := by simp; omega
      obtain ⟨p, HP⟩ : ∃ p, Hid (p = due / 64 ^ (j + 1)) := ⟨_, Lib.hid rfl⟩
      obtain ⟨q, HQ⟩ : ∃ q, Hid (q = now / 64 ^ (j + 1)) := ⟨_, Lib.hid rfl⟩
      by_cases hpq : p = q
      · have q1 : ((p : Int) == (q : Int)) = true := by simp [hpq]
        go_wp2_with fail
        go_quiet (first
          | (go_at_call_of 35 (Value.int .u64 (due : Int)); refine Calls.quiet_of_same (above_any due j p _ rfl (by omega) HP.out _ HD.out))
          | (go_at_call_of 35 (Value.int .u64 (now : Int)); refine Calls.quiet_of_same (above_any now j q _ rfl (by omega) HQ.out _ HT.out)))
        obtain ⟨r, HR⟩ : ∃ r, Hid (r = due / 64 ^ j % 64) := ⟨_, Lib.hid rfl⟩
        have hr64 : r < 64 := by have := HR.out; omega
        have hj4 : j < 4 := by omega
        have HE := Lib.hid (show 64 * j + r = six now due by rw [HR.out]; exact six_at now due j hj HI.out (fun _ => by rw [← HP.out, ← HQ.out]; exact hpq))
        go_wp2_with fail
        generalize hq : wr.drewN nq = w2
        have HWQ := Lib.hid hq
        clear hq
        go_quiet (first | (go_at_call 34; refine Calls.quiet_of_same (place_any due j r _ rfl hj HR.out _ HD.out)))
        go_wp2_with fail
        go_ret
        refine ⟨?_, ?_⟩
        · rw [← HE.out, show 2 + (64 * j + r) = 2 + j * 64 + r by omega]; rfl
        · exact ⟨_, by rw [← HWQ.out, HW.out, World.drewN_drewN, World.drewN_drewN]⟩
      · have q1 : ((p : Int) == (q : Int)) = false := by simp; omega
        go_wp2_with fail
        go_quiet (first
          | (go_at_call_of 35 (Value.int .u64 (due : Int)); refine Calls.quiet_of_same (above_any due j p _ rfl (by omega) HP.out _ HD.out))
          | (go_at_call_of 35 (Value.int .u64 (now : Int)); refine Calls.quiet_of_same (above_any now j q _ rfl (by omega) HQ.out _ HT.out)))
        go_wp2_with fail
        go_roundw
        case rel => exact ⟨j + 1, m + nq, by omega, by go_num, by rw [HW.out, World.drewN_drewN], Lib.hid (fun i hi => by
          by_cases e : i = j
          · subst e; rw [← HP.out, ← HQ.out]; exact hpq
          · exact HI.out i (by omega))⟩
        case measure => simp [intOf]; omega
    · obtain rfl : j = 3 := by omega
      have q0 : decide (((3 : Nat) : Int) < 3) = false := by decide
      obtain ⟨r, HR⟩ : ∃ r, Hid (r = due / 64 ^ 3 % 64) := ⟨_, Lib.hid rfl⟩
      have hr64 : r < 64 := by have := HR.out; omega
      have HE := Lib.hid (show 192 + r = six now due by rw [HR.out]; exact six_at now due 3 hj HI.out (fun h => by omega))
      go_wp2_with fail
      go_quiet (fail)
      go_wp2_with fail
      generalize hq : wr.drewN nq = w2
      have HWQ := Lib.hid hq
      clear hq
      go_quiet (first | (go_at_call 34; refine Calls.quiet_of_same (place_any due 3 r _ rfl hj HR.out _ HD.out)))
      go_wp2_with fail
      go_ret
      refine ⟨?_, ?_⟩
      · rw [← HE.out, show 2 + (192 + r) = 194 + r by omega]; rfl
      · exact ⟨_, by rw [← HWQ.out, HW.out, World.drewN_drewN, World.drewN_drewN]⟩
end Go.Proofs.YtaonnkocopngaaaDoor
