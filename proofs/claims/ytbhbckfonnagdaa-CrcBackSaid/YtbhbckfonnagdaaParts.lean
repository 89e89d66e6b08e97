/-
  The walk of crossbucklaw02.CrcParts: true, whatever it is given.
-/
import Derived.Test.YtbhbckfonnagdaaSmall
namespace Go.Proofs.Ytbhbckfonnagdaa
open Go.RowKit

theorem sizeU8 (w : World) : (sizeOf 5).run Try.prog w = .ok 1 w := by kernel_rfl
theorem elemB : Try.prog.elem 23 = 5 := by kernel_rfl
theorem add_zero (a : Addr) : a.add 0 = a := by unfold Addr.add; simp
/-- b[:k] and b[k:]. -/
theorem cuts {w : World} {v : Value} {xs : List (BitVec 8)} (h : Byts w v xs) (k : Nat) (hk : k ≤ xs.length) : ∃ v1 v2,
    (∀ w', (Instr.slice 23 v none (some (.int .i64 (k : Int))) none).run Try.prog w' = .ok v1 w') ∧ (∀ w', (Instr.slice 23 v (some (.int .i64 (k : Int))) none none).run Try.prog w' = .ok v2 w') ∧ Byts w v1 (xs.take k) ∧ Byts w v2 (xs.drop k) := by
  have hu : Try.prog.underlying 23 = some (.slice (Try.prog.elem 23)) := by rw [elemB]; exact Try.underlying23
  rcases h with ⟨rfl, rfl | ⟨a, c, rfl⟩⟩ | ⟨g, o, cap, rfl, hc, h⟩
  · obtain rfl : k = 0 := by simpa using hk
    refine ⟨.slice none 0 0, .slice none 0 0, fun w' => ?_, fun w' => ?_, .inl ⟨rfl, .inl rfl⟩, .inl ⟨rfl, .inl rfl⟩⟩
    · rw [run_slice_h _ _ _ _ _ hu _ _ (by simp) (by simp), elemB, sizeU8]; rfl
    · rw [run_slice_l _ _ _ _ _ hu _ _ (by simp) (by simp), elemB, sizeU8]; rfl
  · obtain rfl : k = 0 := by simpa using hk
    refine ⟨.slice (some a) 0 c, .slice (some a) 0 c, fun w' => ?_, fun w' => ?_, .inl ⟨rfl, .inr ⟨a, c, rfl⟩⟩, .inl ⟨rfl, .inr ⟨a, c, rfl⟩⟩⟩
    · rw [run_slice_h _ _ _ _ _ hu _ _ (by simp) (by simp), elemB, sizeU8]
      simp [Result.andThen, sliced, add_zero]
    · rw [run_slice_l _ _ _ _ _ hu _ _ (by simp) (by simp), elemB, sizeU8]
      simp [Result.andThen, sliced, add_zero]
  · by_cases hck : cap = k
    · subst hck
      have hl : xs.length = cap := by omega
      refine ⟨.slice (some ⟨g, o, none⟩) cap cap, .slice (some ⟨g, o, none⟩) 0 0, fun w' => ?_, fun w' => ?_, Byts.take h hc cap hk, .inl ⟨by rw [List.drop_eq_nil_of_le (by omega)], .inr ⟨_, _, rfl⟩⟩⟩
      · rw [run_slice_h _ _ _ _ _ hu _ _ (by omega) (by omega), elemB, sizeU8]
        simp [Result.andThen, sliced, add_zero]
      · rw [run_slice_l _ _ _ _ _ hu _ _ (by omega) (by omega), elemB, sizeU8]
        simp [Result.andThen, sliced, hl]
    · refine ⟨.slice (some ⟨g, o, none⟩) k cap, .slice (some ⟨g, o + k, none⟩) (xs.length - k) (cap - k), fun w' => ?_, fun w' => ?_, Byts.take h hc k hk, Byts.drop h hc k hk⟩
      · rw [run_slice_h _ _ _ _ _ hu _ _ (by omega) (by omega), elemB, sizeU8]
        simp [Result.andThen, sliced, add_zero]
      · rw [run_slice_l _ _ _ _ _ hu _ _ (by omega) (by omega), elemB, sizeU8]
        simp [Result.andThen, sliced, hck, plain_add]

theorem quiet_same {P : Program} {f : FuncId} {args : Array Value} {w : World} {n : Nat} {v : Value}
    (h : Calls P f args (w.drewN n) fun e w' => e = .returned v ∧ w.drewN n = w') : Calls P f args (w.drewN n) fun e w'' => e = .returned v ∧ ∃ m, w'' = w.drewN m :=
  h.mono fun _ _ ⟨he, hm⟩ => ⟨he, n, hm.symm⟩

theorem add_ffff (v : Value) (xs : List (BitVec 8)) (w : World) (hv : Byts w v xs) (hl : xs.length ≤ maxLen) :
    Calls Try.prog 16 #[.int .u16 65535, v] w fun e w' => e = .returned (.int .u16 ((crcSum xs).toNat : Int)) ∧ w = w' := by
  have := add_any 0xffff#16 v xs w hv hl
  rw [← ffff] at this
  exact this

set_option maxHeartbeats 1000000 in
theorem parts_main (s : BitVec 16) (v : Value) (xs : List (BitVec 8)) (k : Nat) (w : World) (hv : Byts w v xs) (hl : xs.length ≤ 1000) (hk : k ≤ xs.length) :
    Calls Try.prog 4 #[.int .u16 (s.toNat : Int), v, .int .i64 (k : Int)] w fun e w' => e = .returned (.bool true) ∧ Below w.heap.size w w' := by
  obtain ⟨av, cv, ev⟩ := hv.len
  obtain ⟨v1, v2, r1, r2, b1, b2⟩ := cuts hv k hk
  have HS := Lib.hid (small_true w)
  have HV := Lib.hid hv
  have H1 := Lib.hid b1
  have H2 := Lib.hid b2
  have hsum : ((crcAdd (crcAdd s (xs.take k)) (xs.drop k)).toNat : Int) == ((crcAdd s xs).toNat : Int) := by
    rw [← crcAdd_append, List.take_append_drop]; simp
  have hsame : (((crcSum xs).toNat : Int) == ((crcSum xs).toNat : Int)) = true := by simp
  clear hv b1 b2
  subst ev
  go_enter Try.func4, Try.ntmps4
  go_wp2_with fail
  (with_reducible refine HS.out.mono ?_)
  rintro e w1 ⟨rfl, hb⟩
  have HB := Lib.hid hb
  have HV1 := Lib.hid (HV.out.below hb)
  have HA1 := Lib.hid (H1.out.below hb)
  have HA2 := Lib.hid (H2.out.below hb)
  have HL1 := Lib.hid (show (xs.take k).length ≤ maxLen by unfold maxLen; simp; omega)
  have HL2 := Lib.hid (show (xs.drop k).length ≤ maxLen by unfold maxLen; simp; omega)
  have HL := Lib.hid (show xs.length ≤ maxLen by unfold maxLen; omega)
  clear hb HS HV H1 H2
  go_wp2_with fail
  go_quiet ((first
    | (go_at_call 14; exact quiet_same (sum_any _ xs _ (HV1.out.drewN _) HL.out))
    | (go_at_call 16; first
      | (with_reducible exact quiet_same (add_any s _ _ _ (HA1.out.drewN _) HL1.out))
      | (with_reducible exact quiet_same (add_any _ _ _ _ (HA2.out.drewN _) HL2.out))
      | (with_reducible exact quiet_same (add_any s _ _ _ (HV1.out.drewN _) HL.out))
      | (with_reducible exact quiet_same (add_ffff _ _ _ (HV1.out.drewN _) HL.out)))))
  go_wp2
  go_ret
  exact ⟨rfl, below_drewN HB.out _⟩

theorem parts_any (s : BitVec 16) (v : Value) (xs : List (BitVec 8)) (cut : Int) (w : World) (hv : Byts w v xs) (hm : xs.length ≤ maxLen) :
    Calls Try.prog 4 #[.int .u16 (s.toNat : Int), v, .int .i64 cut] w fun e w' => e = .returned (.bool true) ∧ Below w.heap.size w w' := by
  by_cases hmain : xs.length ≤ 1000 ∧ 0 ≤ cut ∧ cut ≤ xs.length
  · obtain ⟨h1, h2, h3⟩ := hmain
    obtain ⟨k, rfl⟩ : ∃ k : Nat, cut = (k : Int) := ⟨cut.toNat, by omega⟩
    exact parts_main s v xs k w hv h1 (by omega)
  · obtain ⟨av, cv, ev⟩ := hv.len
    have HS := Lib.hid (small_true w)
    clear hv
    subst ev
    unfold maxLen at hm
    generalize xs.length = n at *
    have hc : 1000 < n ∨ (n ≤ 1000 ∧ cut < 0) ∨ (n ≤ 1000 ∧ 0 ≤ cut ∧ (n : Int) < cut) := by omega
    clear hmain
    rcases hc with hc | ⟨hc, hd⟩ | ⟨hc, hd, he⟩
    all_goals
      go_enter Try.func4, Try.ntmps4
      go_wp2_with fail
      (with_reducible refine HS.out.mono ?_)
      rintro e w1 ⟨rfl, hb⟩
      go_wp2_with fail
      go_ret
      exact ⟨rfl, hb⟩
end Go.Proofs.Ytbhbckfonnagdaa
