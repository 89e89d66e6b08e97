/-
  Errors of wheel's kind; Left, Free, New; the timer of the least number that is not armed; Arm.
-/
import Derived.Test.YtaonnkocopngaaaDoorWl
namespace Go.Proofs.YtaonnkocopngaaaDoor
open Go.RowKit

/-- An error of the code k. -/
theorem new_form (k : Int) (hk : (k == 0) = false) (s : ByteArray) (w : World) :
    Calls Tryd.prog 24 #[.int .i64 k, .string s] w fun e w' => ∃ g, w.heap.size ≤ g ∧ e = .returned (.iface 66 (.pointer (some ⟨g, 0, none⟩))) ∧ w'.cell? ⟨g, 1, none⟩ = some (.int .i64 k) ∧ Below w.heap.size w w' := by
  go_enter Tryd.func24, Tryd.ntmps24
  go_wp2
  go_ret
  exact ⟨_, Nat.le_refl _, rfl, by simp, below_alloc (Below.refl _ w) _⟩
theorem assertPP (v : Value) (xT : TypeId) (w : World) : (Instr.typeAssert (.iface 66 v) xT 66 true).run Tryd.prog w = .ok (.tuple #[v, .bool true]) w := by kernel_rfl
theorem code_place (b : Nat) (n : Int) (w : World) (h1 : w.cell? ⟨b, 1, none⟩ = some (.int .i64 n)) :
    Calls Tryd.prog 14 #[.iface 66 (.pointer (some ⟨b, 0, none⟩))] w fun e w' => e = .returned (.int .i64 n) ∧ w = w' := by
  have a1 := assertPP
  go_enter Tryd.func14, Tryd.ntmps14
  go_wp2
  go_ret
  exact ⟨rfl, rfl⟩
theorem code_nil (w : World) :
    Calls Tryd.prog 14 #[.nilIface] w fun e w' => e = .returned (.int .i64 0) ∧ w = w' := by
  go_enter Tryd.func14, Tryd.ntmps14
  go_wp2
  go_ret
  exact ⟨rfl, rfl⟩

variable {b tb n now : Nat} {A : List Tm} {fp : Nat → Prop} {w w' : World} {vs : Nat → Value} {en : Nat → Ent} {S : Nat → List Nat}
/-- Left of a timer that is armed. -/
theorem left_in (h : Wl w b n now A fp) (hn : now ≤ 100000000) (a : Tm) (ha : a ∈ A) (t : Int) (ht : t = (a.num : Int)) :
    Calls Tryd.prog 22 #[.pointer (some ⟨b, 0, none⟩), .int .i64 t] w fun e w' => e = .returned (.int .i64 ((a.due - now : Nat) : Int)) ∧ Below w.heap.size w w' := by
  obtain ⟨tb, vs, en, h1, h2, rfl⟩ := h
  have hin := h2.num a ha
  have he := (h1.ent _ hin).2.2
  rw [h2.ent a ha] at he
  have h0 := h1.now_.1
  have ht1 := h1.tims
  obtain ⟨d1, d2⟩ := h2.due a ha
  have HW := Lib.hid h1
  have HA := Lib.hid (show true = (en a.num).armed by rw [h2.ent a ha])
  have HD := Lib.hid d1
  have HD2 := Lib.hid d2
  have HN := Lib.hid hn
  have hii := h2.num a ha
  clear h1 h2 d1 d2 ha hn
  subst ht
  obtain ⟨d, hd⟩ : ∃ d, d = a.due := ⟨_, rfl⟩
  rw [← hd] at he HD HD2 ⊢
  go_enter Tryd.func22, Tryd.ntmps22
  go_wp2_with fail
  (with_reducible refine (isArmed_in HW.out a.num _ rfl hii _ HA.out).mono ?_)
  rintro e w1 ⟨rfl, rfl⟩
  obtain ⟨k, hk, hk2⟩ : ∃ k, d = now + k ∧ k ≤ 16777215 := ⟨d - now, by have := HD.out; omega, by have := HD2.out; omega⟩
  have HN2 := HN.out
  clear hd HD HD2 HW HA
  subst hk
  go_wp2_with fail
  go_quiet (fail)
  go_wp2_with fail
  go_ret
  refine ⟨?_, below_drewN _ _⟩
  rw [show ((now + k - now : Nat) : Int) = (now : Int) + (k : Int) - (now : Int) by omega]
  rfl
/-- No timer that is armed has that number. -/
theorem armed_no (h1 : Wh w b tb n now vs en S) (h2 : Fits n now A en) (t : Int) (hno : ∀ a ∈ A, (a.num : Int) ≠ t) :
    Calls Tryd.prog 30 #[.pointer (some ⟨b, 0, none⟩), .int .i64 t] w fun e w' => e = .returned (.bool false) ∧ w' = w := by
  by_cases c : t < 0 ∨ (n : Int) ≤ t
  · exact isArmed_out h1 t c
  · obtain ⟨i, rfl⟩ : ∃ i : Nat, t = (i : Int) := ⟨t.toNat, by omega⟩
    exact isArmed_in h1 i _ rfl (by omega) false (by rw [h2.free i (fun a ha e => hno a ha (by rw [e]))])
theorem left_out (h : Wl w b n now A fp) (t : Int) (hno : ∀ a ∈ A, (a.num : Int) ≠ t) :
    Calls Tryd.prog 22 #[.pointer (some ⟨b, 0, none⟩), .int .i64 t] w fun e w' => e = .returned (.int .i64 0) ∧ w' = w := by
  obtain ⟨tb, vs, en, h1, h2, rfl⟩ := h
  have HC := Lib.hid (armed_no h1 h2 t hno)
  clear h1 h2 hno
  go_enter Tryd.func22, Tryd.ntmps22
  go_wp2_with fail
  (with_reducible refine HC.out.mono ?_)
  rintro e w1 ⟨rfl, rfl⟩
  clear HC
  go_wp2_with fail
  go_ret
  exact ⟨rfl, rfl⟩
theorem free_any (h : Wl w b n now A fp) :
    Calls Tryd.prog 20 #[.pointer (some ⟨b, 0, none⟩)] w fun e w' => e = .returned (.int .i64 ((n - A.length : Nat) : Int)) ∧ Below w.heap.size w w' := by
  obtain ⟨tb, vs, en, h1, h2, rfl⟩ := h
  have hc := h2.count
  have h64 := h2.n64
  have ht := h1.tims
  have HE := Lib.hid (fun i (hi : i < n) => h1.ent i hi)
  have HC := Lib.hid (show (List.range n).countP (fun i => !(en i).armed) = n - A.length by omega)
  clear h1 h2 hc
  go_enter Tryd.func20, Tryd.ntmps20
  go_wp2_with fail
  go_loopw [3, 11] (fun s3 s11 wr => ∃ (j c : Nat), j ≤ n ∧ c ≤ j ∧ s3 = .int .i64 (c : Int) ∧ s11 = .int .i64 (j : Int) ∧ Hid (c = (List.range j).countP fun i => !(en i).armed) ∧ Hid (Below w.heap.size w wr)) (fun _ s11 _ => n - (intOf s11).toNat)
  case atStart => exact ⟨0, 0, by omega, by omega, rfl, rfl, Lib.hid rfl, Lib.hid (Below.refl _ w)⟩
  case round =>
    clear ht
    obtain ⟨j, c, hj, hcj, rfl, rfl, HJ, HB⟩ := hrel
    by_cases hlt : j < n
    · obtain ⟨e0, e1, e2⟩ := HE.out j hlt
      have f0 := below_cell HB.out e0
      have f1 := below_cell HB.out e1
      have f2 := below_cell HB.out e2
      obtain ⟨tg, htg⟩ : ∃ tg, (en j).tag = tg := ⟨_, rfl⟩
      obtain ⟨du, hdu⟩ : ∃ du, (en j).due = du := ⟨_, rfl⟩
      obtain ⟨ar, har⟩ : ∃ ar, (en j).armed = ar := ⟨_, rfl⟩
      rw [har] at f0
      rw [htg] at f1
      rw [hdu] at f2
      have HA := Lib.hid har
      clear e0 e1 e2 htg hdu har
      have hB2 : ∀ o, Hid (Below w.heap.size w (wr.alloc o)) := fun o => Lib.hid (HB.out.alloc HB.out.size o)
      cases ar
      · go_wp2_with fail
        go_roundw
        case rel => exact ⟨j + 1, c + 1, by omega, by omega, by go_num, by go_num, Lib.hid (by rw [List.range_succ, List.countP_append, ← HJ.out]; simp [HA.out]), hB2 _⟩
        case measure => simp [intOf]; omega
      · go_wp2_with fail
        go_roundw
        case rel => exact ⟨j + 1, c, by omega, by omega, rfl, by go_num, Lib.hid (by rw [List.range_succ, List.countP_append, ← HJ.out]; simp [HA.out]), hB2 _⟩
        case measure => simp [intOf]; omega
    · obtain rfl : j = n := by omega
      go_wp2_with fail
      go_ret
      refine ⟨?_, HB.out⟩
      rw [← HC.out, ← HJ.out]
      rfl
end Go.Proofs.YtaonnkocopngaaaDoor
