/-
  The document's channels: Tick by contract.
-/
import Derived.Test.YtmfgfjkpijmgoaaDoorRlkA
import Derived.IntWalk
import Derived.Outline
namespace Go.Proofs.YtmfgfjkpijmgoaaDoor
open Go.RowKit

variable {w w' : World} {b F : Nat} {f : Nat → Ch} {v : Nat → Value} {D : Nat → Prop}
/-- The document's channels are f now; nothing older has changed but their block. -/
def RlkAfter (w w' : World) (b F : Nat) (f : Nat → Ch) (D : Nat → Prop) : Prop := ∃ v D', Lk false w' 57 b F f v D' ∧ (∀ g, D' g → D g ∨ w.heap.size ≤ g) ∧ Keep (fun g => g = b) w w'
set_option maxRecDepth 10000 in
set_option maxHeartbeats 2000000 in
theorem rtick_any (h : Lk false w 57 b F f v D) :
    Calls Tryd.prog 13 #[.pointer (some ⟨b, 0, none⟩)] w fun e w' => e = .returned (.tuple #[]) ∧ RlkAfter w w' b F (fun k => older F (f k)) D := by
  have HL := Lib.hid h
  have hblt := h.blt
  have hF6 := h.F1.2
  clear h
  go_enter Tryd.func13, Tryd.ntmps13
  go_wp2_with fail
  go_loopw [2] (fun u2 wr => ∃ (k : Nat), k ≤ 16 ∧ u2 = .int .i64 (k : Int) ∧ Hid (Lk false wr 57 b F (fun j => if j < k then older F (f j) else f j) v D) ∧ Hid (Keep (fun g => g = b) w wr)) (fun u2 _ => 16 - (intOf u2).toNat)
  case atStart => exact ⟨0, by omega, rfl, Lib.hid (by simpa using HL.out), Lib.hid (Keep.refl _ _)⟩
  case round =>
    obtain ⟨k, hk, rfl, HLr, HKr⟩ := hrel
    by_cases hlt : k < 16
    · have hlz : (k : Int) < 16 := by omega
      have hk0 : (0 : Int) ≤ (k : Int) := by omega
      have h0 := HLr.out.F_
      obtain ⟨a0, a1, a2, a3⟩ := HLr.out.at_ k hlt
      rw [if_neg (by omega)] at a0 a2
      have z2 := HLr.out.frz (1 + k * 4 + 2)
      have hage := (HL.out.ok k hlt).age
      obtain ⟨age, HA⟩ : ∃ age, Hid (age = (f k).age) := ⟨_, Lib.hid rfl⟩
      rw [← HA.out] at a2 hage
      clear a1 a3
      cases hh : (f k).had with
      | false =>
        rw [hh] at a0
        have HN := Lib.hid (older_not (F := F) hh)
        clear hh
        go_wp2_with fail
        go_roundw
        case rel =>
          refine ⟨k + 1, by omega, by go_num, Lib.hid (HLr.out.ext fun j hj => ?_), HKr⟩
          by_cases e : j = k
          · subst e; rw [if_neg (by omega), if_pos (by omega), HN.out]
          · by_cases e2 : j < k
            · rw [if_pos e2, if_pos (by omega)]
            · rw [if_neg e2, if_neg (by omega)]
        case measure => simp [intOf]; omega
      | true =>
        rw [hh] at a0
        have HH := Lib.hid hh
        clear hh
        obtain ⟨m, HM⟩ : ∃ m : Nat, Hid (m = min (age + 1) (F + 1)) := ⟨_, Lib.hid rfl⟩
        have hmn : ∀ (ts : Array TypeId) (t : TypeId) (w : World), (Builtin.min_ ts t #[.int .i64 ((age : Int) + 1), .int .i64 ((F : Int) + 1)]).run Tryd.prog w = .ok (.int .i64 (m : Int)) w := by
          intro ts t w
          rw [run_min_int2, show (if ((F : Int) + 1) < ((age : Int) + 1) then ((F : Int) + 1) else ((age : Int) + 1)) = (m : Int) by rw [HM.out]; split <;> omega]
        have hwa : IntKind.i64.wrap ((age : Int) + 1) = (age : Int) + 1 := IntWalk.i64_in _ (by omega)
        have hwb : IntKind.i64.wrap ((F : Int) + 1) = (F : Int) + 1 := IntWalk.i64_in _ (by omega)
        go_wp2_with fail
        go_still_tail 20, (by kernel_rfl)
        have HLd := Lib.hid HLr.out.drw
        have HKd := Lib.hid (HKr.out.trans (Keep.of_below (F := fun _ => False) (bel_drew wr)) (fun _ h => h.elim))
        change wpList _ _ _ _ _ wr.drew
        generalize wr.drew = w2 at *
        clear a0 a2 h0 z2 hwa hwb hmn
        obtain ⟨b0, b1, b2, b3⟩ := HLd.out.at_ k hlt
        have z2 := HLd.out.frz (1 + k * 4 + 2)
        clear b0 b1 b3
        go_wp2_with fail
        go_roundw
        case rel =>
          obtain ⟨o1, o2, o3, o4⟩ := older_had (HL.out.ok k hlt) HH.out
          have hm : (older F (f k)).age = m := by rw [o3, HM.out, ← HA.out]
          refine ⟨k + 1, by omega, by go_num, Lib.hid ?_, Lib.hid (HKd.out.store b _ _ rfl)⟩
          rw [← hm]
          refine (HLd.out.age k hlt (older F (f k)) (ok_older (HL.out.ok k hlt)) (by rw [if_neg (by omega), o1, HH.out]) (by rw [if_neg (by omega), o2]) (fun hf => ?_)).ext fun j hj => ?_
          · have hff : isF F (older F (f k)) = true := by simpa using hf
            rcases o4 with e | e
            · rw [e]
              have hfr : isF F (f k) = true := by
                have h1 := (isF_iff.1 hff).2
                have h2 := (HL.out.ok k hlt).age
                exact isF_iff.2 ⟨HH.out, by omega⟩
              have := HLd.out.dat k hlt (.inr (by rw [if_neg (by omega)]; exact hfr))
              rw [if_neg (by omega)] at this
              exact this
            · rw [e] at hff; cases hff
          · by_cases e : j = k
            · subst e; rw [upd_same, if_pos (by omega)]
            · rw [upd_other _ _ _ e]
              by_cases e2 : j < k
              · rw [if_pos e2, if_pos (by omega)]
              · rw [if_neg e2, if_neg (by omega)]
        case measure => simp [intOf]; omega
    · obtain rfl : k = 16 := by omega
      clear hk hlt
      go_wp2
      go_end0
      refine ⟨rfl, v, D, ?_, fun g hg => .inl hg, HKr.out⟩
      exact HLr.out.ext fun j hj => by rw [if_pos hj]
end Go.Proofs.YtmfgfjkpijmgoaaDoor
