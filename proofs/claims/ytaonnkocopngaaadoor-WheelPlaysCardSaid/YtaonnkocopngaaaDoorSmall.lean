/-
  The small case of every law of layer 5: true.
-/
import Derived.Test.YtaonnkocopngaaaDoorSame
namespace Go.Proofs.YtaonnkocopngaaaDoor
open Go.RowKit

variable {b n now : Nat} {A : List Tm} {fp : Nat → Prop} {w w1 w2 : World}
theorem After.on (h : After w1 w2 b n now A fp) (hb : Below w.heap.size w w1) (hp : ∀ g, fp g → w.heap.size ≤ g) : ∃ fp', Wl w2 b n now A fp' ∧ Below w.heap.size w w2 ∧ (∀ g, fp' g → w.heap.size ≤ g) ∧ Keep fp w1 w2 ∧ ∀ g, fp' g → fp g ∨ w1.heap.size ≤ g := by
  obtain ⟨fp', h1, h2, h3⟩ := h
  refine ⟨fp', h1, hb.trans (h2.below hp hb.size), fun g hg => ?_, h2, h3⟩
  rcases h3 g hg with h4 | h4
  · exact hp g h4
  · have := hb.size; omega

theorem tick_on (h : Wl w1 b n now A fp) (hn : now ≤ 100000000) (hb : Below w.heap.size w w1) (hp : ∀ g, fp g → w.heap.size ≤ g) :
    Calls Tryd.prog 17 #[.pointer (some ⟨b, 0, none⟩)] w1 fun e w2 => ∃ v, e = .returned v ∧ Ints w2 v ((A.filter fun a => a.due == now + 1).map Tm.tag) ∧ ∃ fp', Wl w2 b n (now + 1) (A.filter fun a => a.due != now + 1) fp' ∧ Below w.heap.size w w2 ∧ (∀ g, fp' g → w.heap.size ≤ g) ∧ Keep fp w1 w2 ∧ (∀ g, fp' g → fp g ∨ w1.heap.size ≤ g) ∧ ∀ g, v.ownBlock = some g → w1.heap.size ≤ g ∧ ¬ fp' g :=
  (tick_any h hn).mono fun e w2 ⟨v, h1, h2, fp', h3, h4, h5, h6⟩ => ⟨v, h1, h2, fp', h3, hb.trans (h4.below hp hb.size), fun g hg => by
    rcases h5 g hg with h | h
    · exact hp g h
    · have := hb.size; omega, h4, h5, h6⟩
/-- A cell that is none of the wheel's. -/
def Far (fp : Nat → Prop) (w : World) (g o : Nat) (v : Value) : Prop := w.cell? ⟨g, o, none⟩ = some v ∧ ¬ fp g
theorem Far.on {fp' : Nat → Prop} {g o : Nat} {v : Value} (h : Far fp w1 g o v) (hk : Keep fp w1 w2) (hf : ∀ g, fp' g → fp g ∨ w1.heap.size ≤ g) : Far fp' w2 g o v := by
  have hlt := lt_of_cell h.1
  refine ⟨?_, fun h2 => ?_⟩
  · rw [World.cell?_of_block (w := w1) (a := ⟨g, o, none⟩) (hk.block g hlt h.2)]; exact h.1
  · rcases hf g h2 with h3 | h3
    · exact h.2 h3
    · omega
theorem Far.still {g o : Nat} {v : Value} (h : Far fp w1 g o v) (hb : Below w1.heap.size w1 w2) : Far fp w2 g o v := ⟨below_cell hb h.1, h.2⟩
/-- A row that is none of the wheel's. -/
def Off (fp : Nat → Prop) (w : World) (v : Value) (xs : List Int) : Prop := Ints w v xs ∧ ∀ g, v.ownBlock = some g → ¬ fp g
theorem Off.on {fp' : Nat → Prop} {v : Value} {xs : List Int} (h : Off fp w1 v xs) (hk : Keep fp w1 w2) (hf : ∀ g, fp' g → fp g ∨ w1.heap.size ≤ g) : Off fp' w2 v xs := by
  refine ⟨h.1.keep hk h.2, fun g hg h2 => ?_⟩
  have := h.1.lt hg
  rcases hf g h2 with h3 | h3
  · exact h.2 g hg h3
  · omega
theorem Off.still {v : Value} {xs : List Int} (h : Off fp w1 v xs) (hb : Below w1.heap.size w1 w2) : Off fp w2 v xs := ⟨h.1.keep (Keep.of_below (F := fun _ => False) hb) (fun _ _ h => h), h.2⟩
theorem least_nil (n : Nat) (h : 0 < n) : Least n [] 0 := ⟨h, by simp, fun i hi => by omega⟩

set_option maxHeartbeats 2000000 in
theorem small_true (w : World) : Calls Tryd.prog 9 #[] w fun e w' => e = .returned (.bool true) ∧ Below w.heap.size w w' := by
  go_enter Tryd.func9, Tryd.ntmps9
  go_wp2_with fail
  (with_reducible refine (new_any 1 1 (by decide) _).mono ?_)
  rintro e w1 ⟨b, fp, rfl, hw, hb, hp⟩
  have HW := Lib.hid hw
  have HB := Lib.hid hb
  have HP := Lib.hid hp
  clear hw hb hp
  go_wp2_with fail
  (with_reducible refine (arm_ok HW.out (by decide) 0 2 (least_nil 1 (by decide)) 2 7 rfl (by decide) (by decide)).mono ?_)
  rintro e w2 ⟨rfl, ha⟩
  obtain ⟨fp2, hw, hb, hp, _, _⟩ := ha.on HB.out HP.out
  have HW2 := Lib.hid hw
  have HB2 := Lib.hid hb
  have HP2 := Lib.hid hp
  clear ha hw hb hp HW HB HP
  go_wp2_with fail
  (with_reducible refine (arm_full HW2.out rfl 1 8 (by decide) (by decide)).mono ?_)
  rintro e w3 ⟨g1, hg, rfl, hc, hb⟩
  have HC1 := Lib.hid (show Far fp2 w3 g1 1 (.int .i64 5) from ⟨hc, fun h => by have := HW2.out.lt g1 h; omega⟩)
  have HW3 := Lib.hid (HW2.out.below hb)
  have HB3 := Lib.hid (below_call HB2.out hb)
  clear hg hc hb HW2 HB2
  go_wp2_with fail
  (with_reducible refine (arm_range b 0 8 (.inl (by decide)) _).mono ?_)
  rintro e w4 ⟨g2, hg, rfl, hc, hb⟩
  have HC2 := Lib.hid (show Far fp2 w4 g2 1 (.int .i64 6) from ⟨hc, fun h => by have := HW3.out.lt g2 h; omega⟩)
  have HC12 := Lib.hid (HC1.out.still hb)
  have HW4 := Lib.hid (HW3.out.below hb)
  have HB4 := Lib.hid (below_call HB3.out hb)
  clear hg hc hb HW3 HB3 HC1
  go_wp2_with fail
  (with_reducible refine (left_in HW4.out (by decide) ⟨0, 7, 2⟩ (by simp) 0 rfl).mono ?_)
  rintro e w5 ⟨rfl, hb⟩
  have HC1 := Lib.hid (HC12.out.still hb)
  have HC25 := Lib.hid (HC2.out.still hb)
  have HW5 := Lib.hid (HW4.out.below hb)
  have HB5 := Lib.hid (below_call HB4.out hb)
  clear hb HW4 HB4 HC2 HC12
  go_wp2_with fail
  (with_reducible refine (tick_on HW5.out (by decide) HB5.out HP2.out).mono ?_)
  rintro e w6 ⟨va, rfl, ho, fp6, hw, hb, hp, hk, hf, hv⟩
  obtain ⟨a6, c6, rfl⟩ := Own.len ho
  rw [show (List.map Tm.tag (([] ++ [⟨0, 7, 0 + 2⟩] : List Tm).filter fun a => a.due == 0 + 1)).length = 0 from rfl] at ho hv ⊢
  rw [show (([] ++ [⟨0, 7, 0 + 2⟩] : List Tm).filter fun a => a.due != 0 + 1) = [⟨0, 7, 2⟩] from rfl] at hw
  have HC2 := Lib.hid (HC25.out.on hk hf)
  have HC12 := Lib.hid (HC1.out.on hk hf)
  have HW6 := Lib.hid hw
  have HB6 := Lib.hid hb
  have HP6 := Lib.hid hp
  clear ho hw hb hp hk hf hv HW5 HB5 HC1 HC25
  go_wp2_with fail
  (with_reducible refine (tick_on HW6.out (by decide) HB6.out HP6.out).mono ?_)
  rintro e w7 ⟨vb, rfl, ho, fp7, hw, hb, hp, hk, hf, hv⟩
  obtain ⟨a7, c7, rfl⟩ := Own.len ho
  rw [show (([⟨0, 7, 2⟩] : List Tm).filter fun a => a.due == 0 + 1 + 1) = [⟨0, 7, 2⟩] from rfl] at ho hv ⊢
  rw [show (([⟨0, 7, 2⟩] : List Tm).filter fun a => a.due != 0 + 1 + 1) = [] from rfl] at hw
  rw [show (([⟨0, 7, 2⟩] : List Tm).map Tm.tag) = [7] from rfl] at ho hv ⊢
  rw [show ([7] : List Int).length = 1 from rfl] at ho hv ⊢
  have HO := Lib.hid (show Off fp7 w7 (.slice a7 1 c7) [7] from ⟨ho, fun g hg => (hv g hg).2⟩)
  have HC1 := Lib.hid (HC12.out.on hk hf)
  have HC25 := Lib.hid (HC2.out.on hk hf)
  have HW7 := Lib.hid hw
  have HB7 := Lib.hid hb
  have HP7 := Lib.hid hp
  clear ho hw hb hp hk hf hv HW6 HB6 HC12 HC2
  go_wp2_with fail
  (with_reducible refine (cancel_out HW7.out 0 (by simp)).mono ?_)
  rintro e w8 ⟨rfl, hb⟩
  have HO8 := Lib.hid (HO.out.still hb)
  have HC12 := Lib.hid (HC1.out.still hb)
  have HC2 := Lib.hid (HC25.out.still hb)
  have HW8 := Lib.hid (HW7.out.below hb)
  have HB8 := Lib.hid (below_call HB7.out hb)
  clear hb HW7 HB7 HC1 HC25 HO
  go_wp2_with fail
  (with_reducible refine (arm_ok HW8.out (by decide) 0 5 (least_nil 1 (by decide)) 5 9 rfl (by decide) (by decide)).mono ?_)
  rintro e w9 ⟨rfl, ha⟩
  obtain ⟨fp9, hw, hb, hp, hk, hf⟩ := ha.on HB8.out HP7.out
  have HO := Lib.hid (HO8.out.on hk hf)
  have HC1 := Lib.hid (HC12.out.on hk hf)
  have HC25 := Lib.hid (HC2.out.on hk hf)
  have HW9 := Lib.hid hw
  have HB9 := Lib.hid hb
  have HP9 := Lib.hid hp
  clear ha hw hb hp hk hf HW8 HB8 HC12 HC2 HO8
  go_wp2_with fail
  (with_reducible refine (cancel_in HW9.out (by decide) ⟨0, 9, 7⟩ (by simp) 0 rfl).mono ?_)
  rintro e w10 ⟨rfl, ha⟩
  obtain ⟨fp10, hw, hb, hp, hk, hf⟩ := ha.on HB9.out HP9.out
  have HO8 := Lib.hid (HO.out.on hk hf)
  have HC12 := Lib.hid (HC1.out.on hk hf).1
  have HC2 := Lib.hid (HC25.out.on hk hf).1
  have HW10 := Lib.hid hw
  have HB10 := Lib.hid hb
  clear ha hw hb hp hk hf HW9 HB9 HC1 HC25 HO
  go_wp2_with fail
  (with_reducible refine (code_place g1 5 _ HC12.out).mono ?_)
  rintro e w11 ⟨rfl, hw⟩
  cases hw
  go_wp2_with fail
  (with_reducible refine (code_place g2 6 _ HC2.out).mono ?_)
  rintro e w11 ⟨rfl, hw⟩
  cases hw
  have hb11 := below_alloc (Below.refl w10.heap.size w10) (.cells #[.int .i64 7] 3)
  have HS := Lib.hid (same_any _ _ [7] [7] (HO8.out.still hb11).1 (own_one w10 7) (by decide) true (by decide))
  have HB11 := Lib.hid (below_call HB10.out hb11)
  have HW11 := Lib.hid (HW10.out.below hb11)
  clear hb11
  go_wp2_with fail
  (with_reducible refine HS.out.mono ?_)
  rintro e w12 ⟨rfl, m, rfl⟩
  go_wp2_with fail
  (with_reducible refine (free_any (HW11.out.below (below_drewN _ m))).mono ?_)
  rintro e w13 ⟨rfl, hb⟩
  have HB13 := Lib.hid (below_call (below_call HB11.out (below_drewN _ m)) hb)
  clear hb
  go_wp2_with fail
  go_ret
  exact ⟨rfl, HB13.out⟩
end Go.Proofs.YtaonnkocopngaaaDoor
