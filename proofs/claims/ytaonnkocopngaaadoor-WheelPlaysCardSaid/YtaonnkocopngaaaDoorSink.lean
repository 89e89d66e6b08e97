/-
  sink: what lies in slots that are reached goes down, from the highest level on.
-/
import Derived.Test.YtaonnkocopngaaaDoorLower
namespace Go.Proofs.YtaonnkocopngaaaDoor
open Go.RowKit

variable {b tb n now : Nat} {vs vs1 : Nat → Value} {en : Nat → Ent} {S : Nat → List Nat} {w wr : World} {k j : Nat} {t : Nat → Nat}
theorem low_mem {S : Nat → List Nat} {k : Nat} {t : Nat → Nat} (h : ∀ j, ∀ i ∈ S j, i < n) : ∀ j, ∀ i ∈ low S k t j, i < n := by
  intro j i hi
  unfold low at hi
  split at hi
  · simp at hi
  · rcases List.mem_append.1 hi with h1 | h1
    · exact h j i h1
    · exact h k i (List.mem_filter.1 h1).1
theorem low_len {S : Nat → List Nat} {k : Nat} {t : Nat → Nat} {m m' : Nat} (h : ∀ j, (S j).length ≤ m) (hm : 2 * m ≤ m') : ∀ j, (low S k t j).length ≤ m' := by
  intro j
  unfold low
  split
  · simp
  · have h1 := h j
    have h2 := h k
    have h3 := List.length_filter_le (fun i => t i == j) (S k)
    rw [List.length_append]
    omega
theorem Wh.drewN (h : Wh w b tb n now vs en S) (m : Nat) : Wh (w.drewN m) b tb n now vs en S := h.below (below_drewN w m)
theorem Keep.more {F : Nat → Prop} {w wr : World} (h : Keep F w wr) (m : Nat) : Keep F w (wr.drewN m) := ⟨h.os, h.tape, h.output, h.size, h.block⟩
theorem foot {F G H : Nat → Prop} {w w1 : World} {E : Nat → Prop} (h : Keep E w w1) (h1 : ∀ g, G g → F g ∨ w.heap.size ≤ g) (h2 : ∀ g, H g → G g ∨ w1.heap.size ≤ g) : ∀ g, H g → F g ∨ w.heap.size ≤ g := fun g hg => by
  rcases h2 g hg with h3 | h3
  · exact h1 g h3
  · right
    have := h.size
    omega

set_option maxHeartbeats 2000000 in
theorem sink_3 (h : Wh w b tb n now vs en S) (ht : Tim now) (hd : ∀ i, Tim (en i).due) (hS : ∀ j, ∀ i ∈ S j, i < n) (hlen : ∀ j, (S j).length ≤ 100) (h3 : now % 262144 = 0) :
    Calls Tryd.prog 33 #[.pointer (some ⟨b, 0, none⟩)] w fun e w' => e = .returned (.tuple #[]) ∧ Lowered b tb n now vs en (sunk S now fun i => (en i).due) w w' := by
  have HW := Lib.hid h
  have HS := Lib.hid hS
  have HL := Lib.hid hlen
  have HT := Lib.hid ht
  have HD := Lib.hid hd
  have H3 := Lib.hid h3
  have HK := Lib.hid (Keep.refl (Fp b tb vs) w)
  have HF := Lib.hid (show ∀ g, Fp b tb vs g → Fp b tb vs g ∨ w.heap.size ≤ g from fun _ h => .inl h)
  clear h hS hlen ht hd h3
  go_enter Tryd.func33, Tryd.ntmps33
  go_wp2_with fail
  (with_reducible refine (reaches_any HW.out 3 3 rfl (.inr (.inr rfl)) HT.out true (by simp [H3.out])).mono ?_)
  rintro e w1 ⟨rfl, m1, hm⟩
  have HW1 := Lib.hid (show Wh w1 b tb n now vs en S by rw [hm]; exact HW.out.drewN _)
  have HK1 := Lib.hid (show Keep (Fp b tb vs) w w1 by rw [hm]; exact HK.out.more _)
  clear hm HW HK
  go_wp2_with fail
  (with_reducible refine (lower_3 (t := fun i => 128 + (en i).due / 4096 % 64) HW1.out HT.out HD.out (fun _ => rfl) _ rfl (HS.out _) (fun j => Nat.le_trans (HL.out j) (by decide))).mono ?_)
  rintro e w2 ⟨rfl, vs2, hw, hk, hf⟩
  have HW2 := Lib.hid hw
  have HK2 := Lib.hid (HK1.out.trans hk HF.out)
  have HF2 := Lib.hid (foot HK1.out HF.out hf)
  have HS2 := Lib.hid (low_mem (k := 192 + now / 262144 % 64) (t := fun i => 128 + (en i).due / 4096 % 64) HS.out)
  have HL2 := Lib.hid (low_len (k := 192 + now / 262144 % 64) (t := fun i => 128 + (en i).due / 4096 % 64) (m' := 200) HL.out (by decide))
  clear hw hk hf HW1 HK1 HF HS HL
  go_wp2_with fail
  (with_reducible refine (lower_2 (t := fun i => 64 + (en i).due / 64 % 64) HW2.out HT.out HD.out (fun _ => rfl) _ rfl (HS2.out _) (fun j => Nat.le_trans (HL2.out j) (by decide))).mono ?_)
  rintro e w3 ⟨rfl, vs3, hw, hk, hf⟩
  have HW3 := Lib.hid hw
  have HK3 := Lib.hid (HK2.out.trans hk HF2.out)
  have HF3 := Lib.hid (foot HK2.out HF2.out hf)
  have HS3 := Lib.hid (low_mem (k := 128 + now / 4096 % 64) (t := fun i => 64 + (en i).due / 64 % 64) HS2.out)
  have HL3 := Lib.hid (low_len (k := 128 + now / 4096 % 64) (t := fun i => 64 + (en i).due / 64 % 64) (m' := 400) HL2.out (by decide))
  clear hw hk hf HW2 HK2 HF2 HS2 HL2
  go_wp2_with fail
  (with_reducible refine (lower_1 (t := fun i => (en i).due % 64) HW3.out HT.out HD.out (fun _ => rfl) _ rfl (HS3.out _) (fun j => Nat.le_trans (HL3.out j) (by decide))).mono ?_)
  rintro e w4 ⟨rfl, vs4, hw, hk, hf⟩
  have HW4 := Lib.hid hw
  have HK4 := Lib.hid (HK3.out.trans hk HF3.out)
  have HF4 := Lib.hid (foot HK3.out HF3.out hf)
  have HS4 := Lib.hid (low_mem (k := 64 + now / 64 % 64) (t := fun i => (en i).due % 64) HS3.out)
  have HL4 := Lib.hid (low_len (k := 64 + now / 64 % 64) (t := fun i => (en i).due % 64) (m' := 800) HL3.out (by decide))
  clear hw hk hf HW3 HK3 HF3 HS3 HL3
  go_wp2_with fail
  go_end0
  refine ⟨rfl, _, ?_, HK4.out, HF4.out⟩
  unfold sunk
  rw [if_pos H3.out]
  exact HW4.out

set_option maxHeartbeats 2000000 in
theorem sink_2 (h : Wh w b tb n now vs en S) (ht : Tim now) (hd : ∀ i, Tim (en i).due) (hS : ∀ j, ∀ i ∈ S j, i < n) (hlen : ∀ j, (S j).length ≤ 100) (h3 : ¬ now % 262144 = 0) (h2 : now % 4096 = 0) :
    Calls Tryd.prog 33 #[.pointer (some ⟨b, 0, none⟩)] w fun e w' => e = .returned (.tuple #[]) ∧ Lowered b tb n now vs en (sunk S now fun i => (en i).due) w w' := by
  have HW := Lib.hid h
  have HS := Lib.hid hS
  have HL := Lib.hid hlen
  have HT := Lib.hid ht
  have HD := Lib.hid hd
  have H3 := Lib.hid h3
  have H2 := Lib.hid h2
  have HK := Lib.hid (Keep.refl (Fp b tb vs) w)
  have HF := Lib.hid (show ∀ g, Fp b tb vs g → Fp b tb vs g ∨ w.heap.size ≤ g from fun _ h => .inl h)
  clear h hS hlen ht hd h3 h2
  go_enter Tryd.func33, Tryd.ntmps33
  go_wp2_with fail
  (with_reducible refine (reaches_any HW.out 3 3 rfl (.inr (.inr rfl)) HT.out false (by simp [H3.out])).mono ?_)
  rintro e w1 ⟨rfl, m1, hm⟩
  have HW1 := Lib.hid (show Wh w1 b tb n now vs en S by rw [hm]; exact HW.out.drewN _)
  have HK1 := Lib.hid (show Keep (Fp b tb vs) w w1 by rw [hm]; exact HK.out.more _)
  clear hm HW HK
  go_wp2_with fail
  (with_reducible refine (reaches_any HW1.out 2 2 rfl (.inr (.inl rfl)) HT.out true (by simp [H2.out])).mono ?_)
  rintro e w2 ⟨rfl, m2, hm⟩
  have HW2 := Lib.hid (show Wh w2 b tb n now vs en S by rw [hm]; exact HW1.out.drewN _)
  have HK2 := Lib.hid (show Keep (Fp b tb vs) w w2 by rw [hm]; exact HK1.out.more _)
  clear hm HW1 HK1
  go_wp2_with fail
  (with_reducible refine (lower_2 (t := fun i => 64 + (en i).due / 64 % 64) HW2.out HT.out HD.out (fun _ => rfl) _ rfl (HS.out _) (fun j => Nat.le_trans (HL.out j) (by decide))).mono ?_)
  rintro e w3 ⟨rfl, vs3, hw, hk, hf⟩
  have HW3 := Lib.hid hw
  have HK3 := Lib.hid (HK2.out.trans hk HF.out)
  have HF3 := Lib.hid (foot HK2.out HF.out hf)
  have HS3 := Lib.hid (low_mem (k := 128 + now / 4096 % 64) (t := fun i => 64 + (en i).due / 64 % 64) HS.out)
  have HL3 := Lib.hid (low_len (k := 128 + now / 4096 % 64) (t := fun i => 64 + (en i).due / 64 % 64) (m' := 200) HL.out (by decide))
  clear hw hk hf HW2 HK2 HF HS HL
  go_wp2_with fail
  (with_reducible refine (lower_1 (t := fun i => (en i).due % 64) HW3.out HT.out HD.out (fun _ => rfl) _ rfl (HS3.out _) (fun j => Nat.le_trans (HL3.out j) (by decide))).mono ?_)
  rintro e w4 ⟨rfl, vs4, hw, hk, hf⟩
  have HW4 := Lib.hid hw
  have HK4 := Lib.hid (HK3.out.trans hk HF3.out)
  have HF4 := Lib.hid (foot HK3.out HF3.out hf)
  have HS4 := Lib.hid (low_mem (k := 64 + now / 64 % 64) (t := fun i => (en i).due % 64) HS3.out)
  have HL4 := Lib.hid (low_len (k := 64 + now / 64 % 64) (t := fun i => (en i).due % 64) (m' := 400) HL3.out (by decide))
  clear hw hk hf HW3 HK3 HF3 HS3 HL3
  go_wp2_with fail
  go_end0
  refine ⟨rfl, _, ?_, HK4.out, HF4.out⟩
  unfold sunk
  rw [if_neg H3.out, if_pos H2.out]
  exact HW4.out

set_option maxHeartbeats 2000000 in
theorem sink_1 (h : Wh w b tb n now vs en S) (ht : Tim now) (hd : ∀ i, Tim (en i).due) (hS : ∀ j, ∀ i ∈ S j, i < n) (hlen : ∀ j, (S j).length ≤ 100) (h3 : ¬ now % 262144 = 0) (h2 : ¬ now % 4096 = 0) (h1 : now % 64 = 0) :
    Calls Tryd.prog 33 #[.pointer (some ⟨b, 0, none⟩)] w fun e w' => e = .returned (.tuple #[]) ∧ Lowered b tb n now vs en (sunk S now fun i => (en i).due) w w' := by
  have HW := Lib.hid h
  have HS := Lib.hid hS
  have HL := Lib.hid hlen
  have HT := Lib.hid ht
  have HD := Lib.hid hd
  have H3 := Lib.hid h3
  have H2 := Lib.hid h2
  have H1 := Lib.hid h1
  have HK := Lib.hid (Keep.refl (Fp b tb vs) w)
  have HF := Lib.hid (show ∀ g, Fp b tb vs g → Fp b tb vs g ∨ w.heap.size ≤ g from fun _ h => .inl h)
  clear h hS hlen ht hd h3 h2 h1
  go_enter Tryd.func33, Tryd.ntmps33
  go_wp2_with fail
  (with_reducible refine (reaches_any HW.out 3 3 rfl (.inr (.inr rfl)) HT.out false (by simp [H3.out])).mono ?_)
  rintro e w1 ⟨rfl, m1, hm⟩
  have HW1 := Lib.hid (show Wh w1 b tb n now vs en S by rw [hm]; exact HW.out.drewN _)
  have HK1 := Lib.hid (show Keep (Fp b tb vs) w w1 by rw [hm]; exact HK.out.more _)
  clear hm HW HK
  go_wp2_with fail
  (with_reducible refine (reaches_any HW1.out 2 2 rfl (.inr (.inl rfl)) HT.out false (by simp [H2.out])).mono ?_)
  rintro e w2 ⟨rfl, m2, hm⟩
  have HW2 := Lib.hid (show Wh w2 b tb n now vs en S by rw [hm]; exact HW1.out.drewN _)
  have HK2 := Lib.hid (show Keep (Fp b tb vs) w w2 by rw [hm]; exact HK1.out.more _)
  clear hm HW1 HK1
  go_wp2_with fail
  (with_reducible refine (reaches_any HW2.out 1 1 rfl (.inl rfl) HT.out true (by simp [H1.out])).mono ?_)
  rintro e w3 ⟨rfl, m3, hm⟩
  have HW3 := Lib.hid (show Wh w3 b tb n now vs en S by rw [hm]; exact HW2.out.drewN _)
  have HK3 := Lib.hid (show Keep (Fp b tb vs) w w3 by rw [hm]; exact HK2.out.more _)
  clear hm HW2 HK2
  go_wp2_with fail
  (with_reducible refine (lower_1 (t := fun i => (en i).due % 64) HW3.out HT.out HD.out (fun _ => rfl) _ rfl (HS.out _) (fun j => Nat.le_trans (HL.out j) (by decide))).mono ?_)
  rintro e w4 ⟨rfl, vs4, hw, hk, hf⟩
  have HW4 := Lib.hid hw
  have HK4 := Lib.hid (HK3.out.trans hk HF.out)
  have HF4 := Lib.hid (foot HK3.out HF.out hf)
  have HS4 := Lib.hid (low_mem (k := 64 + now / 64 % 64) (t := fun i => (en i).due % 64) HS.out)
  have HL4 := Lib.hid (low_len (k := 64 + now / 64 % 64) (t := fun i => (en i).due % 64) (m' := 200) HL.out (by decide))
  clear hw hk hf HW3 HK3 HF HS HL
  go_wp2_with fail
  go_end0
  refine ⟨rfl, _, ?_, HK4.out, HF4.out⟩
  unfold sunk
  rw [if_neg H3.out, if_neg H2.out, if_pos H1.out]
  exact HW4.out

set_option maxHeartbeats 2000000 in
theorem sink_0 (h : Wh w b tb n now vs en S) (ht : Tim now) (hd : ∀ i, Tim (en i).due) (hS : ∀ j, ∀ i ∈ S j, i < n) (hlen : ∀ j, (S j).length ≤ 100) (h3 : ¬ now % 262144 = 0) (h2 : ¬ now % 4096 = 0) (h1 : ¬ now % 64 = 0) :
    Calls Tryd.prog 33 #[.pointer (some ⟨b, 0, none⟩)] w fun e w' => e = .returned (.tuple #[]) ∧ Lowered b tb n now vs en (sunk S now fun i => (en i).due) w w' := by
  have HW := Lib.hid h
  have HS := Lib.hid hS
  have HL := Lib.hid hlen
  have HT := Lib.hid ht
  have HD := Lib.hid hd
  have H3 := Lib.hid h3
  have H2 := Lib.hid h2
  have H1 := Lib.hid h1
  have HK := Lib.hid (Keep.refl (Fp b tb vs) w)
  have HF := Lib.hid (show ∀ g, Fp b tb vs g → Fp b tb vs g ∨ w.heap.size ≤ g from fun _ h => .inl h)
  clear h hS hlen ht hd h3 h2 h1
  go_enter Tryd.func33, Tryd.ntmps33
  go_wp2_with fail
  (with_reducible refine (reaches_any HW.out 3 3 rfl (.inr (.inr rfl)) HT.out false (by simp [H3.out])).mono ?_)
  rintro e w1 ⟨rfl, m1, hm⟩
  have HW1 := Lib.hid (show Wh w1 b tb n now vs en S by rw [hm]; exact HW.out.drewN _)
  have HK1 := Lib.hid (show Keep (Fp b tb vs) w w1 by rw [hm]; exact HK.out.more _)
  clear hm HW HK
  go_wp2_with fail
  (with_reducible refine (reaches_any HW1.out 2 2 rfl (.inr (.inl rfl)) HT.out false (by simp [H2.out])).mono ?_)
  rintro e w2 ⟨rfl, m2, hm⟩
  have HW2 := Lib.hid (show Wh w2 b tb n now vs en S by rw [hm]; exact HW1.out.drewN _)
  have HK2 := Lib.hid (show Keep (Fp b tb vs) w w2 by rw [hm]; exact HK1.out.more _)
  clear hm HW1 HK1
  go_wp2_with fail
  (with_reducible refine (reaches_any HW2.out 1 1 rfl (.inl rfl) HT.out false (by simp [H1.out])).mono ?_)
  rintro e w3 ⟨rfl, m3, hm⟩
  have HW3 := Lib.hid (show Wh w3 b tb n now vs en S by rw [hm]; exact HW2.out.drewN _)
  have HK3 := Lib.hid (show Keep (Fp b tb vs) w w3 by rw [hm]; exact HK2.out.more _)
  clear hm HW2 HK2
  go_wp2_with fail
  go_end0
  refine ⟨rfl, _, ?_, HK3.out, HF.out⟩
  unfold sunk
  rw [if_neg H3.out, if_neg H2.out, if_neg H1.out]
  exact HW3.out

theorem sink_any (h : Wh w b tb n now vs en S) (ht : Tim now) (hd : ∀ i, Tim (en i).due) (hS : ∀ j, ∀ i ∈ S j, i < n) (hlen : ∀ j, (S j).length ≤ 100) :
    Calls Tryd.prog 33 #[.pointer (some ⟨b, 0, none⟩)] w fun e w' => e = .returned (.tuple #[]) ∧ Lowered b tb n now vs en (sunk S now fun i => (en i).due) w w' := by
  by_cases h3 : now % 262144 = 0
  · exact sink_3 h ht hd hS hlen h3
  · by_cases h2 : now % 4096 = 0
    · exact sink_2 h ht hd hS hlen h3 h2
    · by_cases h1 : now % 64 = 0
      · exact sink_1 h ht hd hS hlen h3 h2 h1
      · exact sink_0 h ht hd hS hlen h3 h2 h1
end Go.Proofs.YtaonnkocopngaaaDoor
