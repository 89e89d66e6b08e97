/-
  sensor's lay and said by contracts.
-/
import Derived.Test.YtnbhjnbdnngiiaaSnMath
import Derived.Test.YtnbhjnbdnngiiaaBlk
namespace Go.Proofs.Ytnbhjnbdnngiiaa
open Go.RowKit

/-- The byte of these bits, the lowest first. -/
def lay1 : List Bool → Int
  | [] => 0
  | b :: r => (if b then 1 else 0) + 2 * lay1 r
theorem lay1_range (bs : List Bool) (h : bs.length ≤ 4) : 0 ≤ lay1 bs ∧ lay1 bs ≤ 15 := by
  match bs, h with
  | [], _ => simp [lay1]
  | [a], _ => cases a <;> simp [lay1]
  | [a, b], _ => cases a <;> cases b <;> simp [lay1]
  | [a, b, c], _ => cases a <;> cases b <;> cases c <;> simp [lay1]
  | [a, b, c, d], _ => cases a <;> cases b <;> cases c <;> cases d <;> simp [lay1]
theorem lay1_next : ∀ (j : Nat) (bs : List Bool) (b : Bool), bs[j]? = some b → lay1 (bs.take (j + 1)) = lay1 (bs.take j) + (if b then 2 ^ j else 0) ∧ 0 ≤ lay1 (bs.take j) ∧ lay1 (bs.take j) < 2 ^ j
  | 0, a :: r, b, h => by
    obtain rfl : a = b := by simpa using h
    simp [lay1]
  | 0, [], b, h => by simp at h
  | j + 1, [], b, h => by simp at h
  | j + 1, a :: r, b, h => by
    have ih := lay1_next j r b (by simpa using h)
    rw [List.take_succ_cons, List.take_succ_cons]
    simp only [lay1]
    have e : (2 : Int) ^ (j + 1) = 2 * 2 ^ j := by rw [Int.pow_succ]; omega
    rw [ih.1, e]
    generalize (2 : Int) ^ j = p at *
    cases a <;> cases b <;> simp at * <;> omega
theorem or_place (j : Nat) (hj : j ≤ 3) (x : Int) (h0 : 0 ≤ x) (h1 : x < 2 ^ j) : bits .or .u8 x (2 ^ j % 256) = x + 2 ^ j := by
  rcases (show j = 0 ∨ j = 1 ∨ j = 2 ∨ j = 3 by omega) with rfl | rfl | rfl | rfl
  · obtain rfl : x = 0 := by omega
    decide
  · rcases (show x = 0 ∨ x = 1 by omega) with rfl | rfl <;> decide
  · rcases (show x = 0 ∨ x = 1 ∨ x = 2 ∨ x = 3 by omega) with rfl | rfl | rfl | rfl <;> decide
  · rcases (show x = 0 ∨ x = 1 ∨ x = 2 ∨ x = 3 ∨ x = 4 ∨ x = 5 ∨ x = 6 ∨ x = 7 by omega) with rfl | rfl | rfl | rfl | rfl | rfl | rfl | rfl <;> decide
/-- A number as a byte. -/
def byteOf (n : Int) : BitVec 8 := BitVec.ofNat 8 n.toNat
theorem byteOf_nat {n : Int} (h0 : 0 ≤ n) (h1 : n ≤ 255) : ((byteOf n).toNat : Int) = n := by
  unfold byteOf
  simp
  omega
theorem sone_byte {n : Int} (h0 : 0 ≤ n) (h1 : n ≤ 255) : sone true [byteOf n] = n := byteOf_nat h0 h1
theorem byte_byts (w : World) {n : Int} (h0 : 0 ≤ n) (h1 : n ≤ 255) : Byts (w.alloc (.cells #[.int .u8 n] 5)) (.slice (some ⟨w.heap.size, 0, none⟩) 1 1) [byteOf n] :=
  lit_byts w _ 1 (0, 0) _ (by simp [cel, byteOf_nat h0 h1]) rfl
theorem byte_at (w : World) {n : Int} (h0 : 0 ≤ n) (h1 : n ≤ 255) (g : Nat) (hg : g = w.heap.size) : Byts (w.alloc (.cells #[.int .u8 n] 5)) (.slice (some ⟨g, 0, none⟩) 1 1) [byteOf n] := by
  subst hg
  exact byte_byts w h0 h1
theorem said_to (v : Value) (m : Bool) (w : World) : Calls Try.prog 28 #[v, .bool m] w fun e w' => e = .returned (if m then v else .slice none 0 0) ∧ w' = w := by
  cases m with
  | false =>
    go_enter Try.func28, Try.ntmps28
    go_wp2_with fail
    go_ret
    exact ⟨rfl, rfl⟩
  | true =>
    go_enter Try.func28, Try.ntmps28
    go_wp2_with fail
    go_ret
    exact ⟨rfl, rfl⟩
set_option maxHeartbeats 1000000 in
theorem lay_to (bs : List Bool) (n : Nat) (hn : bs.length = n) (hl : n ≤ 4) (g : Nat) (w : World) (hc : ∀ (j : Nat) b, bs[j]? = some b → w.cell? ⟨g, j, none⟩ = some (.bool b)) :
    Calls Try.prog 27 #[.slice (some ⟨g, 0, none⟩) n n] w fun e w' => e = .returned (.slice (some ⟨w.heap.size, 0, none⟩) 1 1) ∧ w' = w.alloc (.cells #[.int .u8 (lay1 bs)] 5) := by
  have HC := Lib.hid hc
  clear hc
  go_enter Try.func27, Try.ntmps27
  go_wp2_with fail
  go_loopw [3, 8] (fun m i wr => ∃ j : Nat, j ≤ n ∧ m = .int .u8 (lay1 (bs.take j)) ∧ i = .int .i64 (j : Int) ∧ wr = w) (fun _ i _ => ((n : Int) - intOf i).toNat)
  case atStart => exact ⟨0, by omega, by simp [lay1], rfl, rfl⟩
  case round =>
    obtain ⟨j, hj, rfl, rfl, rfl⟩ := hrel
    by_cases hlt : j < n
    · obtain ⟨b, hb⟩ : ∃ b, bs[j]? = some b := ⟨_, List.getElem?_eq_getElem (by omega)⟩
      have hcell := HC.out j b hb
      have hw2 : IntKind.i64.wrap ((j : Int) + 1) = (j : Int) + 1 := by rw [IntKind.wrap_i64]; omega
      obtain ⟨h1, h2, h3⟩ := lay1_next j bs b hb
      have HO := Lib.hid (or_place j (by omega) _ h2 h3)
      have HZ := Lib.hid h1
      clear h1 h2 h3
      go_wp2_with fail
      all_goals
        go_roundw
        case rel => exact ⟨j + 1, by omega, by rw [HZ.out]; simp [*, HO.out], by simp⟩
        case measure => simp [intOf]; omega
    · obtain rfl : j = n := by omega
      rw [List.take_of_length_le (by omega)]
      clear hlt hj
      go_wp2_with fail
      go_ret
      exact ⟨rfl, rfl⟩
end Go.Proofs.Ytnbhjnbdnngiiaa
