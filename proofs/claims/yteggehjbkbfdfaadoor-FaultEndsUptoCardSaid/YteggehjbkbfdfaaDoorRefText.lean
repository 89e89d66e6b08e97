/-
  crossbuckref01.Text by its contract, and that it is the text of the error.
-/
import Derived.Test.YteggehjbkbfdfaaDoorPlainLaw
namespace Go.Proofs.YteggehjbkbfdfaaDoor
open Go.RowKit Go.Extern.Stop Go.Stop Go.Extern

/-- Each place, a colon and a blank. -/
def preText : List ByteArray → ByteArray
  | [] => ⟨#[]⟩
  | p :: ps => p ++ (⟨#[58, 32]⟩ : ByteArray) ++ preText ps

theorem preText_snoc (ps : List ByteArray) (p : ByteArray) : preText (ps ++ [p]) = preText ps ++ p ++ (⟨#[58, 32]⟩ : ByteArray) := by
  induction ps with
  | nil => apply ba_ext; simp [preText, ByteArray.data_append]
  | cons q ps ih =>
    apply ba_ext
    simp [preText, ih, ByteArray.data_append]

theorem join_snoc (ps : List ByteArray) (s : ByteArray) : Lib.join ((ps ++ [s]).map (·.data.toList)) [58, 32] = (preText ps).data.toList ++ s.data.toList := by
  induction ps with
  | nil => simp [preText, Lib.join, List.intercalate]
  | cons p ps ih =>
    have e : ∃ a l, (ps ++ [s]).map (·.data.toList) = a :: l := by
      cases ps with
      | nil => exact ⟨_, _, rfl⟩
      | cons q r => exact ⟨_, _, rfl⟩
    obtain ⟨a, l, h⟩ := e
    have hj : Lib.join (p.data.toList :: a :: l) [58, 32] = p.data.toList ++ [58, 32] ++ Lib.join (a :: l) [58, 32] := by
      simp [Lib.join, List.intercalate]
    rw [List.cons_append, List.map_cons, h, hj, ← h, ih]
    simp [preText, ByteArray.data_append]

theorem chainText_pre (ps : List ByteArray) (s : ByteArray) : chainText ps s = preText ps ++ s := by
  apply ba_ext
  simp only [chainText, join_snoc]
  simp [ByteArray.data_append]

theorem preText_take_succ {xs : List ByteArray} {k : Nat} {x : ByteArray} (hx : xs[k]? = some x) : preText (xs.take (k + 1)) = preText (xs.take k) ++ x ++ (⟨#[58, 32]⟩ : ByteArray) := by
  obtain ⟨hk, rfl⟩ := List.getElem?_eq_some_iff.1 hx
  rw [List.take_succ_eq_append_getElem hk, preText_snoc]

theorem size_app (a b : ByteArray) : (a ++ b).size = a.size + b.size := ByteArray.size_append
theorem size_two : (⟨#[58, 32]⟩ : ByteArray).size = 2 := rfl

theorem preText_take_le (xs : List ByteArray) (k : Nat) : (preText (xs.take k)).size ≤ (preText xs).size := by
  induction xs generalizing k with
  | nil => simp
  | cons x xs ih =>
    cases k with
    | zero => exact Nat.zero_le _
    | succ k =>
      have := ih k
      simp only [List.take_succ_cons, preText, size_app, size_two]
      omega

theorem preText_at_le {xs : List ByteArray} {k : Nat} {x : ByteArray} (hx : xs[k]? = some x) : (preText (xs.take k)).size + x.size + 2 ≤ (preText xs).size := by
  have h1 := preText_take_le xs (k + 1)
  rw [preText_take_succ hx, size_app, size_app, size_two] at h1
  exact h1

set_option maxHeartbeats 2000000 in
set_option maxRecDepth 100000 in
theorem text_any (n : Int) (v : Value) (xs : List ByteArray) (w : World) (hv : Strs w v xs) (hl : xs.length ≤ 1000) (hi : ItoaOk n w) (hz : (preText xs).size ≤ 1000000000) :
    Calls Tryd.prog 14 #[v, .int .i64 n] w fun e w' => e = .returned (.string (chainText xs (numText n))) ∧ Below w.heap.size w w' := by
  obtain ⟨a, c, rfl⟩ := hv.len
  have HV := Lib.hid hv
  have HE := Lib.hid (errno_text n w hi)
  have hnz : (numText n).size ≤ 1000 := by
    have := hi.1
    unfold numText
    rw [size_app]
    have e1 : (⟨#[101, 114, 114, 111, 114, 32]⟩ : ByteArray).size = 6 := rfl
    have e2 : (⟨(Lib.itoa n).toArray⟩ : ByteArray).size = (Lib.itoa n).length := by simp [ByteArray.size]
    omega
  have HCT := Lib.hid (chainText_pre xs (numText n))
  generalize chainText xs (numText n) = T at *
  generalize numText n = N at *
  clear hv hi
  go_enter Tryd.func14, Tryd.ntmps14
  go_wp2_with fail
  go_loop [5, 6] (fun s i => ∃ k : Nat, k ≤ xs.length ∧ i = .int .i64 k ∧ s = .string (preText (xs.take k))) (fun _ i => xs.length - (intOf i).toNat)
  case atStart => exact ⟨0, Nat.zero_le _, rfl, rfl⟩
  case round =>
    obtain ⟨k, hk, rfl, rfl⟩ := hrel
    by_cases hlt : k < xs.length
    · obtain ⟨x, hx⟩ : ∃ x, xs[k]? = some x := ⟨_, List.getElem?_eq_getElem hlt⟩
      obtain ⟨g, o, cp, e1, hcp, _, hcell⟩ := HV.out.at k hlt
      rw [List.getElem?_eq_getElem hlt] at hx
      injection hx with hx
      rw [hx] at hcell
      have hx' : xs[k]? = some x := by rw [List.getElem?_eq_getElem hlt, hx]
      simp only [Value.slice.injEq] at e1
      obtain ⟨rfl, _, rfl⟩ := e1
      have hsz := preText_at_le hx'
      have HSN := Lib.hid (preText_take_succ hx')
      clear hx hx'
      generalize preText (xs.take k) = S0 at *
      have hltI : (k : Int) < (xs.length : Int) := by omega
      go_wp2_with fail
      go_round
      case rel => exact ⟨k + 1, by omega, by go_num, by rw [HSN.out]⟩
      case measure => simp [intOf]; omega
    · obtain rfl : k = xs.length := by omega
      rw [List.take_length]
      generalize preText xs = S0 at *
      go_wp2_with fail
      (with_reducible refine HE.out.mono ?_)
      rintro e w1 ⟨rfl, hb⟩
      go_wp2_with fail
      go_ret
      exact ⟨by rw [HCT.out]; rfl, hb⟩
end Go.Proofs.YteggehjbkbfdfaaDoor
