/-
  CrcOpen CrcOpens CrcRopen FrForm FrDec FrRdec FrPair: merged.
-/
import Derived.Deep.QuietTactic
import Derived.BigQuiet
import Derived.IntWalk
import Derived.Laws.CopyOwn
import Derived.RegionTactic
import Derived.ChangeAlike
import Derived.Test.YtolfdfbhignniaaDoorSums
import Derived.Test.YtolfdfbhignniaaDoorBase
/-
  crc.Open and the document's own, by contract.
-/
namespace Go.Proofs.YtolfdfbhignniaaDoor
open Go.RowKit

theorem below_drewN {B : Nat} {a w : World} (h : Below B a w) (n : Nat) : Below B a (w.drewN n) := ⟨h.os, h.tape, h.output, h.size, h.block⟩
theorem Byts.drewN {w : World} {v : Value} {xs : List (BitVec 8)} (h : Byts w v xs) (n : Nat) : Byts (w.drewN n) v xs := h
theorem or_cat (h l : BitVec 8) : bits .or .u16 ((h.toNat : Int) * 256) (l.toNat : Int) = ((cat h l).toNat : Int) := by
  have h1 := h.isLt
  have h2 := l.isLt
  rw [show (h.toNat : Int) * 256 = ((h.toNat * 256 : Nat) : Int) by simp, or16 _ _ (by omega) (by omega), or_parts _ _ (by omega), cat_toNat]

theorem neq16 {a b : BitVec 16} (h : a ≠ b) : ((a.toNat : Int) != (b.toNat : Int)) = true := by
  simp
  intro he
  exact h (BitVec.eq_of_toNat_eq (by omega))

theorem short_no (v : Value) (xs : List (BitVec 8)) (w : World) (hv : Byts w v xs) (hl : xs.length < 2) :
    Calls Tryd.prog 65 #[v] w fun e w' => e = .returned (.tuple #[.slice none 0 0, .bool false]) ∧ Below w.heap.size w w' := by
  obtain ⟨av, cv, ev⟩ := hv.len
  clear hv
  subst ev
  go_enter Tryd.func65, Tryd.ntmps65
  go_wp2
  go_ret2
  exact ⟨rfl, Below.refl _ _⟩

set_option maxHeartbeats 1000000 in
theorem other_no (g o n m cap : Nat) (xs : List (BitVec 8)) (h l : BitVec 8) (w : World) (hv : Byts w (.slice (some ⟨g, o, none⟩) n cap) xs) (hh : w.cell? ⟨g, o + n, none⟩ = some (.int .u8 (h.toNat : Int))) (hl : w.cell? ⟨g, o + (n + 1), none⟩ = some (.int .u8 (l.toNat : Int)))
    (hx : xs.length ≤ 140737488351232) (hm : m = n + 2) (hn : n ≤ 140737488351232) (hc : m ≤ cap) (hne : cat h l ≠ crcSum xs) :
    Calls Tryd.prog 65 #[.slice (some ⟨g, o, none⟩) m cap] w fun e w' => e = .returned (.tuple #[.slice none 0 0, .bool false]) ∧ Below w.heap.size w w' := by
  have hor := or_cat h l
  have h1 := h.isLt
  have h2 := l.isLt
  have b1 : (n : Int) < (m : Int) := by omega
  have b2 : (n : Int) + 1 < (m : Int) := by omega
  have b3 : n ≤ cap := by omega
  have e1 : (m : Int) - 2 = (n : Int) := by omega
  have e2 : IntKind.i64.wrap ((n : Int) + 1) = (n : Int) + 1 := IntWalk.i64_in _ (by omega)
  have e3 : ((n : Int) + 1).toNat = n + 1 := by omega
  have e4 : (0 : Int) ≤ (n : Int) + 1 := by omega
  have HM := Lib.hid hm
  have HV := Lib.hid hv
  have HE := Lib.hid (neq16 hne)
  clear hm hv hne
  go_enter Tryd.func65, Tryd.ntmps65
  go_wp2
  go_quiet (fail)
  go_wp2_with fail
  (with_reducible refine (sum_any _ xs _ (HV.out.drewN _) (by unfold maxLen; omega)).mono ?_)
  rintro e w1 ⟨rfl, rfl⟩
  have he := HE.out
  go_wp2_with fail
  go_ret2
  exact ⟨rfl, below_drewN (Below.refl _ _) _⟩

theorem own_block {w : World} {B g : Nat} {xs : List (BitVec 8)} (h : w.heap[g]? = some (.cells (xs.map cel).toArray 5 (0, 0))) (hB : B ≤ g) (hm : xs.length ≤ maxLen) : Own w B (.slice (some ⟨g, 0, none⟩) xs.length xs.length) xs :=
  ⟨by simp, .inr ⟨g, xs.length, _, rfl, hB, h, Nat.le_refl _, hm, by simp, by simp [List.take_of_length_le]⟩⟩
theorem szU8 : (Tryd.prog.info? 5).map (·.size) = some 1 := by kernel_rfl
theorem splice_all {α : Type} (a b : List α) (h : a.length = b.length) : splice a 0 b = b := by
  simp [splice, h]

set_option maxHeartbeats 1000000 in
set_option maxRecDepth 10000 in
theorem open_yes (g o n m cap : Nat) (xs : List (BitVec 8)) (h l : BitVec 8) (w : World) (hx : xs.length = n) (hv : Byts w (.slice (some ⟨g, o, none⟩) n cap) xs) (hcs : ∀ (j : Nat) x, xs[j]? = some x → w.cell? ⟨g, o + j, none⟩ = some (cel x)) (hh : w.cell? ⟨g, o + n, none⟩ = some (.int .u8 (h.toNat : Int))) (hl : w.cell? ⟨g, o + (n + 1), none⟩ = some (.int .u8 (l.toNat : Int)))
    (hm : m = n + 2) (hn : n ≤ 140737488351232) (hc : m ≤ cap) (hne : cat h l = crcSum xs) :
    Calls Tryd.prog 65 #[.slice (some ⟨g, o, none⟩) m cap] w fun e w' => ∃ r, e = .returned (.tuple #[r, .bool true]) ∧ Own w' w.heap.size r xs ∧ Below w.heap.size w w' := by
  have hor := or_cat h l
  have h1 := h.isLt
  have h2 := l.isLt
  have b1 : (n : Int) < (m : Int) := by omega
  have b2 : (n : Int) + 1 < (m : Int) := by omega
  have b3 : n ≤ cap := by omega
  have e1 : (m : Int) - 2 = (n : Int) := by omega
  have e2 : IntKind.i64.wrap ((n : Int) + 1) = (n : Int) + 1 := IntWalk.i64_in _ (by omega)
  have e3 : ((n : Int) + 1).toNat = n + 1 := by omega
  have e4 : (0 : Int) ≤ (n : Int) + 1 := by omega
  obtain ⟨M, hM, _, hmk⟩ := run_make_u8 n (by omega) n (by omega)
  have HM := Lib.hid hm
  have HV := Lib.hid hv
  have HX := Lib.hid hx
  have HC := Lib.hid hcs
  have HMS := Lib.hid hM
  rw [hne] at hor
  clear hm hv hne hx hcs hM
  go_enter Tryd.func65, Tryd.ntmps65
  go_wp2
  go_quiet (fail)
  have HXX := Lib.hid (show xs.length ≤ maxLen by rw [HX.out]; unfold maxLen; omega)
  have HN1 := Lib.hid (show (xs.map cel).length = Nat.min m n by rw [List.length_map, HX.out, HM.out]; simp)
  have HN2 := Lib.hid (show 0 + (xs.map cel).length ≤ M.toList.length by rw [List.length_map, HX.out, Array.length_toList, HMS.out]; omega)
  have HN3 := Lib.hid (show M.toList.length = (xs.map cel).length by rw [List.length_map, HX.out, Array.length_toList, HMS.out])
  clear hor hh hl b1 b2 e2 e3 e4 e1 HM
  go_wp2_with fail
  (with_reducible refine (sum_any _ xs _ (HV.out.drewN _) HXX.out).mono ?_)
  rintro e w1 ⟨rfl, rfl⟩
  have he : (((crcSum xs).toNat : Int) != ((crcSum xs).toNat : Int)) = false := by simp
  have HB : Hid (∀ k, Below w.heap.size w ((w.drewN k).alloc (.cells M 5))) := fun k => (below_drewN (Below.refl w.heap.size w) k).alloc (Nat.le_refl _) _
  have HG : Hid (∀ k, ((w.drewN k).alloc (.cells M 5)).heap[w.heap.size]? = some (.cells M.toList.toArray 5 (0, 0))) := fun k => by
    have := heap_alloc_new (w.drewN k) (.cells M 5)
    simpa using this
  have HS : Hid (∀ k, ∀ (j : Nat) v, (xs.map cel)[j]? = some v → ((w.drewN k).alloc (.cells M 5)).cell? ((⟨g, o, none⟩ : Addr).add j) = some v) := fun k j v hj => by
    rw [List.getElem?_map] at hj
    cases hy : xs[j]? with
    | none => rw [hy] at hj; cases hj
    | some y =>
      rw [hy] at hj
      cases hj
      have hc := HC.out j y hy
      rw [plain_add]
      exact (Below.cell (HB.out k) (p := ⟨g, o + j, none⟩) (lt_of_cell hc)).trans hc
  go_wp2_with ((refine wpList_copy_splice (o := ⟨some 35, _, _, _, _, _⟩) rfl _ _ 44 44 rfl 5 Tryd.underlying44 szU8 _ _ _ _ _ _ rfl rfl w.heap.size 0 M.toList 5 (HG.out _) (xs.map cel) HN1.out (fun _ => ⟨rfl, _, rfl, HS.out _⟩) HN2.out (cel_one xs) w.heap.size w (HB.out _) (Nat.le_refl _) ?_; intro w2 hg2 hb2))
  go_ret2
  refine ⟨_, rfl, ?_, hb2⟩
  have hg := hg2.out
  rw [splice_all _ _ HN3.out] at hg
  have := own_block hg (Nat.le_refl _) HXX.out
  rwa [HX.out] at this
end Go.Proofs.YtolfdfbhignniaaDoor
/-
  What crc.Open and the document's own answer of any bytes.
-/
namespace Go.Proofs.YtolfdfbhignniaaDoor
open Go.RowKit

/-- Are the bytes a Seal? -/
def opens (xs : List (BitVec 8)) : Bool := decide (2 ≤ xs.length) && decide (crcSum xs = 0#16)
def front (xs : List (BitVec 8)) : List (BitVec 8) := xs.take (xs.length - 2)

theorem split_two {xs : List (BitVec 8)} (h : 2 ≤ xs.length) : ∃ f a b, xs = f ++ [a, b] := by
  have hl : (xs.drop (xs.length - 2)).length = 2 := by simp; omega
  rcases ht : xs.drop (xs.length - 2) with _ | ⟨a, _ | ⟨b, _ | ⟨c, t⟩⟩⟩
  · rw [ht] at hl; simp at hl
  · rw [ht] at hl; simp at hl
  · refine ⟨xs.take (xs.length - 2), a, b, ?_⟩
    rw [← ht]
    exact (List.take_append_drop _ _).symm
  · rw [ht] at hl; simp at hl
theorem front_two (f : List (BitVec 8)) (a b : BitVec 8) : front (f ++ [a, b]) = f := by simp [front]
theorem cat_inj {h l : BitVec 8} {s : BitVec 16} (e : cat h l = s) : h = hi s ∧ l = lo s := by
  have h1 := cat_toNat h l
  have h2 := l.isLt
  have h3 := h.isLt
  rw [e] at h1
  constructor
  · apply BitVec.eq_of_toNat_eq
    simp [hi, h1]
    omega
  · apply BitVec.eq_of_toNat_eq
    simp [lo, h1]
    omega
theorem opens_two (f : List (BitVec 8)) (a b : BitVec 8) : opens (f ++ [a, b]) = decide (cat a b = crcSum f) := by
  have := sum_zero_iff f a b
  simp [opens, this]
theorem opens_sealed (xs : List (BitVec 8)) : opens (sealed xs) = true := by
  unfold sealed
  rw [opens_two]
  simp [cat_hilo]
theorem front_sealed (xs : List (BitVec 8)) : front (sealed xs) = xs := by
  unfold sealed
  exact front_two _ _ _
theorem sealed_front {xs : List (BitVec 8)} (h : opens xs = true) : sealed (front xs) = xs := by
  have h2 : 2 ≤ xs.length := by simp [opens] at h; exact h.1
  obtain ⟨f, a, b, rfl⟩ := split_two h2
  rw [opens_two] at h
  have h := of_decide_eq_true h
  rw [front_two]
  unfold sealed
  obtain ⟨e1, e2⟩ := cat_inj h
  rw [← e1, ← e2]
theorem length_front {xs : List (BitVec 8)} : (front xs).length ≤ xs.length := by simp [front]

/-- A slice that holds f and two bytes more. -/
theorem Byts.two {w : World} {v : Value} {f : List (BitVec 8)} {a b : BitVec 8} (h : Byts w v (f ++ [a, b])) :
    ∃ g o cap, v = .slice (some ⟨g, o, none⟩) (f.length + 2) cap ∧ f.length + 2 ≤ cap ∧ Byts w (.slice (some ⟨g, o, none⟩) f.length cap) f ∧ (∀ (j : Nat) x, f[j]? = some x → w.cell? ⟨g, o + j, none⟩ = some (cel x)) ∧
      w.cell? ⟨g, o + f.length, none⟩ = some (.int .u8 (a.toNat : Int)) ∧ w.cell? ⟨g, o + (f.length + 1), none⟩ = some (.int .u8 (b.toNat : Int)) := by
  rcases h with ⟨h, _⟩ | ⟨g, o, cap, hv, hc, h⟩
  · simp at h
  · have hc' : f.length + 2 ≤ cap := by simpa using hc
    have hf : ∀ (j : Nat) x, f[j]? = some x → w.cell? ⟨g, o + j, none⟩ = some (cel x) := fun j x hx => by
      have hj : j < f.length := by
        rcases Nat.lt_or_ge j f.length with h1 | h1
        · exact h1
        · rw [List.getElem?_eq_none h1] at hx; cases hx
      exact h j x (by rw [List.getElem?_append_left hj]; exact hx)
    refine ⟨g, o, cap, by simpa using hv, hc', .inr ⟨g, o, cap, rfl, by omega, hf⟩, hf, h _ a ?_, h _ b ?_⟩
    · rw [List.getElem?_append_right (by omega)]; simp
    · rw [List.getElem?_append_right (by omega)]; simp

theorem open_t (v : Value) (xs : List (BitVec 8)) (w : World) (hv : Byts w v xs) (hl : xs.length ≤ 140737488351232) (ho : opens xs = true) :
    Calls Tryd.prog 65 #[v] w fun e w' => ∃ r, e = .returned (.tuple #[r, .bool true]) ∧ Own w' w.heap.size r (front xs) ∧ Below w.heap.size w w' := by
  have h2 : 2 ≤ xs.length := by simp [opens] at ho; exact ho.1
  obtain ⟨f, a, b, rfl⟩ := split_two h2
  rw [opens_two] at ho
  have ho := of_decide_eq_true ho
  obtain ⟨g, o, cap, rfl, hc, hf, hcs, hh, hb⟩ := hv.two
  rw [front_two]
  exact open_yes g o f.length (f.length + 2) cap f a b w rfl hf hcs hh hb rfl (by simp at hl; omega) hc ho
theorem open_f (v : Value) (xs : List (BitVec 8)) (w : World) (hv : Byts w v xs) (hl : xs.length ≤ 140737488351232) (ho : opens xs = false) :
    Calls Tryd.prog 65 #[v] w fun e w' => e = .returned (.tuple #[.slice none 0 0, .bool false]) ∧ Below w.heap.size w w' := by
  rcases Nat.lt_or_ge xs.length 2 with h2 | h2
  · exact short_no v xs w hv h2
  · obtain ⟨f, a, b, rfl⟩ := split_two h2
    rw [opens_two] at ho
    have ho := of_decide_eq_false ho
    obtain ⟨g, o, cap, rfl, hc, hf, hcs, hh, hb⟩ := hv.two
    simp at hl
    exact other_no g o f.length (f.length + 2) cap f a b w hf hh hb (by omega) rfl (by omega) hc ho
end Go.Proofs.YtolfdfbhignniaaDoor
/-
  The document's own Open, by contract.
-/
namespace Go.Proofs.YtolfdfbhignniaaDoor
open Go.RowKit

theorem rshort_no (v : Value) (xs : List (BitVec 8)) (w : World) (hv : Byts w v xs) (hl : xs.length < 2) :
    Calls Tryd.prog 71 #[v] w fun e w' => e = .returned (.tuple #[.slice none 0 0, .bool false]) ∧ Below w.heap.size w w' := by
  obtain ⟨av, cv, ev⟩ := hv.len
  clear hv
  subst ev
  go_enter Tryd.func71, Tryd.ntmps71
  go_wp2
  go_ret2
  exact ⟨rfl, Below.refl _ _⟩

theorem neq8 {a b : BitVec 8} (h : a ≠ b) : ((a.toNat : Int) != (b.toNat : Int)) = true := by
  simp
  intro he
  exact h (BitVec.eq_of_toNat_eq (by omega))
theorem eq8 (a : BitVec 8) : ((a.toNat : Int) != (a.toNat : Int)) = false := by simp

set_option maxHeartbeats 1000000 in
theorem rother_no (g o n m cap : Nat) (xs : List (BitVec 8)) (h l : BitVec 8) (w : World) (hv : Byts w (.slice (some ⟨g, o, none⟩) n cap) xs) (hh : w.cell? ⟨g, o + n, none⟩ = some (.int .u8 (h.toNat : Int))) (hl : w.cell? ⟨g, o + (n + 1), none⟩ = some (.int .u8 (l.toNat : Int)))
    (hx : xs.length ≤ 140737488351232) (hm : m = n + 2) (hn : n ≤ 140737488351232) (hc : m ≤ cap) (hne : cat h l ≠ crcSum xs) :
    Calls Tryd.prog 71 #[.slice (some ⟨g, o, none⟩) m cap] w fun e w' => e = .returned (.tuple #[.slice none 0 0, .bool false]) ∧ Below w.heap.size w w' := by
  have h1 := h.isLt
  have h2 := l.isLt
  have b1 : (n : Int) < (m : Int) := by omega
  have b2 : (n : Int) + 1 < (m : Int) := by omega
  have b3 : n ≤ cap := by omega
  have b4 : n < m := by omega
  have b5 : n + 1 < m := by omega
  have e1 : (m : Int) - 2 = (n : Int) := by omega
  have hs := (crcSum xs).isLt
  have v1 := hi_val (crcSum xs)
  have v2 := lo_val (crcSum xs)
  have HM := Lib.hid hm
  have HV := Lib.hid hv
  have hcase : h ≠ hi (crcSum xs) ∨ (h = hi (crcSum xs) ∧ l ≠ lo (crcSum xs)) := by
    by_cases ha : h = hi (crcSum xs)
    · refine .inr ⟨ha, fun hb => hne ?_⟩
      rw [ha, hb, cat_hilo]
    · exact .inl ha
  clear hm hv hne
  rcases hcase with ha | ⟨ha, hb⟩
  · have n1 := neq8 ha
    clear ha
    go_enter Tryd.func71, Tryd.ntmps71
    go_wp2_with fail
    (with_reducible refine (rsum_any _ xs _ HV.out (by unfold maxLen; omega)).mono ?_)
    rintro e w1 ⟨rfl, rfl⟩
    generalize crcSum xs = s at *
    go_wp2_with fail
    go_ret2
    exact ⟨rfl, Below.refl _ _⟩
  · have n1 := neq8 hb
    have n2 := eq8 (hi (crcSum xs))
    subst ha
    clear hb
    go_enter Tryd.func71, Tryd.ntmps71
    go_wp2_with fail
    (with_reducible refine (rsum_any _ xs _ HV.out (by unfold maxLen; omega)).mono ?_)
    rintro e w1 ⟨rfl, rfl⟩
    generalize crcSum xs = s at *
    go_wp2_with fail
    go_ret2
    exact ⟨rfl, Below.refl _ _⟩

set_option maxHeartbeats 1000000 in
theorem ropen_yes (g o n m cap : Nat) (xs : List (BitVec 8)) (w : World) (hx : xs.length = n) (hv : Byts w (.slice (some ⟨g, o, none⟩) n cap) xs) (hh : w.cell? ⟨g, o + n, none⟩ = some (.int .u8 ((hi (crcSum xs)).toNat : Int))) (hl : w.cell? ⟨g, o + (n + 1), none⟩ = some (.int .u8 ((lo (crcSum xs)).toNat : Int)))
    (hm : m = n + 2) (hn : n ≤ 140737488351232) (hc : m ≤ cap) :
    Calls Tryd.prog 71 #[.slice (some ⟨g, o, none⟩) m cap] w fun e w' => ∃ r, e = .returned (.tuple #[r, .bool true]) ∧ Own w' w.heap.size r xs ∧ Below w.heap.size w w' := by
  have b1 : (n : Int) < (m : Int) := by omega
  have b2 : (n : Int) + 1 < (m : Int) := by omega
  have b3 : n ≤ cap := by omega
  have b4 : n < m := by omega
  have b5 : n + 1 < m := by omega
  have e1 : (m : Int) - 2 = (n : Int) := by omega
  have hs := (crcSum xs).isLt
  have v1 := hi_val (crcSum xs)
  have v2 := lo_val (crcSum xs)
  have n1 := eq8 (hi (crcSum xs))
  have n2 := eq8 (lo (crcSum xs))
  have HM := Lib.hid hm
  have HV := Lib.hid hv
  have HX := Lib.hid hx
  clear hm hv hx
  have HXX := Lib.hid (show xs.length ≤ maxLen by rw [HX.out]; unfold maxLen; omega)
  have HX2 := Lib.hid (show ([] : List (BitVec 8)).length + xs.length ≤ 140737488355328 by rw [HX.out]; simp; omega)
  have HO := Lib.hid (own_lit w w.heap.size [] (Nat.le_refl _) (by unfold maxLen; simp))
  have HB := Lib.hid ((Below.refl w.heap.size w).alloc (Nat.le_refl _) (.cells #[] 5))
  have HV1 := Lib.hid (HV.out.below HB.out)
  have hsz := HB.out.size
  go_enter Tryd.func71, Tryd.ntmps71
  go_wp2_with fail
  (with_reducible refine (rsum_any _ xs _ HV.out HXX.out).mono ?_)
  rintro e w1 ⟨rfl, rfl⟩
  generalize crcSum xs = s at *
  go_wp2_with (at_builtin; refine wpList_app rfl _ _ rfl w.heap.size _ [] rfl HO.out _ xs rfl HV1.out HX2.out hsz ?_; intro v1 w1 hown1 hg1; have HO1 := Lib.hid hown1; have HB1 := Lib.hid (HO.out.grown HB.out hg1); clear hown1 hg1 HO HB HV1 hsz)
  go_ret2
  exact ⟨_, rfl, HO1.out, HB1.out⟩

theorem ropen_t (v : Value) (xs : List (BitVec 8)) (w : World) (hv : Byts w v xs) (hl : xs.length ≤ 140737488351232) (ho : opens xs = true) :
    Calls Tryd.prog 71 #[v] w fun e w' => ∃ r, e = .returned (.tuple #[r, .bool true]) ∧ Own w' w.heap.size r (front xs) ∧ Below w.heap.size w w' := by
  have h2 : 2 ≤ xs.length := by simp [opens] at ho; exact ho.1
  obtain ⟨f, a, b, rfl⟩ := split_two h2
  rw [opens_two] at ho
  have ho := of_decide_eq_true ho
  obtain ⟨g, o, cap, rfl, hc, hf, hcs, hh, hb⟩ := hv.two
  rw [front_two]
  obtain ⟨ea, eb⟩ := cat_inj ho
  rw [ea] at hh
  rw [eb] at hb
  exact ropen_yes g o f.length (f.length + 2) cap f w rfl hf hh hb rfl (by simp at hl; omega) hc
theorem ropen_f (v : Value) (xs : List (BitVec 8)) (w : World) (hv : Byts w v xs) (hl : xs.length ≤ 140737488351232) (ho : opens xs = false) :
    Calls Tryd.prog 71 #[v] w fun e w' => e = .returned (.tuple #[.slice none 0 0, .bool false]) ∧ Below w.heap.size w w' := by
  rcases Nat.lt_or_ge xs.length 2 with h2 | h2
  · exact rshort_no v xs w hv h2
  · obtain ⟨f, a, b, rfl⟩ := split_two h2
    rw [opens_two] at ho
    have ho := of_decide_eq_false ho
    obtain ⟨g, o, cap, rfl, hc, hf, hcs, hh, hb⟩ := hv.two
    simp at hl
    exact rother_no g o f.length (f.length + 2) cap f a b w hf hh hb (by omega) rfl (by omega) hc ho
end Go.Proofs.YtolfdfbhignniaaDoor
/-
  frame.formed: which opened bytes are a telegram, by contract.
-/
namespace Go.Proofs.YtolfdfbhignniaaDoor
open Go.RowKit

/-- The bytes are those of a telegram, ahead of its sum. -/
def Form : List (BitVec 8) → Prop
  | x :: _ :: z :: xs => x.toNat ≤ 15 ∧ z.toNat ≤ 16 ∧ xs.length = z.toNat
  | _ => False
theorem form_frm {ys : List (BitVec 8)} (h : Form ys) : ∃ x y xs, ys = frm x y xs ∧ x.toNat ≤ 15 ∧ xs.length ≤ 16 := by
  match ys, h with
  | x :: y :: z :: xs, h =>
    obtain ⟨h1, h2, h3⟩ := h
    refine ⟨x, y, xs, ?_, h1, by omega⟩
    unfold frm
    rw [h3]
    simp
theorem frm_form (x y : BitVec 8) (xs : List (BitVec 8)) (hx : x.toNat ≤ 15) (hl : xs.length ≤ 16) : Form (frm x y xs) := by
  have : (BitVec.ofNat 8 xs.length).toNat = xs.length := by simp; omega
  exact ⟨hx, by omega, by omega⟩

theorem formed_short (u : Value) (ys : List (BitVec 8)) (w : World) (hu : Byts w u ys) (h : ys.length < 3) :
    Calls Tryd.prog 67 #[u] w fun e w' => e = .returned (.bool false) ∧ Below w.heap.size w w' := by
  obtain ⟨av, cv, ev⟩ := hu.len
  have q1 : decide ((3 : Int) ≤ (ys.length : Int)) = false := decide_eq_false (by omega)
  clear hu
  subst ev
  go_enter Tryd.func67, Tryd.ntmps67
  go_wp2_with fail
  go_ret
  exact ⟨rfl, Below.refl _ _⟩
theorem formed_long (g o n cap : Nat) (x z : BitVec 8) (b : Bool) (w : World) (hn : 3 ≤ n) (hm : n ≤ 140737488351232) (h0 : w.cell? ⟨g, o, none⟩ = some (.int .u8 (x.toNat : Int))) (h2 : w.cell? ⟨g, o + 2, none⟩ = some (.int .u8 (z.toNat : Int)))
    (hb : b = decide (x.toNat ≤ 15 ∧ z.toNat ≤ 16 ∧ n = 3 + z.toNat)) :
    Calls Tryd.prog 67 #[.slice (some ⟨g, o, none⟩) n cap] w fun e w' => e = .returned (.bool b) ∧ Below w.heap.size w w' := by
  have q1 : decide ((3 : Int) ≤ (n : Int)) = true := decide_eq_true (by omega)
  have i0 : (0 : Int) < (n : Int) := by omega
  have i2 : (2 : Int) < (n : Int) := by omega
  have hz := z.isLt
  by_cases h3 : x.toNat ≤ 15
  · have q2 : decide ((x.toNat : Int) ≤ 15) = true := decide_eq_true (by omega)
    by_cases h4 : z.toNat ≤ 16
    · have q3 : decide ((z.toNat : Int) ≤ 16) = true := decide_eq_true (by omega)
      by_cases h5 : n = 3 + z.toNat
      · obtain rfl : b = true := by rw [hb]; simp [h3, h4, h5]
        have q4 : ((n : Int) - 3 == (z.toNat : Int)) = true := by simp; omega
        clear hb h3 h4 h5
        go_enter Tryd.func67, Tryd.ntmps67
        go_wp2_with fail
        go_ret
        exact ⟨rfl, Below.refl _ _⟩
      · obtain rfl : b = false := by rw [hb]; simp [h5]
        have q4 : ((n : Int) - 3 == (z.toNat : Int)) = false := by simp; omega
        clear hb h3 h4 h5
        go_enter Tryd.func67, Tryd.ntmps67
        go_wp2_with fail
        go_ret
        exact ⟨rfl, Below.refl _ _⟩
    · obtain rfl : b = false := by rw [hb]; simp [h4]
      have q3 : decide ((z.toNat : Int) ≤ 16) = false := decide_eq_false (by omega)
      clear hb h3 h4
      go_enter Tryd.func67, Tryd.ntmps67
      go_wp2_with fail
      go_ret
      exact ⟨rfl, Below.refl _ _⟩
  · obtain rfl : b = false := by rw [hb]; simp [h3]
    have q2 : decide ((x.toNat : Int) ≤ 15) = false := decide_eq_false (by omega)
    clear hb h3
    go_enter Tryd.func67, Tryd.ntmps67
    go_wp2_with fail
    go_ret
    exact ⟨rfl, Below.refl _ _⟩
theorem formed_yes (u : Value) (ys : List (BitVec 8)) (w : World) (hu : Byts w u ys) (hm : ys.length ≤ 140737488351232) (h : Form ys) :
    Calls Tryd.prog 67 #[u] w fun e w' => e = .returned (.bool true) ∧ Below w.heap.size w w' := by
  match ys, h with
  | x :: y :: z :: xs, h =>
    obtain ⟨h1, h2, h3⟩ := h
    obtain ⟨g, o, cap, a0, hv, _, _, e0, c0⟩ := hu.at_ 0 (by simp)
    obtain ⟨g', o', cap', a2, hv', _, _, e2, c2⟩ := hu.at_ 2 (by simp)
    subst hv
    simp only [Value.slice.injEq, Option.some.injEq, Addr.mk.injEq, true_and, and_true] at hv'
    obtain ⟨⟨rfl, rfl⟩, rfl⟩ := hv'
    simp at e0 e2
    subst e0 e2
    exact formed_long g o _ cap x z true w (by simp) hm c0 c2 (by simp; omega)
theorem formed_no (u : Value) (ys : List (BitVec 8)) (w : World) (hu : Byts w u ys) (hm : ys.length ≤ 140737488351232) (h : ¬ Form ys) :
    Calls Tryd.prog 67 #[u] w fun e w' => e = .returned (.bool false) ∧ Below w.heap.size w w' := by
  match ys with
  | [] => exact formed_short u _ w hu (by simp)
  | [_] => exact formed_short u _ w hu (by simp)
  | [_, _] => exact formed_short u _ w hu (by simp)
  | x :: y :: z :: xs =>
    obtain ⟨g, o, cap, a0, hv, _, _, e0, c0⟩ := hu.at_ 0 (by simp)
    obtain ⟨g', o', cap', a2, hv', _, _, e2, c2⟩ := hu.at_ 2 (by simp)
    subst hv
    simp only [Value.slice.injEq, Option.some.injEq, Addr.mk.injEq, true_and, and_true] at hv'
    obtain ⟨⟨rfl, rfl⟩, rfl⟩ := hv'
    simp at e0 e2
    subst e0 e2
    exact formed_long g o _ cap x z false w (by simp) hm c0 c2 (by
      symm
      refine decide_eq_false fun hh => h ⟨hh.1, hh.2.1, ?_⟩
      have := hh.2.2
      simp at this
      omega)
end Go.Proofs.YtolfdfbhignniaaDoor
/-
  frame.Decode, by contract.
-/
namespace Go.Proofs.YtolfdfbhignniaaDoor
open Go.RowKit

/-- Three cells of a block that is no older than w0 are stored into. -/
theorem below_three {w0 w : World} {g : Nat} (h : Below w0.heap.size w0 w) (hg : w0.heap.size ≤ g) (a b c : Value) : Below w0.heap.size w0 (((w.setCell ⟨g, 0, none⟩ a).setCell ⟨g, 1, none⟩ b).setCell ⟨g, 2, none⟩ c) :=
  ((h.setCell (p := ⟨g, 0, none⟩) hg a).setCell (p := ⟨g, 1, none⟩) hg b).setCell (p := ⟨g, 2, none⟩) hg c

theorem Byts.apart {w w' : World} {v : Value} {xs : List (BitVec 8)} {b : Nat} (h : Byts w v xs) (ha : Apart b w w') (hn : ∀ a n c, v = .slice (some a) n c → a.block ≠ b) : Byts w' v xs := by
  rcases h with h | ⟨g, o, cap, hv, hc, h⟩
  · exact .inl h
  · exact .inr ⟨g, o, cap, hv, hc, fun j x hx => ha.cell (h j x hx) (hn _ _ _ hv)⟩
theorem apart_three (b : Nat) (w : World) (x y z : Value) : Apart b w (((w.setCell ⟨b, 0, none⟩ x).setCell ⟨b, 1, none⟩ y).setCell ⟨b, 2, none⟩ z) :=
  ((Apart.set_ b 0 w x).trans (Apart.set_ b 1 _ y)).trans (Apart.set_ b 2 _ z)

set_option maxHeartbeats 1000000 in
theorem dec_sum (u : Value) (b : List (BitVec 8)) (w : World) (hu : Byts w u b) (hl : b.length ≤ 140737488351232) (ho : opens b = false) :
    Calls Tryd.prog 46 #[u] w fun e w' => ∃ g, w.heap.size ≤ g ∧ e = .returned (.tuple #[.agg #[.int .i64 0, .int .i64 0, .slice none 0 0], .iface 79 (.pointer (some ⟨g, 0, none⟩))]) ∧ w'.cell? ⟨g, 1, none⟩ = some (.int .i64 3) ∧ Below w.heap.size w w' := by
  have HU := Lib.hid hu
  have HL := Lib.hid hl
  have HO := Lib.hid ho
  clear hu hl ho
  have HB := Lib.hid (below_alloc (Below.refl _ w) (.cells #[.int .i64 0, .int .i64 0, .slice none 0 0] 84))
  have HU1 := Lib.hid (HU.out.below HB.out)
  have HX := Lib.hid (box_new w 0 0 (.slice none 0 0))
  go_enter Tryd.func46, Tryd.ntmps46
  go_wp2_with fail
  (with_reducible refine (open_f _ b _ HU1.out HL.out HO.out).mono ?_)
  rintro e w1 ⟨rfl, hb⟩
  have HX1 := Lib.hid (HX.out.below hb)
  have HB1 := Lib.hid (below_call HB.out hb)
  clear hb HX
  go_wp2_with fail
  (with_reducible refine (new_form 3 rfl _ _).mono ?_)
  rintro e w2 ⟨g, hg, rfl, hc, hb⟩
  have HX2 := Lib.hid (HX1.out.below hb)
  have HB2 := Lib.hid (below_call HB1.out hb)
  have hne : g ≠ w.heap.size := by have := HX1.out.lt; omega
  have HG := Lib.hid (Nat.le_trans HB1.out.size hg)
  obtain ⟨e0, e1, e2⟩ := HX2.out.cells
  have f0 := HX2.out.frz 0
  have f1 := HX2.out.frz 1
  have f2 := HX2.out.frz 2
  clear hb hg
  go_wp2_with fail
  (try simp only [Exit.inBlock, Exit.then])
  refine bodyPost_ret (v := .tuple #[.agg #[.int .i64 0, .int .i64 0, .slice none 0 0], .iface 79 (.pointer (some ⟨g, 0, none⟩))]) ?_ rfl ⟨g, HG.out, rfl, ?_, below_three HB2.out (Nat.le_refl _) _ _ _⟩
  · rw [results_cell_tmp rfl]
    go_simp
  · exact (apart_three _ _ _ _ _).cell hc hne

set_option maxHeartbeats 1000000 in
theorem dec_form (u : Value) (b : List (BitVec 8)) (w : World) (hu : Byts w u b) (hl : b.length ≤ 140737488351232) (ho : opens b = true) (hf : ¬ Form (front b)) :
    Calls Tryd.prog 46 #[u] w fun e w' => ∃ g, w.heap.size ≤ g ∧ e = .returned (.tuple #[.agg #[.int .i64 0, .int .i64 0, .slice none 0 0], .iface 79 (.pointer (some ⟨g, 0, none⟩))]) ∧ w'.cell? ⟨g, 1, none⟩ = some (.int .i64 2) ∧ Below w.heap.size w w' := by
  have HU := Lib.hid hu
  have HL := Lib.hid hl
  have HO := Lib.hid ho
  have HF := Lib.hid hf
  have HFL := Lib.hid (Nat.le_trans (length_front (xs := b)) hl)
  clear hu hl ho hf
  have HB := Lib.hid (below_alloc (Below.refl _ w) (.cells #[.int .i64 0, .int .i64 0, .slice none 0 0] 84))
  have HU1 := Lib.hid (HU.out.below HB.out)
  have HX := Lib.hid (box_new w 0 0 (.slice none 0 0))
  go_enter Tryd.func46, Tryd.ntmps46
  go_wp2_with fail
  (with_reducible refine (open_t _ b _ HU1.out HL.out HO.out).mono ?_)
  rintro e w1 ⟨r, rfl, hown, hb⟩
  have HX1 := Lib.hid (HX.out.below hb)
  have HB1 := Lib.hid (below_call HB.out hb)
  have HR := Lib.hid hown.byts
  clear hb hown HX
  go_wp2_with fail
  (with_reducible refine (formed_no _ _ _ HR.out HFL.out HF.out).mono ?_)
  rintro e w3 ⟨rfl, hb⟩
  have HX3 := Lib.hid (HX1.out.below hb)
  have HB3 := Lib.hid (below_call HB1.out hb)
  clear hb HX1 HB1 HR
  go_wp2_with fail
  (with_reducible refine (new_form 2 rfl _ _).mono ?_)
  rintro e w2 ⟨g, hg, rfl, hc, hb⟩
  have HX2 := Lib.hid (HX3.out.below hb)
  have HB2 := Lib.hid (below_call HB3.out hb)
  have hne : g ≠ w.heap.size := by have := HX3.out.lt; omega
  have HG := Lib.hid (Nat.le_trans HB3.out.size hg)
  obtain ⟨e0, e1, e2⟩ := HX2.out.cells
  have f0 := HX2.out.frz 0
  have f1 := HX2.out.frz 1
  have f2 := HX2.out.frz 2
  clear hb hg
  go_wp2_with fail
  (try simp only [Exit.inBlock, Exit.then])
  refine bodyPost_ret (v := .tuple #[.agg #[.int .i64 0, .int .i64 0, .slice none 0 0], .iface 79 (.pointer (some ⟨g, 0, none⟩))]) ?_ rfl ⟨g, HG.out, rfl, ?_, below_three HB2.out (Nat.le_refl _) _ _ _⟩
  · rw [results_cell_tmp rfl]
    go_simp
  · exact (apart_three _ _ _ _ _).cell hc hne

set_option maxHeartbeats 1000000 in
theorem dec_yes (u : Value) (b : List (BitVec 8)) (x y : BitVec 8) (xs : List (BitVec 8)) (w : World) (hu : Byts w u b) (hl : b.length ≤ 140737488351232) (ho : opens b = true) (hf : front b = frm x y xs) (hx : x.toNat ≤ 15) (hxl : xs.length ≤ 16) :
    Calls Tryd.prog 46 #[u] w fun e w' => ∃ v, e = .returned (.tuple #[.agg #[.int .i64 (x.toNat : Int), .int .i64 (y.toNat : Int), v], .nilIface]) ∧ Byts w' v xs ∧ Below w.heap.size w w' := by
  have HU := Lib.hid hu
  have HL := Lib.hid hl
  have HO := Lib.hid ho
  have HF := Lib.hid (frm_form x y xs hx hxl)
  have HE := Lib.hid hf
  have HN := Lib.hid (show (frm x y xs).length = xs.length + 3 by simp [frm])
  have HFL := Lib.hid (show (frm x y xs).length ≤ 140737488351232 by simp [frm]; omega)
  have HXL := Lib.hid hxl
  have hx1 := x.isLt
  have hy1 := y.isLt
  clear hu hl ho hf hxl hx
  have HB := Lib.hid (below_alloc (Below.refl _ w) (.cells #[.int .i64 0, .int .i64 0, .slice none 0 0] 84))
  have HU1 := Lib.hid (HU.out.below HB.out)
  have HX := Lib.hid (box_new w 0 0 (.slice none 0 0))
  go_enter Tryd.func46, Tryd.ntmps46
  go_wp2_with fail
  (with_reducible refine (open_t _ b _ HU1.out HL.out HO.out).mono ?_)
  rintro e w1 ⟨r, rfl, hown, hb⟩
  rw [HE.out] at hown
  obtain ⟨g, cap, rfl, hcap, hge⟩ := hown.form (by rw [HN.out]; omega)
  rw [HN.out] at hown hcap ⊢
  have HX1 := Lib.hid (HX.out.below hb)
  have HB1 := Lib.hid (below_call HB.out hb)
  have HR := Lib.hid hown
  have HGE := Lib.hid (show g ≠ w.heap.size by have := HX.out.lt; omega)
  clear hb hown HX hge
  go_wp2_with fail
  (with_reducible refine (formed_yes _ _ _ HR.out.byts HFL.out HF.out).mono ?_)
  rintro e w3 ⟨rfl, hb⟩
  have HX3 := Lib.hid (HX1.out.below hb)
  have HB3 := Lib.hid (below_call HB1.out hb)
  have HR3 := Lib.hid (HR.out.below hb)
  clear hb HX1 HB1 HR
  have c0 := HR3.out.cell HN.out.symm 0 x rfl
  have c1 := HR3.out.cell HN.out.symm 1 y rfl
  obtain ⟨v2, hrun, hv2, hbl⟩ := cutR HR3.out.byts 3 (by rw [HN.out]; omega)
  have hv2 : Byts w3 v2 xs := hv2
  obtain ⟨a2, cap2, rfl⟩ := hv2.len
  have HV2 := Lib.hid hv2
  have HBL := Lib.hid (show ∀ a n c, Value.slice a2 xs.length cap2 = .slice (some a) n c → a.block ≠ w.heap.size from fun a n c h => by
    obtain ⟨a', n', c', e, e2⟩ := hbl a n c h
    cases e
    rw [e2]
    exact HGE.out)
  obtain ⟨e0, e1, e2⟩ := HX3.out.cells
  have f0 := HX3.out.frz 0
  have f1 := HX3.out.frz 1
  have f2 := HX3.out.frz 2
  have i0 : (0 : Int) < ((xs.length + 3 : Nat) : Int) := by omega
  have i1 : (1 : Int) < ((xs.length + 3 : Nat) : Int) := by omega
  rw [show ((3 : Nat) : Int) = 3 from rfl] at hrun
  clear hv2 hbl
  go_wp2_with fail
  go_region
  go_wp2_with fail
  (try simp only [Exit.inBlock, Exit.then])
  refine bodyPost_ret (v := .tuple #[.agg #[.int .i64 (x.toNat : Int), .int .i64 (y.toNat : Int), .slice a2 xs.length cap2], .nilIface]) ?_ rfl ⟨_, rfl, HV2.out.apart (Apart.drew (apart_three _ _ _ _ _)) HBL.out, below_drewN (below_three HB3.out (Nat.le_refl _) _ _ _) 1⟩
  rw [results_cell_tmp rfl]
  go_simp
end Go.Proofs.YtolfdfbhignniaaDoor
/-
  The document's Decode, by contract.
-/
namespace Go.Proofs.YtolfdfbhignniaaDoor
open Go.RowKit

/-- What Decode answers beside an error. -/
theorem rdec_sum (u : Value) (b : List (BitVec 8)) (w : World) (hu : Byts w u b) (hl : b.length ≤ 140737488351232) (ho : opens b = false) :
    Calls Tryd.prog 49 #[u] w fun e w' => e = .returned (.tuple #[.agg #[.int .i64 0, .int .i64 0, .slice none 0 0], .int .i64 3]) ∧ Below w.heap.size w w' := by
  have HU := Lib.hid hu
  have HL := Lib.hid hl
  have HO := Lib.hid ho
  clear hu hl ho
  have HB := Lib.hid (below_alloc (Below.refl _ w) (.cells #[.int .i64 0, .int .i64 0, .slice none 0 0] 84))
  have HU1 := Lib.hid (HU.out.below HB.out)
  have HX := Lib.hid (box_new w 0 0 (.slice none 0 0))
  go_enter Tryd.func49, Tryd.ntmps49
  go_wp2_with fail
  (with_reducible refine (ropen_f _ b _ HU1.out HL.out HO.out).mono ?_)
  rintro e w1 ⟨rfl, hb⟩
  have HX1 := Lib.hid (HX.out.below hb)
  have HB1 := Lib.hid (below_call HB.out hb)
  clear hb HX
  obtain ⟨e0, e1, e2⟩ := HX1.out.cells
  have f0 := HX1.out.frz 0
  have f1 := HX1.out.frz 1
  have f2 := HX1.out.frz 2
  go_wp2_with fail
  (try simp only [Exit.inBlock, Exit.then])
  refine bodyPost_ret (v := .tuple #[.agg #[.int .i64 0, .int .i64 0, .slice none 0 0], .int .i64 3]) ?_ rfl ⟨rfl, below_three HB1.out (Nat.le_refl _) _ _ _⟩
  rw [results_cell_tmp rfl]
  go_simp

set_option maxHeartbeats 1000000 in
theorem rdec_short (u : Value) (b ys : List (BitVec 8)) (w : World) (hu : Byts w u b) (hl : b.length ≤ 140737488351232) (ho : opens b = true) (hf : front b = ys) (hs : ys.length < 3) :
    Calls Tryd.prog 49 #[u] w fun e w' => e = .returned (.tuple #[.agg #[.int .i64 0, .int .i64 0, .slice none 0 0], .int .i64 2]) ∧ Below w.heap.size w w' := by
  have q1 : decide ((ys.length : Int) < 3) = true := decide_eq_true (by omega)
  clear hs
  have HU := Lib.hid hu
  have HL := Lib.hid hl
  have HO := Lib.hid ho
  have HE := Lib.hid hf
  clear hu hl ho hf
  have HB := Lib.hid (below_alloc (Below.refl _ w) (.cells #[.int .i64 0, .int .i64 0, .slice none 0 0] 84))
  have HU1 := Lib.hid (HU.out.below HB.out)
  have HX := Lib.hid (box_new w 0 0 (.slice none 0 0))
  go_enter Tryd.func49, Tryd.ntmps49
  go_wp2_with fail
  (with_reducible refine (ropen_t _ b _ HU1.out HL.out HO.out).mono ?_)
  rintro e w1 ⟨r, rfl, hown, hb⟩
  rw [HE.out] at hown
  obtain ⟨ar, cr, er⟩ := hown.byts.len
  clear hown
  subst er
  have HX1 := Lib.hid (HX.out.below hb)
  have HB1 := Lib.hid (below_call HB.out hb)
  clear hb HX
  obtain ⟨e0, e1, e2⟩ := HX1.out.cells
  have f0 := HX1.out.frz 0
  have f1 := HX1.out.frz 1
  have f2 := HX1.out.frz 2
  go_wp2_with fail
  (try simp only [Exit.inBlock, Exit.then])
  refine bodyPost_ret (v := .tuple #[.agg #[.int .i64 0, .int .i64 0, .slice none 0 0], .int .i64 2]) ?_ rfl ⟨rfl, below_three HB1.out (Nat.le_refl _) _ _ _⟩
  rw [results_cell_tmp rfl]
  go_simp

set_option maxHeartbeats 1000000 in
theorem rdec_chan (u : Value) (b xs : List (BitVec 8)) (x y z : BitVec 8) (w : World) (hu : Byts w u b) (hl : b.length ≤ 140737488351232) (ho : opens b = true) (hf : front b = x :: y :: z :: xs) (h1 : 15 < x.toNat) :
    Calls Tryd.prog 49 #[u] w fun e w' => e = .returned (.tuple #[.agg #[.int .i64 0, .int .i64 0, .slice none 0 0], .int .i64 2]) ∧ Below w.heap.size w w' := by
  obtain ⟨n, hn⟩ : ∃ n, n = xs.length + 3 := ⟨_, rfl⟩
  have hx1 := x.isLt
  have hz1 := z.isLt
  have q1 : decide ((n : Int) < 3) = false := decide_eq_false (by omega)
  have i0 : (0 : Int) < (n : Int) := by omega
  have i2 : (2 : Int) < (n : Int) := by omega
  have q2 : decide ((15 : Int) < (x.toNat : Int)) = true := decide_eq_true (by omega)
  have HP := Lib.hid (show 0 < n by omega)
  have HN := Lib.hid (show (x :: y :: z :: xs).length = n by simp; omega)
  clear hn h1
  have HU := Lib.hid hu
  have HL := Lib.hid hl
  have HO := Lib.hid ho
  have HE := Lib.hid hf
  clear hu hl ho hf
  have HB := Lib.hid (below_alloc (Below.refl _ w) (.cells #[.int .i64 0, .int .i64 0, .slice none 0 0] 84))
  have HU1 := Lib.hid (HU.out.below HB.out)
  have HX := Lib.hid (box_new w 0 0 (.slice none 0 0))
  go_enter Tryd.func49, Tryd.ntmps49
  go_wp2_with fail
  (with_reducible refine (ropen_t _ b _ HU1.out HL.out HO.out).mono ?_)
  rintro e w1 ⟨r, rfl, hown, hb⟩
  rw [HE.out] at hown
  obtain ⟨g, cap, rfl, hcap, hge⟩ := hown.form (by rw [HN.out]; have := HP.out; omega)
  rw [HN.out] at hown hcap ⊢
  have c0 := hown.cell HN.out.symm 0 x rfl
  have c2 := hown.cell HN.out.symm 2 z rfl
  clear hown hge
  have HX1 := Lib.hid (HX.out.below hb)
  have HB1 := Lib.hid (below_call HB.out hb)
  clear hb HX
  obtain ⟨e0, e1, e2⟩ := HX1.out.cells
  have f0 := HX1.out.frz 0
  have f1 := HX1.out.frz 1
  have f2 := HX1.out.frz 2
  go_wp2_with fail
  (try simp only [Exit.inBlock, Exit.then])
  refine bodyPost_ret (v := .tuple #[.agg #[.int .i64 0, .int .i64 0, .slice none 0 0], .int .i64 2]) ?_ rfl ⟨rfl, below_three HB1.out (Nat.le_refl _) _ _ _⟩
  rw [results_cell_tmp rfl]
  go_simp

set_option maxHeartbeats 1000000 in
theorem rdec_count (u : Value) (b xs : List (BitVec 8)) (x y z : BitVec 8) (w : World) (hu : Byts w u b) (hl : b.length ≤ 140737488351232) (ho : opens b = true) (hf : front b = x :: y :: z :: xs) (h1 : x.toNat ≤ 15) (h2 : 16 < z.toNat) :
    Calls Tryd.prog 49 #[u] w fun e w' => e = .returned (.tuple #[.agg #[.int .i64 0, .int .i64 0, .slice none 0 0], .int .i64 2]) ∧ Below w.heap.size w w' := by
  obtain ⟨n, hn⟩ : ∃ n, n = xs.length + 3 := ⟨_, rfl⟩
  have hx1 := x.isLt
  have hz1 := z.isLt
  have q1 : decide ((n : Int) < 3) = false := decide_eq_false (by omega)
  have i0 : (0 : Int) < (n : Int) := by omega
  have i2 : (2 : Int) < (n : Int) := by omega
  have q2 : decide ((15 : Int) < (x.toNat : Int)) = false := decide_eq_false (by omega)
  have q3 : decide ((16 : Int) < (z.toNat : Int)) = true := decide_eq_true (by omega)
  have HP := Lib.hid (show 0 < n by omega)
  have HN := Lib.hid (show (x :: y :: z :: xs).length = n by simp; omega)
  clear hn h1 h2
  have HU := Lib.hid hu
  have HL := Lib.hid hl
  have HO := Lib.hid ho
  have HE := Lib.hid hf
  clear hu hl ho hf
  have HB := Lib.hid (below_alloc (Below.refl _ w) (.cells #[.int .i64 0, .int .i64 0, .slice none 0 0] 84))
  have HU1 := Lib.hid (HU.out.below HB.out)
  have HX := Lib.hid (box_new w 0 0 (.slice none 0 0))
  go_enter Tryd.func49, Tryd.ntmps49
  go_wp2_with fail
  (with_reducible refine (ropen_t _ b _ HU1.out HL.out HO.out).mono ?_)
  rintro e w1 ⟨r, rfl, hown, hb⟩
  rw [HE.out] at hown
  obtain ⟨g, cap, rfl, hcap, hge⟩ := hown.form (by rw [HN.out]; have := HP.out; omega)
  rw [HN.out] at hown hcap ⊢
  have c0 := hown.cell HN.out.symm 0 x rfl
  have c2 := hown.cell HN.out.symm 2 z rfl
  clear hown hge
  have HX1 := Lib.hid (HX.out.below hb)
  have HB1 := Lib.hid (below_call HB.out hb)
  clear hb HX
  obtain ⟨e0, e1, e2⟩ := HX1.out.cells
  have f0 := HX1.out.frz 0
  have f1 := HX1.out.frz 1
  have f2 := HX1.out.frz 2
  go_wp2_with fail
  (try simp only [Exit.inBlock, Exit.then])
  refine bodyPost_ret (v := .tuple #[.agg #[.int .i64 0, .int .i64 0, .slice none 0 0], .int .i64 2]) ?_ rfl ⟨rfl, below_three HB1.out (Nat.le_refl _) _ _ _⟩
  rw [results_cell_tmp rfl]
  go_simp

set_option maxHeartbeats 1000000 in
theorem rdec_many (u : Value) (b xs : List (BitVec 8)) (x y z : BitVec 8) (w : World) (hu : Byts w u b) (hl : b.length ≤ 140737488351232) (ho : opens b = true) (hf : front b = x :: y :: z :: xs) (h1 : x.toNat ≤ 15) (h2 : z.toNat ≤ 16) (h3 : xs.length ≠ z.toNat) :
    Calls Tryd.prog 49 #[u] w fun e w' => e = .returned (.tuple #[.agg #[.int .i64 0, .int .i64 0, .slice none 0 0], .int .i64 2]) ∧ Below w.heap.size w w' := by
  obtain ⟨n, hn⟩ : ∃ n, n = xs.length + 3 := ⟨_, rfl⟩
  have hx1 := x.isLt
  have hz1 := z.isLt
  have q1 : decide ((n : Int) < 3) = false := decide_eq_false (by omega)
  have i0 : (0 : Int) < (n : Int) := by omega
  have i2 : (2 : Int) < (n : Int) := by omega
  have q2 : decide ((15 : Int) < (x.toNat : Int)) = false := decide_eq_false (by omega)
  have q3 : decide ((16 : Int) < (z.toNat : Int)) = false := decide_eq_false (by omega)
  have q4 : ((n : Int) != 3 + (z.toNat : Int)) = true := by simp; omega
  have HP := Lib.hid (show 0 < n by omega)
  have HN := Lib.hid (show (x :: y :: z :: xs).length = n by simp; omega)
  clear hn h1 h2 h3
  have HU := Lib.hid hu
  have HL := Lib.hid hl
  have HO := Lib.hid ho
  have HE := Lib.hid hf
  clear hu hl ho hf
  have HB := Lib.hid (below_alloc (Below.refl _ w) (.cells #[.int .i64 0, .int .i64 0, .slice none 0 0] 84))
  have HU1 := Lib.hid (HU.out.below HB.out)
  have HX := Lib.hid (box_new w 0 0 (.slice none 0 0))
  go_enter Tryd.func49, Tryd.ntmps49
  go_wp2_with fail
  (with_reducible refine (ropen_t _ b _ HU1.out HL.out HO.out).mono ?_)
  rintro e w1 ⟨r, rfl, hown, hb⟩
  rw [HE.out] at hown
  obtain ⟨g, cap, rfl, hcap, hge⟩ := hown.form (by rw [HN.out]; have := HP.out; omega)
  rw [HN.out] at hown hcap ⊢
  have c0 := hown.cell HN.out.symm 0 x rfl
  have c2 := hown.cell HN.out.symm 2 z rfl
  clear hown hge
  have HX1 := Lib.hid (HX.out.below hb)
  have HB1 := Lib.hid (below_call HB.out hb)
  clear hb HX
  obtain ⟨e0, e1, e2⟩ := HX1.out.cells
  have f0 := HX1.out.frz 0
  have f1 := HX1.out.frz 1
  have f2 := HX1.out.frz 2
  go_wp2_with fail
  (try simp only [Exit.inBlock, Exit.then])
  refine bodyPost_ret (v := .tuple #[.agg #[.int .i64 0, .int .i64 0, .slice none 0 0], .int .i64 2]) ?_ rfl ⟨rfl, below_three HB1.out (Nat.le_refl _) _ _ _⟩
  rw [results_cell_tmp rfl]
  go_simp

theorem rdec_form (u : Value) (b : List (BitVec 8)) (w : World) (hu : Byts w u b) (hl : b.length ≤ 140737488351232) (ho : opens b = true) (hf : ¬ Form (front b)) :
    Calls Tryd.prog 49 #[u] w fun e w' => e = .returned (.tuple #[.agg #[.int .i64 0, .int .i64 0, .slice none 0 0], .int .i64 2]) ∧ Below w.heap.size w w' := by
  match hy : front b with
  | [] => exact rdec_short u b _ w hu hl ho hy (by simp)
  | [_] => exact rdec_short u b _ w hu hl ho hy (by simp)
  | [_, _] => exact rdec_short u b _ w hu hl ho hy (by simp)
  | x :: y :: z :: xs =>
    rw [hy] at hf
    by_cases h1 : x.toNat ≤ 15
    · by_cases h2 : z.toNat ≤ 16
      · exact rdec_many u b xs x y z w hu hl ho hy h1 h2 fun h3 => hf ⟨h1, h2, h3⟩
      · exact rdec_count u b xs x y z w hu hl ho hy h1 (by omega)
    · exact rdec_chan u b xs x y z w hu hl ho hy (by omega)

set_option maxHeartbeats 1000000 in
theorem rdec_yes (u : Value) (b : List (BitVec 8)) (x y : BitVec 8) (xs : List (BitVec 8)) (w : World) (hu : Byts w u b) (hl : b.length ≤ 140737488351232) (ho : opens b = true) (hf : front b = frm x y xs) (hx : x.toNat ≤ 15) (hxl : xs.length ≤ 16) :
    Calls Tryd.prog 49 #[u] w fun e w' => ∃ v, e = .returned (.tuple #[.agg #[.int .i64 (x.toNat : Int), .int .i64 (y.toNat : Int), v], .int .i64 0]) ∧ Byts w' v xs ∧ Below w.heap.size w w' := by
  obtain ⟨n, hn⟩ : ∃ n, n = xs.length + 3 := ⟨_, rfl⟩
  have hz : (BitVec.ofNat 8 xs.length).toNat = xs.length := by simp; omega
  have q1 : decide ((n : Int) < 3) = false := decide_eq_false (by omega)
  have i0 : (0 : Int) < (n : Int) := by omega
  have i1 : (1 : Int) < (n : Int) := by omega
  have i2 : (2 : Int) < (n : Int) := by omega
  have q2 : decide ((15 : Int) < (x.toNat : Int)) = false := decide_eq_false (by omega)
  have q3 : decide ((16 : Int) < (xs.length : Int)) = false := decide_eq_false (by omega)
  have q4 : ((n : Int) != 3 + (xs.length : Int)) = false := by simp; omega
  have hx1 := x.isLt
  have hy1 := y.isLt
  have HP := Lib.hid (show 3 ≤ n by omega)
  have HM := Lib.hid (show n - 3 = xs.length by omega)
  have HN := Lib.hid (show (frm x y xs).length = n by simp [frm]; omega)
  have HZ := Lib.hid hz
  have HXL := Lib.hid hxl
  have h300 : (xs.length : Int) ≤ 300 := by omega
  clear hn hx hxl hz
  have HU := Lib.hid hu
  have HL := Lib.hid hl
  have HO := Lib.hid ho
  have HE := Lib.hid hf
  clear hu hl ho hf
  have HB := Lib.hid (below_alloc (Below.refl _ w) (.cells #[.int .i64 0, .int .i64 0, .slice none 0 0] 84))
  have HU1 := Lib.hid (HU.out.below HB.out)
  have HX := Lib.hid (box_new w 0 0 (.slice none 0 0))
  go_enter Tryd.func49, Tryd.ntmps49
  go_wp2_with fail
  (with_reducible refine (ropen_t _ b _ HU1.out HL.out HO.out).mono ?_)
  rintro e w1 ⟨r, rfl, hown, hb⟩
  rw [HE.out] at hown
  obtain ⟨g, cap, rfl, hcap, hge⟩ := hown.form (by rw [HN.out]; have := HP.out; omega)
  rw [HN.out] at hown hcap ⊢
  have HGE := Lib.hid (show g ≠ w.heap.size by have := HX.out.lt; omega)
  have HR := Lib.hid hown
  have c0 := hown.cell HN.out.symm 0 x rfl
  have c1 := hown.cell HN.out.symm 1 y rfl
  have c2 := hown.cell HN.out.symm 2 (BitVec.ofNat 8 xs.length) rfl
  rw [HZ.out] at c2
  clear hown hge
  have HX1 := Lib.hid (HX.out.below hb)
  have HB1 := Lib.hid (below_call HB.out hb)
  clear hb HX
  obtain ⟨e0, e1, e2⟩ := HX1.out.cells
  have f0 := HX1.out.frz 0
  have f1 := HX1.out.frz 1
  have f2 := HX1.out.frz 2
  obtain ⟨v2, hrun, hv2, hbl⟩ := cutR HR.out.byts 3 (by rw [HN.out]; exact HP.out)
  have hv2 : Byts w1 v2 xs := hv2
  obtain ⟨a2, cap2, rfl⟩ := hv2.len
  have HV2 := Lib.hid hv2
  have HBL := Lib.hid (show ∀ a n c, Value.slice a2 xs.length cap2 = .slice (some a) n c → a.block ≠ w.heap.size from fun a n c h => by
    obtain ⟨a', n', c', e, e2⟩ := hbl a n c h
    cases e
    rw [e2]
    exact HGE.out)
  rw [show ((3 : Nat) : Int) = 3 from rfl] at hrun
  clear hv2 hbl
  go_wp2_with fail
  go_region
  go_wp2_with fail
  (try simp only [Exit.inBlock, Exit.then])
  refine bodyPost_ret (v := .tuple #[.agg #[.int .i64 (x.toNat : Int), .int .i64 (y.toNat : Int), .slice a2 xs.length cap2], .int .i64 0]) ?_ rfl ⟨_, rfl, HV2.out.apart (Apart.drew (apart_three _ _ _ _ _)) HBL.out, below_drewN (below_three HB1.out (Nat.le_refl _) _ _ _) 1⟩
  rw [results_cell_tmp rfl]
  go_simp
end Go.Proofs.YtolfdfbhignniaaDoor
/-
  Decode of anything, beside the document's.
-/
namespace Go.Proofs.YtolfdfbhignniaaDoor
open Go.RowKit

theorem length_sealed (x y : BitVec 8) (xs : List (BitVec 8)) : (sealed (frm x y xs)).length = xs.length + 5 := by simp [sealed, frm]
theorem frm_inj {x y x' y' : BitVec 8} {xs ys : List (BitVec 8)} (h : frm x y xs = frm x' y' ys) : x = x' ∧ y = y' ∧ xs = ys := by
  unfold frm at h
  simp only [List.cons.injEq] at h
  exact ⟨h.1, h.2.1, h.2.2.2⟩
theorem sealed_inj {xs ys : List (BitVec 8)} (h : sealed xs = sealed ys) : xs = ys := by
  have := congrArg front h
  rwa [front_sealed, front_sealed] at this

theorem dec_pair (b : List (BitVec 8)) (hl : b.length ≤ 140737488351232) : ∃ (c q : Int) (ys : List (BitVec 8)) (k : Int),
    (∀ u w, Byts w u b → Calls Tryd.prog 46 #[u] w fun e w' => ∃ v e2, e = .returned (.tuple #[.agg #[.int .i64 c, .int .i64 q, v], e2]) ∧ Byts w' v ys ∧ ErrV w' e2 k ∧ Below w.heap.size w w') ∧
    (∀ u w, Byts w u b → Calls Tryd.prog 49 #[u] w fun e w' => ∃ v, e = .returned (.tuple #[.agg #[.int .i64 c, .int .i64 q, v], .int .i64 k]) ∧ Byts w' v ys ∧ Below w.heap.size w w') := by
  cases ho : opens b with
  | false =>
    exact ⟨0, 0, [], 3, fun u w hu => (dec_sum u b w hu hl ho).mono fun e w' ⟨g, _, h1, h2, h3⟩ => ⟨_, _, h1, byts_nil _, .inr ⟨g, by decide, rfl, h2⟩, h3⟩,
      fun u w hu => (rdec_sum u b w hu hl ho).mono fun e w' ⟨h1, h3⟩ => ⟨_, h1, byts_nil _, h3⟩⟩
  | true =>
    by_cases hf : Form (front b)
    · obtain ⟨x, y, xs, he, hx, hxl⟩ := form_frm hf
      exact ⟨x.toNat, y.toNat, xs, 0, fun u w hu => (dec_yes u b x y xs w hu hl ho he hx hxl).mono fun e w' ⟨v, h1, h2, h3⟩ => ⟨v, _, h1, h2, .inl ⟨rfl, rfl⟩, h3⟩,
        fun u w hu => (rdec_yes u b x y xs w hu hl ho he hx hxl).mono fun e w' ⟨v, h1, h2, h3⟩ => ⟨v, h1, h2, h3⟩⟩
    · exact ⟨0, 0, [], 2, fun u w hu => (dec_form u b w hu hl ho hf).mono fun e w' ⟨g, _, h1, h2, h3⟩ => ⟨_, _, h1, byts_nil _, .inr ⟨g, by decide, rfl, h2⟩, h3⟩,
        fun u w hu => (rdec_form u b w hu hl ho hf).mono fun e w' ⟨h1, h3⟩ => ⟨_, h1, byts_nil _, h3⟩⟩
/-- Bytes are refused, or are the telegram x, y, xs, whose bytes they are. -/
theorem dec_cases (b : List (BitVec 8)) (hl : b.length ≤ 140737488351232) :
    (∀ u w, Byts w u b → Calls Tryd.prog 46 #[u] w fun e w' => ∃ g, e = .returned (.tuple #[.agg #[.int .i64 0, .int .i64 0, .slice none 0 0], .iface 79 (.pointer (some ⟨g, 0, none⟩))]) ∧ Below w.heap.size w w') ∨
    ∃ (x y : BitVec 8) (ys : List (BitVec 8)), b = sealed (frm x y ys) ∧ x.toNat ≤ 15 ∧ ys.length ≤ 16 ∧
      (∀ u w, Byts w u b → Calls Tryd.prog 46 #[u] w fun e w' => ∃ v, e = .returned (.tuple #[.agg #[.int .i64 (x.toNat : Int), .int .i64 (y.toNat : Int), v], .nilIface]) ∧ Byts w' v ys ∧ Below w.heap.size w w') := by
  cases ho : opens b with
  | false => exact .inl fun u w hu => (dec_sum u b w hu hl ho).mono fun e w' ⟨g, _, h1, _, h3⟩ => ⟨g, h1, h3⟩
  | true =>
    by_cases hf : Form (front b)
    · obtain ⟨x, y, xs, he, hx, hxl⟩ := form_frm hf
      exact .inr ⟨x, y, xs, by rw [← he]; exact (sealed_front ho).symm, hx, hxl, fun u w hu => dec_yes u b x y xs w hu hl ho he hx hxl⟩
    · exact .inl fun u w hu => (dec_form u b w hu hl ho hf).mono fun e w' ⟨g, _, h1, _, h3⟩ => ⟨g, h1, h3⟩
end Go.Proofs.YtolfdfbhignniaaDoor
