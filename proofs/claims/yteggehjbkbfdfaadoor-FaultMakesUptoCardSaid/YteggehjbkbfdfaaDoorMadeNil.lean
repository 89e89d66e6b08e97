/-
  crossbucklaw01.Made of the number OK: no error. And crossbucklaw01.small: true.
-/
import Derived.Test.YteggehjbkbfdfaaDoorMade
namespace Go.Proofs.YteggehjbkbfdfaaDoor
open Go.RowKit Go.Extern.Stop Go.Stop Go.Extern

/-- The relation of Made's loop, where there is no error. -/
structure NilR (B : Nat) (w wr : World) (xs : List ByteArray) (k : Nat) (pv : Value) : Prop where
  own : wr.ownsRow B 9 1 pv k ((xs.take k).reverse.map Value.string)
  below : Below B w wr

theorem NilR.start {w : World} {xs : List ByteArray} {x : ByteArray} (hx : xs[0]? = some x) :
    NilR w.heap.size w (w.alloc (.cells #[.string x] 9)) xs 1 (.slice (some ⟨w.heap.size, 0, none⟩) 1 1) := by
  have e : (xs.take 1).reverse = [x] := by rw [rev_succ hx]; simp
  refine ⟨?_, (Below.refl _ w).alloc (Nat.le_refl _) _⟩
  rw [e]
  exact own_one w (.string x) 9 w.heap.size (Nat.le_refl _)

theorem NilR.step {B : Nat} {w wr w1 : World} {xs : List ByteArray} {k : Nat} {pv s1 : Value} (h : NilR B w wr xs k pv) {x : ByteArray} (hx : xs[k]? = some x) (hB : B ≤ wr.heap.size)
    (hg : (wr.alloc (.cells #[.string x] 9)).grownBy w1 (Value.slice (some ⟨wr.heap.size, 0, none⟩) 1 1).ownBlock)
    (hown : w1.ownsRow B 9 1 s1 (1 + k) ([Value.string x] ++ (xs.take k).reverse.map Value.string)) : NilR B w w1 xs (k + 1) s1 := by
  refine ⟨?_, h.below.trans ((below_fresh hg).mono hB)⟩
  rw [rev_succ hx, Nat.add_comm k 1]; exact hown

theorem cells_one {w : World} {g : Nat} {news : List Value} {o1 : Obj} (h : ∀ (j : Nat) u, news[j]? = some u → w.cell? ((⟨g, 0, none⟩ : Addr).add j) = some u) :
    ∀ (j : Nat) u, news[j]? = some u → (w.alloc o1).cell? ((⟨g, 0, none⟩ : Addr).add j) = some u :=
  fun j u hj => keeps_alloc _ _ _ _ (h j u hj)

set_option maxHeartbeats 2000000 in
set_option maxRecDepth 100000 in
theorem made_ok (v : Value) (xs : List ByteArray) (w : World) (hv : Strs w v xs) (h0 : 0 < xs.length) (hl : xs.length ≤ 50) :
    Calls Tryd.prog 10 #[.int .i64 0, v] w fun e w' => ∃ pv, e = .returned (.tuple #[.nilIface, pv]) ∧ Below w.heap.size w w' := by
  obtain ⟨i0, hi, hz0, hz1, hz2⟩ := info_parts infoStr
  obtain ⟨g, o, c, x0, rfl, hc, hg, h1, hx0⟩ := hv.pick 0 h0
  have HV := Lib.hid hv
  clear hv
  have h0I : (0 : Int) < (xs.length : Int) := by omega
  have hS := Lib.hid (NilR.start (w := w) hx0)
  rw [Nat.add_zero] at h1
  clear hx0
  go_enter Tryd.func10, Tryd.ntmps10
  go_wp2_with (go_at_call 21; refine (new_ok _ _).mono ?_; rintro e w1 ⟨rfl, rfl⟩)
  go_loopw [6, 7, 8] (fun ev pv i wr => ∃ k : Nat, 1 ≤ k ∧ k ≤ xs.length ∧ i = .int .i64 k ∧ ev = .nilIface ∧ NilR w.heap.size w wr xs k pv) (fun _ _ i _ => xs.length - (intOf i).toNat)
  case atStart => exact ⟨1, Nat.le_refl _, h0, rfl, rfl, hS.out⟩
  case round =>
    obtain ⟨k, hk1, hk, rfl, rfl, hR⟩ := hrel
    clear hS
    by_cases hlt : k < xs.length
    · obtain ⟨g', o', c', x, e1, hc1, hg1, h2, hx⟩ := HV.out.pick k hlt
      simp only [Value.slice.injEq, Option.some.injEq, Addr.mk.injEq] at e1
      obtain ⟨⟨rfl, rfl, _⟩, _, rfl⟩ := e1
      have hBz := hR.below.size
      have h2' : wr.cell? ⟨g, o + k, none⟩ = some (.string x) := keeps_below hR.below _ _ h2
      obtain ⟨gp, cp, rfl, hcp⟩ := own_cells hR.own (by omega)
      have HR := Lib.hid hR
      have hll : k ≤ 50 := by omega
      have hltI : (k : Int) < (xs.length : Int) := by omega
      have HX := Lib.hid hx
      have hsrc : news_len (xs.take k) k := by unfold news_len; simp; omega
      have HCP := Lib.hid hcp
      clear hR h2 h1 hcp hx
      go_wp2_with (first
        | (go_at_call 19; refine (wrap_nil _ _).mono ?_; rintro e w1 ⟨rfl, rfl⟩)
        | (at_builtin; refine wpList_append_own _ rfl _ _ 22 rfl w.heap.size 9 i0 (.string ByteArray.empty) 1 16 Tryd.underlying22 hi hz0 hz1 hz2 rfl (by decide) _ 1 [.string x] rfl (own_one _ _ _ _ hBz) ⟨gp, 0, none⟩ k cp ((xs.take k).reverse.map Value.string) rfl hsrc (cells_one HCP.out) (str_all _) (len_two hll).1 (len_two hll).2 (le_alloc hBz _) ?_; intro s1 w1 hown1 hgrow hnil; clear hnil; have hR1 := HR.out.step HX.out hBz hgrow hown1; clear hown1 hgrow))
      go_roundw
      case rel => exact ⟨k + 1, by omega, by omega, by go_num, rfl, hR1⟩
      case measure => simp [intOf]; omega
    · obtain rfl : k = xs.length := by omega
      go_wp2
      go_ret2
      exact ⟨_, rfl, hR.below⟩
end Go.Proofs.YteggehjbkbfdfaaDoor
