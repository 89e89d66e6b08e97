/-
  crossbucklaw01.Made by contracts: an error that came through places, and its path; no error, if the number is OK.
-/
import Derived.Test.YteggehjbkbfdfaaDoorSame
namespace Go.Proofs.YteggehjbkbfdfaaDoor
open Go.RowKit Go.Extern.Stop Go.Stop Go.Extern

theorem str_all (xs : List ByteArray) : ∀ u ∈ xs.map Value.string, u.oneCell' = true := by
  intro u hu
  simp at hu
  obtain ⟨a, _, rfl⟩ := hu
  rfl

/-- What an append to a slice of one element that was just laid leaves of older memory. -/
theorem below_fresh {w w1 : World} {x : Value} {e : TypeId} (hg : (w.alloc (.cells #[x] e)).grownBy w1 (Value.slice (some ⟨w.heap.size, 0, none⟩) 1 1).ownBlock) : Below w.heap.size w w1 :=
  ((Below.refl _ w).alloc (Nat.le_refl _) _).grown hg (by simp) fun k hk => by
    simp [Value.ownBlock] at hk; omega

theorem own_cells {w : World} {B k : Nat} {v : Value} {xs : List ByteArray} (h : w.ownsRow B 9 1 v k (xs.map Value.string)) (h0 : 0 < k) :
    ∃ g cap, v = .slice (some ⟨g, 0, none⟩) k cap ∧ ∀ (j : Nat) u, (xs.map Value.string)[j]? = some u → w.cell? ((⟨g, 0, none⟩ : Addr).add j) = some u := by
  obtain ⟨g, cap, hv, _⟩ := own_some h h0
  exact ⟨g, cap, hv, h.cells (by rw [hv]; rfl)⟩

theorem rev_succ {xs : List ByteArray} {k : Nat} {x : ByteArray} (hx : xs[k]? = some x) : (xs.take (k + 1)).reverse = x :: (xs.take k).reverse := by
  obtain ⟨hk, rfl⟩ := List.getElem?_eq_some_iff.1 hx
  rw [List.take_succ_eq_append_getElem hk, List.reverse_append]; rfl

theorem Strs.pick {w : World} {v : Value} {xs : List ByteArray} (h : Strs w v xs) (k : Nat) (hk : k < xs.length) :
    ∃ g o cap x, v = .slice (some ⟨g, o, none⟩) xs.length cap ∧ xs.length ≤ cap ∧ g < w.heap.size ∧ w.cell? ⟨g, o + k, none⟩ = some (.string x) ∧ xs[k]? = some x := by
  obtain ⟨g, o, cap, hv, hc, hg, h⟩ := h.at k hk
  exact ⟨g, o, cap, _, hv, hc, hg, h, List.getElem?_eq_getElem hk⟩

/-- The relation of Made's loop, where there is an error. -/
structure MadeR (B : Nat) (w wr : World) (n : Int) (xs : List ByteArray) (k : Nat) (ev pv : Value) : Prop where
  chain : Chain wr (.iface 24 (.int .i64 n)) n (xs.take k).reverse ev
  own : wr.ownsRow B 9 1 pv k ((xs.take k).reverse.map Value.string)
  below : Below B w wr

theorem MadeR.start {w : World} {n : Int} {xs : List ByteArray} {x : ByteArray} (hx : xs[0]? = some x) :
    MadeR w.heap.size w ((w.alloc (.cells #[.string x, .int .i64 n, .iface 24 (.int .i64 n)] 48)).alloc (.cells #[.string x] 9)) n xs 1 (.iface 45 (.pointer (some ⟨w.heap.size, 0, none⟩))) (.slice (some ⟨w.heap.size + 1, 0, none⟩) 1 1) := by
  have e : (xs.take 1).reverse = [x] := by rw [rev_succ hx]; simp
  refine ⟨?_, ?_, ((Below.refl _ w).alloc (Nat.le_refl _) _).alloc (by simp) _⟩
  · rw [e]
    exact ⟨_, _, rfl, keeps_alloc _ _ _ _ (by simp), keeps_alloc _ _ _ _ (by simp), keeps_alloc _ _ _ _ (by simp), rfl⟩
  · rw [e]
    have := own_one (w.alloc (.cells #[.string x, .int .i64 n, .iface 24 (.int .i64 n)] 48)) (.string x) 9 w.heap.size (by simp)
    simpa using this

theorem MadeR.place {B : Nat} {w wr : World} {n : Int} {xs : List ByteArray} {k : Nat} {ev pv : Value} (h : MadeR B w wr n xs k ev pv) (hk : 1 ≤ k) (hl : k ≤ xs.length) :
    ∃ b, ev = .iface 45 (.pointer (some ⟨b, 0, none⟩)) ∧ wr.cell? ⟨b, 1, none⟩ = some (.int .i64 n) := by
  obtain ⟨j, rfl⟩ : ∃ j, k = j + 1 := ⟨k - 1, by omega⟩
  have hc := h.chain
  rw [rev_succ (List.getElem?_eq_getElem (show j < xs.length by omega))] at hc
  obtain ⟨b, u, e, _, h1, _⟩ := hc
  exact ⟨b, e, h1⟩

theorem MadeR.step {B : Nat} {w wr w1 : World} {n : Int} {xs : List ByteArray} {k b : Nat} {pv s1 : Value} (h : MadeR B w wr n xs k (.iface 45 (.pointer (some ⟨b, 0, none⟩))) pv) {x : ByteArray} (hx : xs[k]? = some x)
    (hB : B ≤ wr.heap.size)
    (hg : ((wr.alloc (.cells #[.string x, .int .i64 n, .iface 45 (.pointer (some ⟨b, 0, none⟩))] 48)).alloc (.cells #[.string x] 9)).grownBy w1 (Value.slice (some ⟨wr.heap.size + 1, 0, none⟩) 1 1).ownBlock)
    (hown : w1.ownsRow B 9 1 s1 (1 + k) ([Value.string x] ++ (xs.take k).reverse.map Value.string)) :
    MadeR B w w1 n xs (k + 1) (.iface 45 (.pointer (some ⟨wr.heap.size, 0, none⟩))) s1 := by
  have hb : Below (wr.heap.size + 1) (wr.alloc (.cells #[.string x, .int .i64 n, .iface 45 (.pointer (some ⟨b, 0, none⟩))] 48)) w1 := by
    have := below_fresh (w := wr.alloc (.cells #[.string x, .int .i64 n, .iface 45 (.pointer (some ⟨b, 0, none⟩))] 48)) (w1 := w1) (x := .string x) (e := 9) (by simpa using hg)
    simpa using this
  have hb' : Below (wr.alloc (.cells #[.string x, .int .i64 n, .iface 45 (.pointer (some ⟨b, 0, none⟩))] 48)).heap.size (wr.alloc (.cells #[.string x, .int .i64 n, .iface 45 (.pointer (some ⟨b, 0, none⟩))] 48)) w1 := hb.mono (by simp)
  refine ⟨?_, ?_, ?_⟩
  · rw [rev_succ hx]
    refine ⟨_, .iface 45 (.pointer (some ⟨b, 0, none⟩)), rfl, keeps_below hb' _ _ (by simp), keeps_below hb' _ _ (by simp), keeps_below hb' _ _ (by simp), ?_⟩
    exact h.chain.kept fun a v ha => keeps_below hb' _ _ (keeps_alloc _ _ _ _ ha)
  · rw [rev_succ hx, Nat.add_comm k 1]; exact hown
  · exact (h.below.alloc hB _).trans (hb.mono (by omega))

theorem own_two (w : World) (A : Obj) (x : Value) (e : TypeId) (B : Nat) (hB : B ≤ w.heap.size) : ((w.alloc A).alloc (.cells #[x] e)).ownsRow B e 1 (.slice (some ⟨w.heap.size + 1, 0, none⟩) 1 1) 1 [x] := by
  have h := own_one (w.alloc A) x e B (le_alloc hB A)
  have e1 : (w.alloc A).heap.size = w.heap.size + 1 := by simp
  rw [e1] at h
  exact h

def news_len (l : List ByteArray) (k : Nat) : Prop := (l.reverse.map Value.string).length = k * 1

theorem cells_two {w : World} {g : Nat} {news : List Value} {o1 o2 : Obj} (h : ∀ (j : Nat) u, news[j]? = some u → w.cell? ((⟨g, 0, none⟩ : Addr).add j) = some u) :
    ∀ (j : Nat) u, news[j]? = some u → ((w.alloc o1).alloc o2).cell? ((⟨g, 0, none⟩ : Addr).add j) = some u :=
  fun j u hj => keeps_alloc _ _ _ _ (keeps_alloc _ _ _ _ (h j u hj))

theorem len_two {k : Nat} (h : k ≤ 50) : 1 + k ≤ maxLen ∧ (1 + k) * 16 ≤ 140737488355328 := by unfold maxLen; omega

set_option maxHeartbeats 2000000 in
set_option maxRecDepth 100000 in
theorem made_num (n : Int) (hn : n ≠ 0) (v : Value) (xs : List ByteArray) (w : World) (hv : Strs w v xs) (h0 : 0 < xs.length) (hl : xs.length ≤ 50) :
    Calls Tryd.prog 10 #[.int .i64 n, v] w fun e w' => ∃ ev pv, e = .returned (.tuple #[ev, pv]) ∧ MadeR w.heap.size w w' n xs xs.length ev pv := by
  obtain ⟨i0, hi, hz0, hz1, hz2⟩ := info_parts infoStr
  obtain ⟨g, o, c, x0, rfl, hc, hg, h1, hx0⟩ := hv.pick 0 h0
  have HV := Lib.hid hv
  clear hv
  have h0I : (0 : Int) < (xs.length : Int) := by omega
  have hS := Lib.hid (MadeR.start (w := w) (n := n) hx0)
  rw [Nat.add_zero] at h1
  clear hx0
  go_enter Tryd.func10, Tryd.ntmps10
  go_wp2_with (go_at_call 21; refine (new_num n hn _ _).mono ?_; rintro e w1 ⟨rfl, rfl⟩)
  go_loopw [6, 7, 8] (fun ev pv i wr => ∃ k : Nat, 1 ≤ k ∧ k ≤ xs.length ∧ i = .int .i64 k ∧ MadeR w.heap.size w wr n xs k ev pv) (fun _ _ i _ => xs.length - (intOf i).toNat)
  case atStart => exact ⟨1, Nat.le_refl _, h0, rfl, hS.out⟩
  case round =>
    obtain ⟨k, hk1, hk, rfl, hR⟩ := hrel
    clear hS
    by_cases hlt : k < xs.length
    · obtain ⟨g', o', c', x, e1, hc1, hg1, h2, hx⟩ := HV.out.pick k hlt
      simp only [Value.slice.injEq, Option.some.injEq, Addr.mk.injEq] at e1
      obtain ⟨⟨rfl, rfl, _⟩, _, rfl⟩ := e1
      obtain ⟨b, rfl, hnum⟩ := hR.place hk1 hk
      have hBz := hR.below.size
      have h2' : wr.cell? ⟨g, o + k, none⟩ = some (.string x) := keeps_below hR.below _ _ h2
      obtain ⟨gp, cp, rfl, hcp⟩ := own_cells hR.own (by omega)
      have HR := Lib.hid hR
      have hll : k ≤ 50 := by omega
      have hltI : (k : Int) < (xs.length : Int) := by omega
      have HX := Lib.hid hx
      have h2a : ∀ ob, (wr.alloc ob).cell? ⟨g, o + k, none⟩ = some (.string x) := fun ob => keeps_alloc _ _ _ _ h2'
      have hsrc : news_len (xs.take k) k := by unfold news_len; simp; omega
      have HCP := Lib.hid hcp
      clear hR h2 h1 hcp hx
      go_wp2_with (first
        | (go_at_call 19; refine (wrap_place b n _ _ hnum).mono ?_; rintro e w1 ⟨rfl, rfl⟩)
        | (at_builtin; refine wpList_append_own _ rfl _ _ 22 rfl w.heap.size 9 i0 (.string ByteArray.empty) 1 16 Tryd.underlying22 hi hz0 hz1 hz2 rfl (by decide) _ 1 [.string x] rfl (own_two _ _ _ _ _ hBz) ⟨gp, 0, none⟩ k cp ((xs.take k).reverse.map Value.string) rfl hsrc (cells_two HCP.out) (str_all _) (len_two hll).1 (len_two hll).2 (le_alloc (le_alloc hBz _) _) ?_; intro s1 w1 hown1 hgrow hnil; clear hnil; have hR1 := HR.out.step HX.out hBz hgrow hown1; clear hown1 hgrow))
      go_roundw
      case rel => exact ⟨k + 1, by omega, by omega, by go_num, hR1⟩
      case measure => simp [intOf]; omega
    · obtain rfl : k = xs.length := by omega
      go_wp2
      go_ret2
      exact ⟨_, _, rfl, hR⟩
end Go.Proofs.YteggehjbkbfdfaaDoor
