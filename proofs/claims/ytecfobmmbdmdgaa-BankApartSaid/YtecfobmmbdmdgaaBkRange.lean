/-
  The statement that ranges over bank.row's function, no round leaving early.
-/
import Derived.Test.YtecfobmmbdmdgaaBkRow
namespace Go.Proofs.Ytecfobmmbdmdgaa
open Go.RowKit

theorem keep_putObj (w : World) (l : Nat) (o : Obj) : Keep (fun k => k = l) w (w.putObj l o) :=
  ⟨rfl, rfl, rfl, by simp, fun k _ hk => World.putObj_heap_other hk⟩

set_option maxRecDepth 100000 in
set_option maxHeartbeats 1000000 in
theorem range_row (F : Fence) (n : Nat) (hF : ∀ k, F.fn k) (hro : F.round = none) (hn : 2 ≤ n) (hC : ∀ (m f : Nat) (args : Array Value) (w : World) (R : Ending → World → Prop), Calls Try.prog f args w R → CallsIn F m Try.prog f args w R)
    {g : Operand} {p : Tmp} {assign body : Code} {Q : Exit → Act → World → Prop} {a : Act} {w : World} (bb lo : Nat) (v : Value) (xs : List (BitVec 8)) (hl : xs.length ≤ 100000)
    (hfar : ∀ a k c, v = .slice (some a) k c → k = 0 ∨ a.block < lo) (hv : Byts w v xs) (hbb : w.cell? ⟨bb, 0, none⟩ = some v) (hlo : lo ≤ w.heap.size)
    (hg : a.eval g = .func (.func 29) #[] #[.pointer (some ⟨bb, 0, none⟩)])
    (I : Nat → List NV → World → Prop)
    (hstart : ∀ c W, Below w.heap.size w W → w.heap.size + 2 ≤ c → I c [] W)
    (hI : ∀ c pre W1 W2, w.heap.size + 2 ≤ c → I c pre W1 → Keep (fun k => k = c ∨ k = w.heap.size ∨ k = w.heap.size + 1) W1 W2 → I c pre W2)
    (a₁ : NV → Nat → Act)
    (hassign : ∀ (l : Nat) (x : NV) (W : World) (K : Act → World → Prop), K (a₁ x W.heap.size) (W.alloc (.cells #[.int .u32 (x.s : Int), .slice (some ⟨x.g, 0, none⟩) x.d.length x.c, .int .i64 (x.e : Int)] 33)) →
      assign.wpIn (F.inRound l) (n - 1 - 1) Try.prog (Exit.then K (fun _ _ _ => False)) { tmps := ((#[p] : Array Tmp).zip #[Value.agg #[.int .u32 (x.s : Int), .slice (some ⟨x.g, 0, none⟩) x.d.length x.c, .int .i64 (x.e : Int)]]).foldl (fun t (p, v) => t.setIfInBounds p v) a.tmps, defers := [] } W)
    (hbody : ∀ (l c : Nat) (pre : List NV) (x : NV) (nb : Nat) (W : World), w.heap.size + 2 ≤ c → c < W.heap.size → I c pre W → Own W w.heap.size x.v x.d → x.g ≠ c → x.g ≠ w.heap.size → x.g ≠ w.heap.size + 1 → (∀ y ∈ pre, y.g < x.g) → pre.length ≤ 100001 →
      Blk W nb #[.int .u32 (x.s : Int), .slice (some ⟨x.g, 0, none⟩) x.d.length x.c, .int .i64 (x.e : Int)] 33 →
      body.wpIn (F.inRound l) (n - 1 - 1) Try.prog (fun e _ W' => e = .normal ∧ Keep (fun k => Mayn lo bb c k ∧ k ≠ w.heap.size ∧ k ≠ w.heap.size + 1) W W' ∧ I c (pre ++ [x]) W') (a₁ x nb) W)
    (hdone : ∀ (c : Nat) (ys : List NV) (W : World), w.heap.size + 2 ≤ c → ys.map NV.nt = bnotes xs → I c ys W → W.heap[w.heap.size]? = some (.deferred (some [])) → Q .normal { a with defers := { target := .collected w.heap.size, args := #[] } :: a.defers } W) :
    (Code.rangeFunc g #[p] assign body).wpIn F n Try.prog Q a w := by
  have hbl := lt_of_cell hbb
  refine wpIn_rangeFunc ?_
  intro fn hfn
  rw [hro]
  obtain ⟨rec, hrec⟩ : ∃ rec : LoopState → Option Code → Loop, rec = fun st pe => { state := st, pending := pe, fn, tmps := a.tmps, params := #[p], assign, body, defers := w.heap.size } := ⟨_, rfl⟩
  obtain ⟨W1, hW1⟩ : ∃ W1, (w.alloc (.deferred (some []))).alloc (.loop (rec .ready none)) = W1 := ⟨_, rfl⟩
  have hL1 : W1.heap[w.heap.size + 1]? = some (.loop (rec .ready none)) := by
    rw [← hW1]; have := World.alloc_heap_new (w.alloc (.deferred (some []))) (.loop (rec .ready none)); rwa [World.size_alloc] at this
  have hK1 : W1.heap[w.heap.size]? = some (.deferred (some [])) := by
    rw [← hW1]; exact (Below.heap_alloc _ _ _ (by simp)).trans (World.alloc_heap_new w _)
  have hb1 : Below w.heap.size w W1 := by rw [← hW1]; exact bel_two w _ _
  have hsz : W1.heap.size = w.heap.size + 2 := by rw [← hW1]; simp
  refine ⟨w.heap.size + 1, [{ target := .collected w.heap.size, args := #[] }], W1, { target := .fn (.func 29) #[.pointer (some ⟨bb, 0, none⟩)], args := #[.func (.yield (w.heap.size + 1)) #[] #[]] }, W1, 29,
    #[.func (.yield (w.heap.size + 1)) #[] #[]] ++ #[.pointer (some ⟨bb, 0, none⟩)], W1, ?_, ?_, ?_, ?_, fun _ => by omega, ?_⟩
  · rw [← hW1, hrec]; exact run_enterLoop_outer _ _ _ _ _
  · simp only [resolve, hg]
    simp [go_sem]
  · exact fun f' _ => hF f'
  · simp [invoke, go_sem]
  · refine (round_calls F (n - 1) hF hro (by omega) hC (w.heap.size + 1) bb lo v xs hl hfar
      (fun c pre W => I c pre W ∧ W.heap[w.heap.size + 1]? = some (.loop (rec .ready none)) ∧ W.heap[w.heap.size]? = some (.deferred (some [])))
      W1 (hv.below hb1) (below_cell hb1 hbb) (by omega)
      (fun c W hb hc => ⟨hstart c W (below_call hb1 hb) (by omega), (hb.block _ (by omega)).trans hL1, (hb.block _ (by omega)).trans hK1⟩)
      (fun c pre A B hc ⟨hi, hl, hk⟩ hkp => ⟨hI c pre A B (by omega) hi (hkp.mono fun g h => .inl h), (hkp.block _ (lt_of_block hl) (by omega)).trans hl, (hkp.block _ (lt_of_block hk) (by omega)).trans hk⟩)
      ?_).mono ?_
    · rintro c pre x W hc hclt ⟨hi, hl, hk⟩ ho hxc hxg hlen
      have hy := run_yield (P := Try.prog) (args := #[.agg #[.int .u32 (x.s : Int), .slice (some ⟨x.g, 0, none⟩) x.d.length x.c, .int .i64 (x.e : Int)]]) hl (by rw [hrec]; rfl)
      rw [hrec] at hy
      have hxl := (NV.own_block ho).choose_spec.2
      have hbA := below_alloc (Below.refl _ W) (.cells #[.int .u32 (x.s : Int), .slice (some ⟨x.g, 0, none⟩) x.d.length x.c, .int .i64 (x.e : Int)] 33)
      have hkA := blk_new W #[.int .u32 (x.s : Int), .slice (some ⟨x.g, 0, none⟩) x.d.length x.c, .int .i64 (x.e : Int)] 33
      have hnb := lt_of_block hl
      refine ⟨fn, _, assign, body, hy, roundIn_of_wpIn hfn (hassign _ x W _ ?_)⟩
      clear hy
      generalize W.alloc (.cells #[.int .u32 (x.s : Int), .slice (some ⟨x.g, 0, none⟩) x.d.length x.c, .int .i64 (x.e : Int)] 33) = WA at *
      have hlA := (hbA.block _ hnb).trans hl
      have hkD := (hbA.block _ (lt_of_block hk)).trans hk
      refine ⟨_, run_beginRound hlA (by rw [hrec]), ?_⟩
      have hP := keep_putObj WA (w.heap.size + 1) (.loop { rec .ready none with state := .busy })
      have hl2 : (WA.putObj (w.heap.size + 1) (.loop { rec .ready none with state := .busy })).heap[w.heap.size + 1]? = some (.loop { rec .ready none with state := .busy }) := World.putObj_heap_same (lt_of_block hlA)
      generalize WA.putObj (w.heap.size + 1) (.loop { rec .ready none with state := .busy }) = WB at *
      have hkB := (hP.block _ (lt_of_block hkD) (by omega)).trans hkD
      have hAB : Keep (fun k => k = w.heap.size + 1) W WB := (Keep.of_below (F := fun k => k = w.heap.size + 1) hbA).trans hP fun g h => .inl h
      refine wpIn_mono (hbody _ c pre x W.heap.size WB (by omega) (Nat.lt_of_lt_of_le hclt hAB.size) (hI c pre W WB (by omega) hi (hAB.mono fun g h => .inr (.inr h)))
        ((ho.keepB hAB fun g h h2 => by simp only [NV.v, Value.ownBlock, Option.some.injEq] at h; omega).mono (by omega)) hxc (by omega) (by omega) hxg hlen (hkA.keep hP (by omega))) ?_
      rintro e a3 W3 ⟨rfl, hkp, hi3⟩
      have hl3 := (hkp.block _ (lt_of_block hl2) (fun h => h.2.2 rfl)).trans hl2
      have hk3 := (hkp.block _ (lt_of_block hkB) (fun h => h.2.1 rfl)).trans hkB
      have hE := run_endRound (P := Try.prog) none hl3
      rw [hrec] at hE
      have hP3 := keep_putObj W3 (w.heap.size + 1) (.loop { state := if (none : Option Code).isNone then .ready else .done, pending := none, fn, tmps := a.tmps, params := #[p], assign, body, defers := w.heap.size })
      refine ⟨_, _, hE, rfl, ⟨hI c _ W3 _ (by omega) hi3 (hP3.mono fun g h => .inr (.inr h)), ?_, (hP3.block _ (lt_of_block hk3) (by omega)).trans hk3⟩, ?_⟩
      · rw [hrec]; exact World.putObj_heap_same (lt_of_block hl3)
      · have hM : Mayn lo bb c (w.heap.size + 1) := fun h => by omega
        exact ((hAB.mono (G := Mayn lo bb c) fun g h => by rw [h]; exact hM).trans hkp fun g h => .inl h.1).trans hP3 fun g h => .inl (by have h : g = w.heap.size + 1 := h; rw [h]; exact hM)
    · rintro e W2 ⟨⟨u, rfl⟩, c, ys, hc, hys, hi, hl, hk⟩
      have hE := run_endLoop (P := Try.prog) hl (by rw [hrec]; simp)
      rw [hrec] at hE
      have hP := keep_putObj W2 (w.heap.size + 1) (.loop { state := .exhausted, pending := none, fn, tmps := a.tmps, params := #[p], assign, body, defers := w.heap.size })
      exact ⟨none, _, hE, hdone c ys _ (by omega) hys (hI c ys W2 _ (by omega) hi (hP.mono fun g h => .inr (.inr h))) ((hP.block _ (lt_of_block hk) (by omega)).trans hk)⟩
end Go.Proofs.Ytecfobmmbdmdgaa
