/-
  bank.Notes, by contract.
-/
import Derived.Test.YtecfobmmbdmdgaaBkRange
namespace Go.Proofs.Ytecfobmmbdmdgaa
open Go.RowKit

attribute [local go_sem] Oper.semAt_some

theorem far_of {w : World} {v : Value} {xs : List (BitVec 8)} (h : Byts w v xs) : ∀ a k c, v = .slice (some a) k c → k = 0 ∨ a.block < w.heap.size := by
  intro a k c hv
  rcases h with ⟨h2, h | ⟨a', c', h⟩⟩ | ⟨g, o, cap, hv', hc, h⟩
  · rw [h] at hv; cases hv
  · rw [h] at hv; cases hv; exact .inl rfl
  · rw [hv'] at hv
    cases hv
    by_cases h0 : xs.length = 0
    · exact .inl h0
    · exact .inr (lt_of_cell (h 0 _ (List.getElem?_eq_getElem (by omega))))

theorem two_new_ (w : World) (c d : Value) (T U : TypeId) : Blk ((w.alloc (.cells #[c] T)).alloc (.cells #[d] U)) w.heap.size #[c] T ∧ Blk ((w.alloc (.cells #[c] T)).alloc (.cells #[d] U)) (w.heap.size + 1) #[d] U := by
  refine ⟨(blk_new w _ T).below (below_alloc (Below.refl _ _) _), ?_⟩
  have := blk_new (w.alloc (.cells #[c] T)) #[d] U
  simpa using this

/-- Between two rounds of Notes: the list so far, in a box at b; D: the blocks that the statement laid, D and the next one. -/
def NotesI (w : World) (b D c : Nat) (pre : List NV) (W : World) : Prop :=
  (∃ r, Blk W b #[r] 29 ∧ OwnN W (c + 1) r pre) ∧ Dat W D pre ∧ (∀ y ∈ pre, y.g ≠ c ∧ y.g ≠ D ∧ y.g ≠ D + 1) ∧ Below w.heap.size w W
theorem NotesI.keep {w W1 W2 : World} {b D c : Nat} {pre : List NV} (h : NotesI w b D c pre W1) (hb : b < D) (hw : w.heap.size ≤ D) (hc : D + 2 ≤ c) (hk : Keep (fun k => k = c ∨ k = D ∨ k = D + 1) W1 W2) : NotesI w b D c pre W2 := by
  obtain ⟨⟨r, h1, h2⟩, h3, h4, h5⟩ := h
  exact ⟨⟨r, h1.keep hk (by omega), h2.keepB hk (fun g hg => by omega)⟩, h3.keep hk (fun y hy => by have := h4 y hy; omega), h4, below_keep h5 hk (fun g hg => by omega)⟩
/-- One round: the note is appended, the list stored. -/
theorem NotesI.round {w W W1 : World} {b D c : Nat} {pre : List NV} {x : NV} {r v' : Value} {o : Obj} (h2 : OwnN W (c + 1) r pre) (h3 : Dat W D pre) (h4 : ∀ y ∈ pre, y.g ≠ c ∧ y.g ≠ D ∧ y.g ≠ D + 1) (h5 : Below w.heap.size w W)
    (hbk : Blk W b #[r] 29) (hb : b < D) (hw : w.heap.size ≤ b) (hc : D + 2 ≤ c) (_ : c < W.heap.size) (hx : Own W D x.v x.d) (hxc : x.g ≠ c) (hx0 : x.g ≠ D) (hx1 : x.g ≠ D + 1) (hxg : ∀ y ∈ pre, y.g < x.g)
    (hown : OwnN W1 (c + 1) v' (pre ++ [x])) (hgr : (W.alloc o).grownBy W1 r.ownBlock) (bb : Nat) (hbb : bb = b + 1) (hbD : b + 1 < D) :
    Blk W1 b #[r] 29 ∧ Keep (fun k => Mayn w.heap.size bb c k ∧ k ≠ D ∧ k ≠ D + 1) W (W1.setCell ⟨b, 0, none⟩ v') ∧ NotesI w b D c (pre ++ [x]) (W1.setCell ⟨b, 0, none⟩ v') := by
  have hrow : ∀ g, r.ownBlock = some g → c + 1 ≤ g := fun g hg => (World.ownsRow.lt h2 g hg).1
  have hka : Keep (fun k => r.ownBlock = some k) W (W.alloc o) := Keep.of_below (below_alloc (Below.refl _ W) o)
  have hk1 : Keep (fun k => r.ownBlock = some k) W W1 := hka.trans (Keep.grown hgr fun g hg => hg) fun g hg => .inl hg
  have hblk1 : Blk W1 b #[r] 29 := hbk.keep hk1 fun h => by have := hrow b h; omega
  have hs : Keep (fun k => k = b) W1 (W1.setCell ⟨b, 0, none⟩ v') := Keep.set_ (F := fun k => k = b) W1 b 0 v' rfl
  have hd1 : Dat W1 D pre := h3.keep hk1 fun y hy hg => h3.ne h2 hy _ hg rfl
  have hxd : Own W1 D x.v x.d := hx.keepB hk1 fun g hg hr => by
    simp only [NV.v, Value.ownBlock, Option.some.injEq] at hg
    have hd : Dat W D [x] := ⟨fun y hy => by simp at hy; subst hy; exact hx, by simp⟩
    obtain ⟨C, hC, _⟩ := NV.own_block hx
    rcases h2.2 with ⟨rfl, _⟩ | ⟨g', cap, cur, rfl, _, hgb, _⟩
    · cases hr
    · simp [Value.ownBlock] at hr
      rw [hr, ← hg, hC] at hgb
      simp at hgb
  have hall : Dat W1 D (pre ++ [x]) := hd1.snoc hxd hxg
  have hge : ∀ y ∈ pre ++ [x], D ≤ y.g := fun y hy => (NV.own_block (hall.1 y hy)).choose_spec.2
  have hk2 : Keep (fun k => r.ownBlock = some k ∨ k = b) W (W1.setCell ⟨b, 0, none⟩ v') := (hk1.mono (G := fun k => r.ownBlock = some k ∨ k = b) fun g hg => .inl hg).trans hs fun g hg => .inl (.inr hg)
  refine ⟨hblk1, hk2.mono ?_, ⟨v', hblk1.set_ 0 v', hown.keepB hs fun g hg => by omega⟩, hall.keep hs fun y hy hg => by have := hge y hy; omega, ?_, ?_⟩
  · rintro g (hg | hg)
    · have := hrow g hg
      exact ⟨fun h => by omega, by omega, by omega⟩
    · subst hg
      exact ⟨fun h => by omega, by omega, by omega⟩
  · intro y hy
    rcases List.mem_append.1 hy with h | h
    · exact h4 y h
    · simp at h
      subst h
      exact ⟨hxc, hx0, hx1⟩
  · refine below_keep h5 hk2 ?_
    rintro g (hg | hg)
    · have := hrow g hg
      omega
    · omega

set_option maxRecDepth 100000 in
set_option maxHeartbeats 4000000 in
theorem notes_in (F : Fence) (n : Nat) (hF : ∀ k, F.fn k) (hro : F.round = none) (hn : 3 ≤ n) (hC : ∀ (m f : Nat) (args : Array Value) (w : World) (R : Ending → World → Prop), Calls Try.prog f args w R → CallsIn F m Try.prog f args w R)
    (v : Value) (xs : List (BitVec 8)) (w : World) (hv : Byts w v xs) (hl : xs.length ≤ 100000) :
    CallsIn F n Try.prog 14 #[v] w fun e w' => ∃ r ys, e = .returned r ∧ ys.map NV.nt = bnotes xs ∧ OwnN w' w.heap.size r ys ∧ Dat w' w.heap.size ys ∧ Below w.heap.size w w' := by
  have h1 : 1 ≤ n := by omega
  have hfar := far_of hv
  obtain ⟨av, cv, ev⟩ := hv.len
  subst ev
  refine callsIn_of_wp_marks Try.func14 rfl (hF _) ?_ hro
  simp only [Try.ntmps14, List.size_toArray, List.length_cons, List.length_nil, Nat.reduceAdd, Nat.reduceSub, Array.replicate_succ, Array.replicate_zero, List.push_toArray, List.append_toArray, List.nil_append, List.cons_append]
  gi_wp2_with (gi_at_call 24; (with_reducible refine (hC _ _ _ _ _ (row_any _ _ _ _)).mono ?_); rintro e w1 ⟨rfl, rfl⟩)
  have hW := two_new_ w (.slice none 0 0) (.slice av xs.length cv) 29 23
  have hB := bel_two w (.cells #[.slice none 0 0] 29) (.cells #[.slice av xs.length cv] 23)
  have hsz : ((w.alloc (.cells #[.slice none 0 0] 29)).alloc (.cells #[.slice av xs.length cv] 23)).heap.size = w.heap.size + 2 := by simp
  generalize (w.alloc (.cells #[.slice none 0 0] 29)).alloc (.cells #[.slice av xs.length cv] 23) = W0 at *
  have HSZ := Lib.hid hsz
  clear hsz
  refine range_row F n hF hro (by omega) hC (w.heap.size + 1) w.heap.size (.slice av xs.length cv) xs hl hfar (hv.below hB) (hW.2.cell 0 rfl) (by have := HSZ.out; omega) rfl
    (fun c pre W => NotesI w w.heap.size W0.heap.size c pre W) ?start ?keep
    (fun x nb => { tmps := #[.slice av xs.length cv, undef, .slice none 0 0, .pointer (some ⟨w.heap.size, 0, none⟩), .pointer (some ⟨nb, 0, none⟩), .slice av xs.length cv, .func (.func 29) #[] #[.pointer (some ⟨w.heap.size + 1, 0, none⟩)], .agg #[.int .u32 (x.s : Int), .slice (some ⟨x.g, 0, none⟩) x.d.length x.c, .int .i64 (x.e : Int)], undef, undef, undef, undef, undef], defers := [] })
    ?assign ?body ?done
  case start =>
    intro c W hb hc
    exact ⟨⟨_, (hW.1.below hb), ownN_nil _ _⟩, Dat.nil _ _, by simp, hB.trans (hb.mono (by have := HSZ.out; omega))⟩
  case keep =>
    intro c pre W1 W2 hc hi hk
    exact hi.keep (by have := HSZ.out; omega) (by have := HSZ.out; omega) hc hk
  case assign =>
    intro l x W K hK
    gi_wp2
    exact hK
  case body =>
    rintro l c pre x nb W hc hcW ⟨⟨r, hbk, hrow⟩, h3, h4, h5⟩ ho hxc hx0 hx1 hxg hlen hnb
    obtain ⟨ra, rc, rfl⟩ := hrow.len
    have c0 := hbk.cell 0 rfl
    obtain ⟨d0, d1, d2⟩ := hnb.three
    have HA := Lib.hid (blk_new W #[.int .u32 (x.s : Int), x.v, .int .i64 (x.e : Int)] 33)
    have HR := Lib.hid (hrow.below (below_alloc (Below.refl _ W) (.cells #[.int .u32 (x.s : Int), x.v, .int .i64 (x.e : Int)] 33)))
    have HL := Lib.hid (show pre.length ≤ 1000000 by omega)
    have HC := Lib.hid (le_alloc (show c + 1 ≤ W.heap.size by omega) (.cells #[.int .u32 (x.s : Int), x.v, .int .i64 (x.e : Int)] 33))
    have HN : Hid (∀ (v' : Value) (W1 : World), OwnN W1 (c + 1) v' (pre ++ [x]) → (W.alloc (.cells #[.int .u32 (x.s : Int), x.v, .int .i64 (x.e : Int)] 33)).grownBy W1 (Value.slice ra pre.length rc).ownBlock →
        Blk W1 w.heap.size #[.slice ra pre.length rc] 29 ∧ Keep (fun k => Mayn w.heap.size (w.heap.size + 1) c k ∧ k ≠ W0.heap.size ∧ k ≠ W0.heap.size + 1) W (W1.setCell ⟨w.heap.size, 0, none⟩ v') ∧ NotesI w w.heap.size W0.heap.size c (pre ++ [x]) (W1.setCell ⟨w.heap.size, 0, none⟩ v')) := Lib.hid (fun v' W1 hown hgr =>
      NotesI.round hrow h3 h4 h5 hbk (by have := HSZ.out; omega) (Nat.le_refl _) hc hcW ho hxc hx0 hx1 hxg hown hgr _ rfl (by have := HSZ.out; omega))
    clear hrow h3 h4 h5 ho hxg hnb hbk hlen
    gi_wp2_with (gi_at_builtin; refine wpListIn_appN rfl _ _ rfl (c + 1) _ pre rfl HR.out W.heap.size rfl x HA.out HL.out HC.out ?_; intro v' W1 hown hgr; obtain ⟨va, vc, ev⟩ := hown.len; have HZ := Lib.hid (HN.out v' W1 hown hgr); subst ev; have e0 := HZ.out.1.cell 0 rfl; have f0 := HZ.out.1.frz 0; clear hown hgr HR HA HL HC HN c0 d0 d1 d2)
    have hz := HZ.out.2
    simp only [List.length_append, List.length_cons, List.length_nil, Nat.zero_add] at hz
    exact hz
  case done =>
    rintro c ys W hc hys ⟨⟨r, hbk, hrow⟩, h3, h4, h5⟩ hD
    have c0 := hbk.cell 0 rfl
    have HK := Lib.hid (keep_putObj W W0.heap.size (.deferred none))
    have HE : Hid (∃ r' ys, Ending.returned r = .returned r' ∧ ys.map NV.nt = bnotes xs ∧ OwnN (W.putObj W0.heap.size (.deferred none)) w.heap.size r' ys ∧ Dat (W.putObj W0.heap.size (.deferred none)) w.heap.size ys ∧ Below w.heap.size w (W.putObj W0.heap.size (.deferred none))) :=
      Lib.hid ⟨r, ys, rfl, hys, (hrow.keepB HK.out fun g hg => by have := HSZ.out; omega).mono (by have := HSZ.out; omega), ⟨fun y hy => ((h3.keep HK.out fun y hy hg => (h4 y hy).2.1 hg).1 y hy).mono (by have := HSZ.out; omega), h3.2⟩, below_keep h5 HK.out fun g hg => by have := HSZ.out; omega⟩
    clear hrow h3 h4 h5 hbk hys
    gi_wp2
    refine ⟨by simp, .inl ⟨_, _, rfl, run_takeDeferred hD, ⟨_, results_tmp rfl _ _ _, ?_⟩⟩⟩
    exact HE.out

theorem notes_any (v : Value) (xs : List (BitVec 8)) (w : World) (hv : Byts w v xs) (hl : xs.length ≤ 100000) :
    Calls Try.prog 14 #[v] w fun e w' => ∃ r ys, e = .returned r ∧ ys.map NV.nt = bnotes xs ∧ OwnN w' w.heap.size r ys ∧ Dat w' w.heap.size ys ∧ Below w.heap.size w w' :=
  (callsIn_wide (n := 3)).1 (notes_in Fence.wide 3 (fun _ => trivial) rfl (Nat.le_refl _) (fun _ _ _ _ _ h => callsIn_wide.2 h) v xs w hv hl)
end Go.Proofs.Ytecfobmmbdmdgaa
