/-
  StMem StCalls StRw ErrC StRep StNew: merged.
-/
import Derived.Laws.CopyOwn
import Derived.Deep.RegionLaw
import Derived.Lib.Hide
import Derived.LaidEql
import Derived.Stop.Asserts
import Derived.RowKitTokens
import Derived.StillTailTactics
import Derived.Lib.MakeNoZero
import Derived.Laws.Externs
import Derived.Laws.Bits64b
import Derived.Test.YtekackglcapppaaGreatDoorBlk
import Derived.Test.YtekackglcapppaaGreatDoorBytes
import Derived.Test.YtekackglcapppaaGreatDoorErrs
import Derived.Test.YtekackglcapppaaGreatDoorYByt
/-
  A store in memory: its four cells, and its bytes in a block of their own. Bytes laid over bytes by copy.
-/
namespace Go.Proofs.YtekackglcapppaaGreatDoor
open Go.RowKit

theorem Keep.setRow {F : Nat → Prop} (w : World) (g : Nat) (cs : Array Value) (hg : F g) : Keep F w (w.setRow g cs) :=
  ⟨rfl, rfl, rfl, by simp [World.setRow], fun k _ hn => setRow_other w g k cs (fun e => hn (e ▸ hg))⟩

/-- The block g begins with the bytes xs. -/
def Room (w : World) (g : Nat) (xs : List (BitVec 8)) : Prop := ∃ (tail : List Value) (T : TypeId), w.heap[g]? = some (.cells (xs.map cel ++ tail).toArray T (0, 0))
theorem Room.lt {w : World} {g : Nat} {xs : List (BitVec 8)} (h : Room w g xs) : g < w.heap.size := by obtain ⟨_, _, h⟩ := h; exact lt_of_block h
theorem Room.keep {w w' : World} {g : Nat} {xs : List (BitVec 8)} (h : Room w g xs) {G : Nat → Prop} (hk : Keep G w w') (hg : ¬ G g) : Room w' g xs := by
  have hl := h.lt
  obtain ⟨tail, T, h⟩ := h
  exact ⟨tail, T, (hk.block g hl hg).trans h⟩
theorem Room.cell {w : World} {g : Nat} {xs : List (BitVec 8)} (h : Room w g xs) (j : Nat) (x : BitVec 8) (hx : xs[j]? = some x) : w.cell? ⟨g, j, none⟩ = some (cel x) := by
  obtain ⟨tail, T, h⟩ := h
  have hj : j < xs.length := by
    rcases Nat.lt_or_ge j xs.length with h1 | h1
    · exact h1
    · rw [List.getElem?_eq_none h1] at hx; cases hx
  rw [cell_of_row _ _ _ _ _ _ h, ← Array.getElem?_toList, List.toList_toArray, List.getElem?_append_left (by simpa using hj), List.getElem?_map, hx]
  rfl
theorem Room.byts {w : World} {g : Nat} {xs : List (BitVec 8)} (h : Room w g xs) : Byts w (.slice (some ⟨g, 0, none⟩) xs.length xs.length) xs :=
  .inr ⟨g, 0, xs.length, rfl, Nat.le_refl _, fun j x hx => by rw [Nat.zero_add]; exact h.cell j x hx⟩

theorem map_splice {α β : Type} (f : α → β) (L : List α) (off : Nat) (cs : List α) : (splice L off cs).map f = splice (L.map f) off (cs.map f) := by
  simp [splice, List.map_take, List.map_drop]
theorem splice_front {α : Type} (L R : List α) (off : Nat) (cs : List α) (h : off + cs.length ≤ L.length) : splice (L ++ R) off cs = splice L off cs ++ R := by
  unfold splice
  rw [List.take_append_of_le_length (by omega), List.drop_append_of_le_length (by omega)]
  simp
theorem splice_none {α : Type} (L : List α) (off : Nat) : splice L off [] = L := by simp [splice]
theorem splice_whole {α : Type} (L cs : List α) (h : cs.length = L.length) : splice L 0 cs = cs := by
  unfold splice
  rw [List.drop_eq_nil_of_le (by omega)]
  simp
theorem splice_part {α : Type} (L : List α) (off : Nat) (cs : List α) (h : off + cs.length ≤ L.length) : ((splice L off cs).drop off).take cs.length = cs := by
  unfold splice
  have e : (L.take off).length = off := by simp; omega
  rw [List.drop_append, e, Nat.sub_self, List.drop_zero, List.drop_eq_nil_of_le (by omega), List.nil_append]
  simp
/-- One more byte of those that are laid. -/
theorem splice_set {α : Type} (L : List α) (off : Nat) (ys : List α) (k : Nat) (x : α) (hx : ys[k]? = some x) (h : off + ys.length ≤ L.length) : (splice L off (ys.take k)).set (off + k) x = splice L off (ys.take (k + 1)) := by
  have hk : k < ys.length := by
    rcases Nat.lt_or_ge k ys.length with h1 | h1
    · exact h1
    · rw [List.getElem?_eq_none h1] at hx; cases hx
  apply List.ext_getElem?
  intro j
  have e : (L.take off).length = off := by simp; omega
  have l1 : (ys.take k).length = k := by simp; omega
  have l2 : (ys.take (k + 1)).length = k + 1 := by simp; omega
  rw [List.getElem?_set]
  unfold splice
  rw [l1, l2]
  simp only [List.getElem?_append, e, l1, l2, List.length_append, List.length_drop, List.getElem?_drop, List.getElem?_take]
  rcases Nat.lt_or_ge j off with h1 | h1
  · simp [h1]; omega
  · have q0 : ¬ j < off := by omega
    rcases Nat.lt_trichotomy (off + k) j with h2 | h2 | h2
    · have q1 : ¬ off + k = j := by omega
      have q2 : ¬ j - off < k := by omega
      have q3 : ¬ j - off < k + 1 := by omega
      simp only [if_neg q0, if_neg q1, if_neg q2, if_neg q3]
      congr 1
      omega
    · subst h2
      have q2 : off + k < off + k + (L.length - (off + k)) := by omega
      have q3 : off + k - off = k := by omega
      simp only [if_neg q0, q3, Nat.lt_succ_self, if_true, hx]
      rw [if_pos]
      omega
    · have q1 : ¬ off + k = j := by omega
      have q2 : j - off < k := by omega
      have q3 : j - off < k + 1 := by omega
      simp only [if_neg q0, if_neg q1, if_pos q2, if_pos q3]

theorem run_copy_room (w : World) (dp sp : Option Addr) (dLen dCap sLen sCap : Nat) (g off : Nat) (xs : List (BitVec 8)) (hg : Room w g xs) (cs : List (BitVec 8)) (hn : cs.length = Nat.min sLen dLen)
    (hpos : 0 < cs.length → dp = some ⟨g, off, none⟩ ∧ ∃ ad, sp = some ad ∧ ∀ (j : Nat) x, cs[j]? = some x → w.cell? (ad.add j) = some (cel x)) (hfit : off + cs.length ≤ xs.length) :
    ∃ w', (∀ T, (Builtin.copy_ #[22, 22] T #[.slice dp dLen dCap, .slice sp sLen sCap]).run Tryz.prog w = .ok (.int .i64 (cs.length : Int)) w') ∧ Room w' g (splice xs off cs) ∧ Keep (fun k => k = g) w w' := by
  have hsz : (Tryz.prog.info? 5).map (·.size) = some 1 := by kernel_rfl
  by_cases h0 : cs.length = 0
  · obtain rfl : cs = [] := List.eq_nil_of_length_eq_zero h0
    refine ⟨w, fun T => ?_, ?_, Keep.refl _ w⟩
    · have := run_copy_none (P := Tryz.prog) w 22 22 T 5 dp sp dLen dCap sLen sCap Tryz.underlying22 hsz (by simpa using hn.symm)
      simpa [goInt] using this
    · rw [splice_none]; exact hg
  · obtain ⟨rfl, ad, rfl, hsrc⟩ := hpos (by omega)
    obtain ⟨tail, TT, hg⟩ := hg
    have hrun := fun T => run_copy_row (P := Tryz.prog) w 22 22 T 5 g off dLen dCap ad sLen sCap _ TT (cs.map cel) Tryz.underlying22 hsz hg (by simpa using hn) (fun j v hv => by
      rw [List.getElem?_map] at hv
      cases hy : cs[j]? with
      | none => rw [hy] at hv; cases hv
      | some y => rw [hy] at hv; cases hv; exact hsrc j y hy) (by simp; omega) (cel_one cs)
    refine ⟨_, fun T => by simpa [goInt] using hrun T, ⟨tail, TT, ?_⟩, Keep.setRow w g _ rfl⟩
    rw [setRow_heap w g _ _ TT _ hg, map_splice, ← splice_front _ _ _ _ (by simp; omega)]
    simp [splice]

/-- A copy, as one step of a region that draws its order. -/
theorem step_copy {ops : Array Oper} {o : Oper} {a : Act} {K : Act → World → Prop} {Q : Exit → Act → World → Prop} {E : Prop} (hgd : o.guard = none) (d s : Operand)
    (ho : o.op = .call { callee := .builtin .copy, args := #[d, s], argTypes := #[22, 22] })
    {v u v' : Value} {w w' : World} (hd : a.eval d = v) (hs : a.eval s = u) (hrun : ∀ T, (Builtin.copy_ #[22, 22] T #[v, u]).run Tryz.prog w = .ok v' w') (h : K (a.put o.dst v') w') :
    if Region.wanted o (yielded ops a.tmps) = true then Oper.wp Tryz.prog o a w K Q else E := by
  have hw : Region.wanted o (yielded ops a.tmps) = true := by simp [Region.wanted, hgd]
  rw [if_pos hw]
  unfold Oper.wp
  simp [execOp, ho, resolve, invoke, builtin, hd, hs, hrun, Result.andThen]
  exact h

theorem wpList_copy {ops : Array Oper} {rest : List Oper} {dst : Option Tmp} {ty : TypeId} {pos : String} {aft} {d s : Operand} {a : Act} {Q : Exit → Act → World → Prop} {v u v' : Value} {w w' : World} (hd : a.eval d = v) (hs : a.eval s = u)
    (hrun : ∀ T, (Builtin.copy_ #[22, 22] T #[v, u]).run Tryz.prog w = .ok v' w') (h : wpList Tryz.prog ops Q rest (a.put dst v') w') :
    wpList Tryz.prog ops Q (⟨dst, .call { callee := .builtin .copy, args := #[d, s], argTypes := #[22, 22] }, ty, pos, aft, none⟩ :: rest) a w := by
  refine wpList_plain rfl fun K hK => ?_
  unfold Oper.wp
  simp [execOp, resolve, invoke, builtin, hd, hs, hrun, Result.andThen]
  exact hK _ _ h

/-- What a slice of bytes bears to a copy. -/
theorem Byts.src {w : World} {v : Value} {xs : List (BitVec 8)} (h : Byts w v xs) : ∃ sp c, v = .slice sp xs.length c ∧ (0 < xs.length → ∃ ad, sp = some ad ∧ ∀ (j : Nat) x, xs[j]? = some x → w.cell? (ad.add j) = some (cel x)) := by
  rcases h with ⟨rfl, rfl | ⟨a, c, rfl⟩⟩ | ⟨g, o, cap, rfl, hc, h⟩
  · exact ⟨none, 0, rfl, fun h => by simp at h⟩
  · exact ⟨some a, c, rfl, fun h => by simp at h⟩
  · exact ⟨_, cap, rfl, fun _ => ⟨_, rfl, fun j x hx => by rw [plain_add]; exact h j x hx⟩⟩

/-- A store: its bytes xs in the block B; is it dead, is it to die, and behind how many bytes. -/
structure Sto (w : World) (s B : Nat) (xs : List (BitVec 8)) (dead doomed : Bool) (left : Nat) : Prop where
  blk : Blk w s #[.slice (some ⟨B, 0, none⟩) xs.length xs.length, .bool dead, .bool doomed, .int .i64 (left : Int)] 78
  row : Room w B xs
  ne : s ≠ B
  len : xs.length ≤ 65536
  most : left ≤ 9223372036854775807
theorem Sto.keep {w w' : World} {s B : Nat} {xs : List (BitVec 8)} {dead doomed : Bool} {left : Nat} (h : Sto w s B xs dead doomed left) {G : Nat → Prop} (hk : Keep G w w') (h1 : ¬ G s) (h2 : ¬ G B) : Sto w' s B xs dead doomed left :=
  ⟨h.blk.keep hk h1, h.row.keep hk h2, h.ne, h.len, h.most⟩
theorem Sto.below {w w' : World} {s B : Nat} {xs : List (BitVec 8)} {dead doomed : Bool} {left : Nat} (h : Sto w s B xs dead doomed left) (hb : Below w.heap.size w w') : Sto w' s B xs dead doomed left :=
  h.keep (Keep.of_below (F := fun _ => False) hb) id id
end Go.Proofs.YtekackglcapppaaGreatDoor
/-
  What a store's calls do: holds, spend, Write, Kill, Dead, Revive, Size, Read.
-/
namespace Go.Proofs.YtekackglcapppaaGreatDoor
open Go.RowKit

variable {w : World} {s B : Nat} {xs : List (BitVec 8)} {dead doomed : Bool} {left : Nat}
/-- What of a store changes: its own two blocks. -/
def own2 (s B : Nat) : Nat → Prop := fun k => k = s ∨ k = B

theorem size_to (h : Sto w s B xs dead doomed left) (n : Nat) (hn : n = xs.length) :
    Calls Tryz.prog 41 #[.pointer (some ⟨s, 0, none⟩)] w fun e w' => e = .returned (.int .i64 (n : Int)) ∧ w = w' := by
  have c0 := h.blk.cell 0 (u := .slice (some ⟨B, 0, none⟩) n n) (by rw [hn]; rfl)
  clear h hn
  go_enter Tryz.func41, Tryz.ntmps41
  go_wp2_with fail
  go_ret
  exact ⟨rfl, rfl⟩
theorem revive_to (h : Sto w s B xs dead doomed left) :
    Calls Tryz.prog 14 #[.pointer (some ⟨s, 0, none⟩)] w fun e w' => e = .returned (.tuple #[]) ∧ Sto w' s B xs false false left ∧ Keep (own2 s B) w w' := by
  have c1 := h.blk.cell 1 (u := .bool dead) rfl
  have c2 := h.blk.cell 2 (u := .bool doomed) rfl
  have f1 := h.blk.frz 1
  have f2 := h.blk.frz 2
  have H := Lib.hid h
  clear h
  go_enter Tryz.func14, Tryz.ntmps14
  go_wp2_with fail
  go_end0
  have k1 : Keep (own2 s B) w ((w.setCell ⟨s, 1, none⟩ (.bool false)).setCell ⟨s, 2, none⟩ (.bool false)) := ((Keep.refl _ w).store s 1 _ (.inl rfl)).store s 2 _ (.inl rfl)
  have k2 : Keep (fun k => k = s) w ((w.setCell ⟨s, 1, none⟩ (.bool false)).setCell ⟨s, 2, none⟩ (.bool false)) := ((Keep.refl (fun k => k = s) w).store s 1 _ rfl).store s 2 _ rfl
  exact ⟨rfl, ⟨(H.out.blk.set_ 1 _).set_ 2 _, H.out.row.keep k2 (fun e => H.out.ne e.symm), H.out.ne, H.out.len, H.out.most⟩, k1⟩
theorem kill_to (h : Sto w s B xs dead doomed left) (n : Int) (k : Nat) (hk : (k : Int) = max n 0) (hn : n ≤ 9223372036854775807) :
    Calls Tryz.prog 12 #[.pointer (some ⟨s, 0, none⟩), .int .i64 n] w fun e w' => e = .returned (.tuple #[]) ∧ Sto w' s B xs dead true k ∧ Keep (own2 s B) w w' := by
  have c2 := h.blk.cell 2 (u := .bool doomed) rfl
  have c3 := h.blk.cell 3 (u := .int .i64 (left : Int)) rfl
  have f2 := h.blk.frz 2
  have f3 := h.blk.frz 3
  have H := Lib.hid h
  have HN := Lib.hid (show k ≤ 9223372036854775807 by omega)
  have m1 : ∀ (ts : Array TypeId) (t : TypeId) (w : World), (Builtin.max_ ts t #[.int .i64 n, .int .i64 0]).run Tryz.prog w = .ok (.int .i64 (k : Int)) w := fun ts t w => by
    rw [run_max_int2, show (if n < (0 : Int) then (0 : Int) else n) = (k : Int) by split <;> omega]
  clear h hn hk
  go_enter Tryz.func12, Tryz.ntmps12
  go_wp2_with fail
  go_end0
  have k1 : Keep (own2 s B) w ((w.setCell ⟨s, 2, none⟩ (.bool true)).setCell ⟨s, 3, none⟩ (.int .i64 (k : Int))) := ((Keep.refl _ w).store s 2 _ (.inl rfl)).store s 3 _ (.inl rfl)
  have k2 : Keep (fun k => k = s) w ((w.setCell ⟨s, 2, none⟩ (.bool true)).setCell ⟨s, 3, none⟩ (.int .i64 (k : Int))) := ((Keep.refl (fun k => k = s) w).store s 2 _ rfl).store s 3 _ rfl
  exact ⟨rfl, ⟨(H.out.blk.set_ 2 _).set_ 3 _, H.out.row.keep k2 (fun e => H.out.ne e.symm), H.out.ne, H.out.len, HN.out⟩, k1⟩
/-- Do n bytes from at on stand in it? -/
theorem holds_to (h : Sto w s B xs dead doomed left) (at_ n : Int) (hn : -140737488355328 ≤ n) (hn2 : n ≤ 9223372036854775807) (r : Bool) (hr : r = decide (0 ≤ at_ ∧ at_ ≤ (xs.length : Int) - n)) :
    Calls Tryz.prog 36 #[.pointer (some ⟨s, 0, none⟩), .int .i64 at_, .int .i64 n] w fun e w' => e = .returned (.bool r) ∧ w = w' := by
  have hl := h.len
  obtain ⟨m, hm⟩ : ∃ m, m = xs.length := ⟨_, rfl⟩
  rw [← hm] at hr hl
  have c0 := h.blk.cell 0 (u := .slice (some ⟨B, 0, none⟩) m m) (by rw [hm]; rfl)
  have e1 : IntKind.i64.wrap ((m : Int) - n) = (m : Int) - n := by rw [IntKind.wrap_i64]; omega
  clear h hm hn hn2
  by_cases h0 : 0 ≤ at_
  · have g0 : decide (0 ≤ at_) = true := decide_eq_true h0
    have hr2 : r = decide (at_ ≤ (m : Int) - n) := by rw [hr]; simp [h0]
    have HR := Lib.hid hr2
    clear hr hr2 hl
    go_enter Tryz.func36, Tryz.ntmps36
    go_wp2_with fail
    go_ret
    exact ⟨by rw [HR.out]; rfl, rfl⟩
  · have g0 : decide (0 ≤ at_) = false := decide_eq_false h0
    have hr2 : r = false := by rw [hr]; simp [h0]
    subst hr2
    clear hr hl
    go_enter Tryz.func36, Tryz.ntmps36
    go_wp2_with fail
    go_ret
    exact ⟨rfl, rfl⟩
theorem spend_to (h : Sto w s B xs dead doomed left) (n k left' : Nat) (hn : n ≤ 140737488355328) (hk : (doomed = false ∧ k = n ∧ left' = left) ∨ (doomed = true ∧ k = min n left ∧ left' = left - k)) :
    Calls Tryz.prog 39 #[.pointer (some ⟨s, 0, none⟩), .int .i64 (n : Int)] w fun e w' => e = .returned (.int .i64 (k : Int)) ∧ Sto w' s B xs dead doomed left' ∧ Keep (fun k => k = s) w w' := by
  have c2 := h.blk.cell 2 (u := .bool doomed) rfl
  have H := Lib.hid h
  rcases hk with ⟨rfl, rfl, rfl⟩ | ⟨rfl, hk, hl⟩
  · clear h
    go_enter Tryz.func39, Tryz.ntmps39
    go_wp2_with fail
    go_ret
    exact ⟨rfl, H.out, Keep.refl _ w⟩
  · have c3 := h.blk.cell 3 (u := .int .i64 (left : Int)) rfl
    have f3 := h.blk.frz 3
    have hm := h.most
    have m1 : ∀ (ts : Array TypeId) (t : TypeId) (w : World), (Builtin.min_ ts t #[.int .i64 (n : Int), .int .i64 (left : Int)]).run Tryz.prog w = .ok (.int .i64 (k : Int)) w := fun ts t w => by
      rw [run_min_int2, show (if (left : Int) < (n : Int) then (left : Int) else (n : Int)) = (k : Int) by split <;> omega]
    have e1 : IntKind.i64.wrap ((left : Int) - (k : Int)) = (left' : Int) := by rw [IntKind.wrap_i64]; omega
    have HL := Lib.hid (show left' ≤ 9223372036854775807 by omega)
    clear h hm hn hk hl
    go_enter Tryz.func39, Tryz.ntmps39
    go_wp2_with fail
    go_ret
    have k2 : Keep (fun k => k = s) w (w.setCell ⟨s, 3, none⟩ (.int .i64 (left' : Int))) := (Keep.refl (fun k => k = s) w).store s 3 _ rfl
    exact ⟨rfl, ⟨H.out.blk.set_ 3 _, H.out.row.keep k2 (fun e => H.out.ne e.symm), H.out.ne, H.out.len, HL.out⟩, k2⟩
end Go.Proofs.YtekackglcapppaaGreatDoor
/-
  Write and Read of a store.
-/
namespace Go.Proofs.YtekackglcapppaaGreatDoor
open Go.RowKit

variable {w : World} {s B : Nat} {xs : List (BitVec 8)} {dead doomed : Bool} {left : Nat}
theorem Keep.own2 {w w' : World} {s B : Nat} (h : Keep (fun k => k = s) w w') : Keep (own2 s B) w w' := h.mono fun _ e => .inl e
theorem Keep.own2B {w w' : World} {s B : Nat} (h : Keep (fun k => k = B) w w') : Keep (Go.Proofs.YtekackglcapppaaGreatDoor.own2 s B) w w' := h.mono fun _ e => .inr e
/-- Bytes stand in no block of a store's cells. -/
theorem byts_sto {v : Value} {ys : List (BitVec 8)} (hv : Byts w v ys) (h : Sto w s B xs dead doomed left) {w' : World} (hk : Keep (fun k => k = s) w w') : Byts w' v ys := by
  refine hv.keep hk fun a n c e => ?_
  rcases hv with ⟨h0, h1⟩ | ⟨g, o, cap, hg, hc, hcell⟩
  · rcases h1 with h1 | ⟨a', c', h1⟩
    · rw [h1] at e; cases e
    · rw [h1] at e; cases e; exact .inl rfl
  · rw [hg] at e
    simp only [Value.slice.injEq, Option.some.injEq] at e
    obtain ⟨rfl, rfl, rfl⟩ := e
    cases ys with
    | nil => exact .inl rfl
    | cons y ys =>
      right
      rintro rfl
      have h1 := hcell 0 y rfl
      rw [cell_of_row _ _ _ _ _ _ h.blk] at h1
      rcases Nat.lt_or_ge (o + 0) 4 with h3 | h3
      · have : o = 0 ∨ o = 1 ∨ o = 2 ∨ o = 3 := by omega
        rcases this with rfl | rfl | rfl | rfl <;> simp [cel] at h1
      · rw [Array.getElem?_eq_none (by simpa using h3)] at h1
        cases h1
/-- The error v is of the code k (0: none), made at or behind lo; behind its one place lies the number. -/
def ErrAt (w : World) (lo : Nat) (v : Value) (k : Int) : Prop := (v = .nilIface ∧ k = 0) ∨ ∃ g, lo ≤ g ∧ k ≠ 0 ∧ v = .iface 66 (.pointer (some ⟨g, 0, none⟩)) ∧ (w.cell? ⟨g, 1, none⟩ = some (.int .i64 k) ∧ w.cell? ⟨g, 2, none⟩ = some (.iface 36 (.int .i64 k)))
theorem ErrAt.errV {lo : Nat} {v : Value} {k : Int} (h : ErrAt w lo v k) : ErrV w v k := by
  rcases h with h | ⟨g, _, h1, h2, h3⟩
  · exact .inl h
  · exact .inr ⟨g, h1, h2, h3.1⟩
theorem ErrAt.nil {lo : Nat} {v : Value} (h : ErrAt w lo v 0) : v = .nilIface := h.errV.nil
theorem ErrAt.keep {w' : World} {lo : Nat} {v : Value} {k : Int} (h : ErrAt w lo v k) {G : Nat → Prop} (hk : Keep G w w') (hG : ∀ g, G g → g < lo) : ErrAt w' lo v k := by
  rcases h with h | ⟨g, h0, h1, h2, h3⟩
  · exact .inl h
  · exact .inr ⟨g, h0, h1, h2, hk.cell h3.1 (fun e => by have := hG _ e; omega), hk.cell h3.2 (fun e => by have := hG _ e; omega)⟩
theorem ErrAt.below {w' : World} {lo : Nat} {v : Value} {k : Int} (h : ErrAt w lo v k) (hb : Below w.heap.size w w') : ErrAt w' lo v k := h.keep (Keep.of_below (F := fun _ => False) hb) (fun _ h => h.elim)
theorem write_dead (h : Sto w s B xs true doomed left) (at_ : Int) (v : Value) :
    Calls Tryz.prog 21 #[.pointer (some ⟨s, 0, none⟩), .int .i64 at_, v] w fun e w' => ∃ v, e = .returned v ∧ ErrAt w' w.heap.size v 7 ∧ Sto w' s B xs true doomed left ∧ Below w.heap.size w w' := by
  have c1 := h.blk.cell 1 (u := .bool true) rfl
  have H := Lib.hid h
  have HN := Lib.hid (new_form2 7 rfl)
  clear h
  go_enter Tryz.func21, Tryz.ntmps21
  go_wp2_with fail
  (with_reducible refine (HN.out _ _).mono ?_)
  rintro e w1 ⟨g, hgs, rfl, hg, hb⟩
  have HG := Lib.hid hg
  have HGS := Lib.hid hgs
  have HB := Lib.hid hb
  clear hg hb hgs
  go_wp2_with fail
  go_ret
  exact ⟨_, rfl, .inr ⟨g, HGS.out, by decide, rfl, HG.out⟩, H.out.below HB.out, HB.out⟩
theorem write_range (h : Sto w s B xs false doomed left) (at_ : Int) (v : Value) (ys : List (BitVec 8)) (hv : Byts w v ys) (hl : ys.length ≤ 140737488355328) (hr : ¬ (0 ≤ at_ ∧ at_ ≤ (xs.length : Int) - ys.length)) :
    Calls Tryz.prog 21 #[.pointer (some ⟨s, 0, none⟩), .int .i64 at_, v] w fun e w' => ∃ v, e = .returned v ∧ ErrAt w' w.heap.size v 6 ∧ Sto w' s B xs false doomed left ∧ Below w.heap.size w w' := by
  have c1 := h.blk.cell 1 (u := .bool false) rfl
  have H := Lib.hid h
  have HN := Lib.hid (new_form2 6 rfl)
  obtain ⟨a, c, rfl⟩ := hv.len
  have HH := Lib.hid (holds_to h at_ (ys.length : Int) (by omega) (by omega) false (by simp only [hr]; rfl))
  obtain ⟨n, hn⟩ : ∃ n, n = ys.length := ⟨_, rfl⟩
  rw [← hn] at HH
  rw [← hn]
  clear h hr hv hl hn
  go_enter Tryz.func21, Tryz.ntmps21
  go_wp2_with fail
  (with_reducible refine HH.out.mono ?_)
  rintro e w1 ⟨rfl, rfl⟩
  go_wp2_with fail
  (with_reducible refine (HN.out _ _).mono ?_)
  rintro e w1 ⟨g, hgs, rfl, hg, hb⟩
  have HG := Lib.hid hg
  have HGS := Lib.hid hgs
  have HB := Lib.hid hb
  clear hg hb hgs
  go_wp2_with fail
  go_ret
  exact ⟨_, rfl, .inr ⟨g, HGS.out, by decide, rfl, HG.out⟩, H.out.below HB.out, HB.out⟩
set_option maxRecDepth 100000 in
/-- A Write that stands in it: k bytes are written. -/
theorem write_to (h : Sto w s B xs false doomed left) (A : Int) (a : Nat) (hA : A = (a : Int)) (v : Value) (ys : List (BitVec 8)) (hv : Byts w v ys) (hr : a + ys.length ≤ xs.length) (k left' : Nat)
    (hk : (doomed = false ∧ k = ys.length ∧ left' = left) ∨ (doomed = true ∧ k = min ys.length left ∧ left' = left - k)) (dead' : Bool) (code : Int) (hd : (k = ys.length ∧ dead' = false ∧ code = 0) ∨ (k < ys.length ∧ dead' = true ∧ code = 7)) :
    Calls Tryz.prog 21 #[.pointer (some ⟨s, 0, none⟩), .int .i64 A, v] w fun e w' => ∃ v, e = .returned v ∧ ErrAt w' w.heap.size v code ∧ Sto w' s B (splice xs a (ys.take k)) dead' doomed left' ∧ Keep (own2 s B) w w' := by
  subst hA
  have hlen := h.len
  have c1 := h.blk.cell 1 (u := .bool false) rfl
  have H := Lib.hid h
  have HN := Lib.hid (new_form2 7 rfl)
  have HV := Lib.hid hv
  have hkl : k ≤ ys.length := by omega
  have HH := Lib.hid (holds_to h (a : Int) (ys.length : Int) (by omega) (by omega) true (by rw [decide_eq_true]; omega))
  have HS := Lib.hid (spend_to h ys.length k left' (by omega) hk)
  obtain ⟨v1, q2, hv1⟩ := cutL hv k hkl
  have HV1 := Lib.hid hv1
  have hlk : (ys.take k).length = k := by rw [List.length_take]; omega
  obtain ⟨sp, c', rfl, _⟩ := hv1.src
  rw [hlk] at HV1 q2
  obtain ⟨av, cv, ev⟩ := hv.len
  obtain ⟨n, hn⟩ : ∃ n, n = ys.length := ⟨_, rfl⟩
  obtain ⟨m, hm⟩ : ∃ m, m = xs.length := ⟨_, rfl⟩
  have HNn := Lib.hid hn
  have HM := Lib.hid hm
  rw [← hn] at HH HS ev
  rw [← hn] at hr hd hkl
  rw [← hm] at hr hlen
  subst ev
  clear h hv hv1 hk hn hm
  go_enter Tryz.func21, Tryz.ntmps21
  go_wp2_with fail
  (with_reducible refine HH.out.mono ?_)
  rintro e w1 ⟨rfl, rfl⟩
  go_wp2_with fail
  (with_reducible refine HS.out.mono ?_)
  rintro e w1 ⟨rfl, hs, hb⟩
  have HS1 := Lib.hid hs
  have HK1 := Lib.hid hb
  have c0 := hs.blk.cell 0 (u := .slice (some ⟨B, 0, none⟩) m m) (by rw [HM.out]; rfl)
  have HV2 := Lib.hid (byts_sto HV1.out H.out HK1.out)
  clear hs hb HH HS c1
  obtain ⟨o, d, HO, q1⟩ : ∃ o d, Hid (d = m - a ∧ (a < m → o = a)) ∧ ∀ w', (Instr.slice 22 (.slice (some ⟨B, 0, none⟩) m m) (some (.int .i64 (a : Int))) none none).run Tryz.prog w' = .ok (.slice (some ⟨B, o, none⟩) d d) w' := by
    have hu : Tryz.prog.underlying 22 = some (.slice (Tryz.prog.elem 22)) := by rw [elemB]; exact Tryz.underlying22
    by_cases e : m = a
    · refine ⟨0, 0, ⟨by omega, by omega⟩, fun w' => ?_⟩
      rw [run_slice_l _ _ _ _ _ hu _ _ (by omega) (by omega), elemB, sizeU8]
      simp [Result.andThen, sliced, e]
    · refine ⟨a, m - a, ⟨rfl, fun _ => rfl⟩, fun w' => ?_⟩
      rw [run_slice_l _ _ _ _ _ hu _ _ (by omega) (by omega), elemB, sizeU8]
      simp [Result.andThen, sliced, e, plain_add]
  obtain ⟨w2, hrun, hroom, hkeep⟩ : ∃ w', (∀ T, (Builtin.copy_ #[22, 22] T #[.slice (some ⟨B, o, none⟩) d d, .slice sp k c']).run Tryz.prog w1.drew = .ok (.int .i64 (k : Int)) w') ∧ Room w' B (splice xs a (ys.take k)) ∧ Keep (fun k => k = B) w1.drew w' := by
    obtain ⟨sp', c'', e', hsrc⟩ := (HV2.out.below (bel_drew w1)).src
    rw [hlk] at e' hsrc
    obtain ⟨w', h1, h2, h3⟩ := run_copy_room w1.drew (some ⟨B, o, none⟩) sp' d d k c'' B a xs (HS1.out.row.keep (Keep.of_below (F := fun _ => False) (bel_drew w1)) id) (ys.take k) (by
      rw [hlk]; have := HO.out; have e : Nat.min k d = min k d := rfl; omega) (fun h0 => by
      rw [hlk] at h0
      obtain ⟨ad, e1, e2⟩ := hsrc h0
      exact ⟨by rw [HO.out.2 (by omega)], ad, e1, e2⟩) (by rw [hlk, ← HM.out]; omega)
    rw [hlk] at h1
    exact ⟨w', by rw [e']; exact h1, h2, h3⟩
  have HR2 := Lib.hid hroom
  have HK2 := Lib.hid (Keep.trans (F := own2 s B) (HK1.out.own2.more 1) hkeep.own2B (fun _ h => .inl h))
  have HB2 := Lib.hid (HS1.out.blk.keep ((Keep.of_below (F := fun k => k = B) (bel_drew w1)).trans hkeep (fun _ h => .inl h)) (H.out.ne))
  clear hroom hkeep HV2 HV1 HV
  have HLK := Lib.hid hlk
  have HR := Lib.hid hr
  clear hlk
  go_wp2_with fail
  go_region_law (refine step_copy rfl _ _ rfl rfl rfl hrun ?_)
  have HLS := Lib.hid (show (splice xs a (ys.take k)).length = xs.length from length_splice _ _ _ (by rw [HLK.out, ← HM.out]; omega))
  clear q1 q2 hrun c0 HO
  rcases hd with ⟨e1, rfl, rfl⟩ | ⟨e1, rfl, rfl⟩
  · have g1 : decide ((k : Int) < (n : Int)) = false := decide_eq_false (by omega)
    have g2 : decide (k < n) = false := decide_eq_false (by omega)
    clear e1 hkl hr hlen
    go_wp2_with fail
    go_ret
    exact ⟨_, rfl, .inl ⟨rfl, rfl⟩, ⟨by rw [HLS.out]; exact HB2.out, HR2.out, H.out.ne, by rw [HLS.out]; exact H.out.len, HS1.out.most⟩, HK2.out⟩
  · have g1 : decide ((k : Int) < (n : Int)) = true := decide_eq_true (by omega)
    have g2 : decide (k < n) = true := decide_eq_true (by omega)
    have c1 := HB2.out.cell 1 (u := .bool false) rfl
    have f1 := HB2.out.frz 1
    clear e1 hkl hr hlen
    go_wp2_with fail
    have HK3 := Lib.hid (HK2.out.store s 1 (.bool true) (.inl rfl))
    have HB3 := Lib.hid (HB2.out.set_ 1 (.bool true))
    have HR3 := Lib.hid (HR2.out.keep (Keep.set_ (F := fun k => k = s) w2 s 1 (.bool true) rfl) (fun e => H.out.ne e.symm))
    clear HB2 HR2 HK2 c1 f1
    (with_reducible refine (HN.out _ _).mono ?_)
    rintro e w4 ⟨g, hgs, rfl, hg, hb⟩
    have HG := Lib.hid hg
    have HGS := Lib.hid hgs
    have HB := Lib.hid hb
    clear hg hb hgs
    go_wp2_with fail
    go_ret
    refine ⟨_, rfl, .inr ⟨g, Nat.le_trans HK3.out.size HGS.out, by decide, rfl, HG.out⟩, Sto.below (w := w2.setCell ⟨s, 1, none⟩ (.bool true)) ⟨?_, HR3.out, H.out.ne, by rw [HLS.out]; exact H.out.len, HS1.out.most⟩ HB.out, HK3.out.trans (Keep.of_below (F := fun _ => False) HB.out) (fun _ h => h.elim)⟩
    rw [HLS.out]
    exact HB3.out
/-- The n bytes from a on. -/
theorem read_to (h : Sto w s B xs dead doomed left) (A N : Int) (a n : Nat) (hA : A = (a : Int)) (hN : N = (n : Int)) (h1 : 1 ≤ n) (hr : a + n ≤ xs.length) :
    Calls Tryz.prog 18 #[.pointer (some ⟨s, 0, none⟩), .int .i64 A, .int .i64 N] w fun e w' => ∃ v, e = .returned v ∧ Own w' w.heap.size v ((xs.drop a).take n) ∧ Below w.heap.size w w' := by
  subst hA hN
  have hlen := h.len
  obtain ⟨m, hm⟩ : ∃ m, m = xs.length := ⟨_, rfl⟩
  have HM := Lib.hid hm
  have HH := Lib.hid (holds_to h (a : Int) (n : Int) (by omega) (by omega) true (by rw [decide_eq_true]; omega))
  have c0 := h.blk.cell 0 (u := .slice (some ⟨B, 0, none⟩) m m) (by rw [hm]; rfl)
  have e1 : IntKind.i64.wrap ((a : Int) + (n : Int)) = (a : Int) + (n : Int) := by rw [IntKind.wrap_i64]; omega
  have g1 : decide ((n : Int) < 1) = false := decide_eq_false (by omega)
  have g2 : decide (n < 1) = false := decide_eq_false (by omega)
  have hu : Tryz.prog.underlying 22 = some (.slice (Tryz.prog.elem 22)) := by rw [elemB]; exact Tryz.underlying22
  obtain ⟨c, HC⟩ : ∃ c, Hid (c = m - a) := ⟨_, Lib.hid rfl⟩
  have q1 : ∀ w', (Instr.slice 22 (.slice (some ⟨B, 0, none⟩) m m) (some (.int .i64 (a : Int))) (some (.int .i64 ((a : Int) + (n : Int)))) none).run Tryz.prog w' = .ok (.slice (some ⟨B, a, none⟩) n c) w' := fun w' => by
    rw [run_slice_lh _ _ _ _ _ hu _ _ _ _ (by omega) (by omega) (by omega), elemB, sizeU8]
    have e : ¬ m = a := by omega
    have e2 : ((a : Int) + (n : Int)).toNat - a = n := by omega
    simp [Result.andThen, sliced, e, e2, plain_add, HC.out]
  have hby : Byts w (.slice (some ⟨B, a, none⟩) n c) ((xs.drop a).take n) := by
    have hl : ((xs.drop a).take n).length = n := by rw [List.length_take, List.length_drop]; omega
    refine .inr ⟨B, a, c, by rw [hl], by rw [hl, HC.out]; omega, fun j x hx => ?_⟩
    have hj : j < n := by
      have := (List.getElem?_eq_some_iff.1 hx).1
      omega
    rw [List.getElem?_take, if_pos hj, List.getElem?_drop] at hx
    exact h.row.cell (a + j) x hx
  have HL := Lib.hid (clone_any _ _ w hby (by rw [List.length_take]; omega))
  clear h h1 hr hlen hm hu hby
  go_enter Tryz.func18, Tryz.ntmps18
  go_wp2_with fail
  (with_reducible refine HH.out.mono ?_)
  rintro e w1 ⟨rfl, rfl⟩
  go_wp2_with fail
  (with_reducible refine HL.out.mono ?_)
  rintro e w1 ⟨v, rfl, ho, hb⟩
  have HO := Lib.hid ho
  have HB := Lib.hid hb
  clear ho hb
  go_wp2_with fail
  go_ret
  exact ⟨v, rfl, HO.out, HB.out⟩
theorem read_none (h : Sto w s B xs dead doomed left) (a n : Int) (hn : n ≤ 9223372036854775807) (hr : n < 1 ∨ ¬ (0 ≤ a ∧ a ≤ (xs.length : Int) - n)) :
    Calls Tryz.prog 18 #[.pointer (some ⟨s, 0, none⟩), .int .i64 a, .int .i64 n] w fun e w' => e = .returned (.slice none 0 0) ∧ w = w' := by
  by_cases h1 : n < 1
  · have g1 : decide (n < 1) = true := decide_eq_true h1
    clear h hr hn h1
    go_enter Tryz.func18, Tryz.ntmps18
    go_wp2_with fail
    go_ret
    exact ⟨rfl, rfl⟩
  · have g1 : decide (n < 1) = false := decide_eq_false h1
    have HH := Lib.hid (holds_to h a n (by omega) hn false (by rw [eq_comm, decide_eq_false_iff_not]; exact hr.resolve_left h1))
    clear h hr hn h1
    go_enter Tryz.func18, Tryz.ntmps18
    go_wp2_with fail
    (with_reducible refine HH.out.mono ?_)
    rintro e w1 ⟨rfl, rfl⟩
    go_wp2_with fail
    go_ret
    exact ⟨rfl, rfl⟩
theorem read_any (h : Sto w s B xs dead doomed left) (A N : Int) (a n : Nat) (hA : A = (a : Int)) (hN : N = (n : Int)) (hr : a + n ≤ xs.length) :
    Calls Tryz.prog 18 #[.pointer (some ⟨s, 0, none⟩), .int .i64 A, .int .i64 N] w fun e w' => ∃ v, e = .returned v ∧ Byts w' v ((xs.drop a).take n) ∧ Below w.heap.size w w' := by
  rcases Nat.eq_zero_or_pos n with h0 | h0
  · subst h0
    refine (read_none h A N (by omega) (.inl (by omega))).mono fun e w' ⟨he, hw⟩ => ?_
    subst hw
    exact ⟨_, he, by rw [List.take_zero]; exact byts_nil _, Below.refl _ _⟩
  · exact (read_to h A N a n hA hN h0 hr).mono fun e w' ⟨v, he, ho, hb⟩ => ⟨v, he, ho.byts, hb⟩
/-- A store of a call's own: nothing older than w0 has changed. -/
structure Mine (w0 w : World) (s B : Nat) (xs : List (BitVec 8)) (dead doomed : Bool) (left : Nat) : Prop where
  sto : Sto w s B xs dead doomed left
  bel : Below w0.heap.size w0 w
  s_ : w0.heap.size ≤ s
  B_ : w0.heap.size ≤ B
theorem Mine.call {w0 w w' : World} {s B : Nat} {xs xs' : List (BitVec 8)} {dead doomed dead' doomed' : Bool} {left left' : Nat} (h : Mine w0 w s B xs dead doomed left) (hs : Sto w' s B xs' dead' doomed' left') (hk : Keep (own2 s B) w w') : Mine w0 w' s B xs' dead' doomed' left' :=
  ⟨hs, below_keep h.bel hk (fun g e => by rcases e with rfl | rfl; exact h.s_; exact h.B_), h.s_, h.B_⟩
theorem Mine.below {w0 w w' : World} {s B : Nat} {xs : List (BitVec 8)} {dead doomed : Bool} {left : Nat} (h : Mine w0 w s B xs dead doomed left) (hb : Below w.heap.size w w') : Mine w0 w' s B xs dead doomed left :=
  ⟨h.sto.below hb, h.bel.trans (hb.mono h.bel.size), h.s_, h.B_⟩
theorem Mine.alloc {w0 w : World} {s B : Nat} {xs : List (BitVec 8)} {dead doomed : Bool} {left : Nat} (h : Mine w0 w s B xs dead doomed left) (o : Obj) : Mine w0 (w.alloc o) s B xs dead doomed left := h.below (below_alloc (Below.refl _ w) o)
theorem Mine.lt {w0 w : World} {s B : Nat} {xs : List (BitVec 8)} {dead doomed : Bool} {left : Nat} (h : Mine w0 w s B xs dead doomed left) : ∀ g, Go.Proofs.YtekackglcapppaaGreatDoor.own2 s B g → g < w.heap.size := fun g e => by
  rcases e with rfl | rfl
  · exact h.sto.blk.lt
  · exact h.sto.row.lt
/-- The error v is of the code k, and no store's memory. -/
def ErrO (w : World) (s B : Nat) (v : Value) (k : Int) : Prop := ∃ lo, ErrAt w lo v k ∧ s < lo ∧ B < lo
theorem Mine.err {w0 w w' : World} {s B : Nat} {xs : List (BitVec 8)} {dead doomed : Bool} {left : Nat} (h : Mine w0 w s B xs dead doomed left) {v : Value} {k : Int} (he : ErrAt w' w.heap.size v k) : ErrO w' s B v k := ⟨_, he, h.sto.blk.lt, h.sto.row.lt⟩
theorem ErrO.keep {w w' : World} {s B : Nat} {v : Value} {k : Int} (h : ErrO w s B v k) (hk : Keep (Go.Proofs.YtekackglcapppaaGreatDoor.own2 s B) w w') : ErrO w' s B v k := by
  obtain ⟨lo, h1, h2, h3⟩ := h
  exact ⟨lo, h1.keep hk (fun g e => by rcases e with rfl | rfl <;> assumption), h2, h3⟩
theorem ErrO.below {w w' : World} {s B : Nat} {v : Value} {k : Int} (h : ErrO w s B v k) (hb : Below w.heap.size w w') : ErrO w' s B v k := h.keep (Keep.of_below hb)
theorem ErrO.alloc {w : World} {s B : Nat} {v : Value} {k : Int} (h : ErrO w s B v k) (o : Obj) : ErrO (w.alloc o) s B v k := h.below (below_alloc (Below.refl _ w) o)
theorem ErrO.code {w : World} {s B : Nat} {v : Value} {k : Int} (h : ErrO w s B v k) : Calls Tryz.prog 9 #[v] w fun e w' => e = .returned (.int .i64 k) ∧ w = w' := by
  obtain ⟨lo, h1, _⟩ := h
  exact code_err h1.errV
end Go.Proofs.YtekackglcapppaaGreatDoor
/-
  Errors through places, down to the number; errors.Is of them at a number; fault.Wrap of them.
-/
namespace Go.Proofs.YtekackglcapppaaGreatDoor
open Go.RowKit Go.Extern.Stop Go.Stop Go.Extern

/-- The error v came through d places, each of the number k, and behind them lies the number; the places lie at or behind lo. -/
def ErrP (w : World) (lo : Nat) (k : Int) : Nat → Value → Prop
  | 0, v => v = .iface 36 (.int .i64 k)
  | d + 1, v => ∃ g u, lo ≤ g ∧ v = .iface 66 (.pointer (some ⟨g, 0, none⟩)) ∧ w.cell? ⟨g, 1, none⟩ = some (.int .i64 k) ∧ w.cell? ⟨g, 2, none⟩ = some u ∧ ErrP w lo k d u
theorem ErrP.keep {w w' : World} {lo : Nat} {k : Int} {G : Nat → Prop} (hk : Keep G w w') (hG : ∀ g, G g → g < lo) : ∀ {d : Nat} {v : Value}, ErrP w lo k d v → ErrP w' lo k d v
  | 0, _, h => h
  | _ + 1, _, ⟨g, u, h0, h1, h2, h3, h4⟩ => ⟨g, u, h0, h1, hk.cell h2 (fun e => by have := hG _ e; omega), hk.cell h3 (fun e => by have := hG _ e; omega), ErrP.keep hk hG h4⟩
theorem ErrP.below {w w' : World} {lo : Nat} {k : Int} {d : Nat} {v : Value} (h : ErrP w lo k d v) (hb : Below w.heap.size w w') : ErrP w' lo k d v := ErrP.keep (Keep.of_below (F := fun _ => False) hb) (fun _ h => h.elim) h
theorem ErrP.mono {w : World} {lo lo' : Nat} {k : Int} (hl : lo' ≤ lo) : ∀ {d : Nat} {v : Value}, ErrP w lo k d v → ErrP w lo' k d v
  | 0, _, h => h
  | _ + 1, _, ⟨g, u, h0, h1, h2, h3, h4⟩ => ⟨g, u, Nat.le_trans hl h0, h1, h2, h3, ErrP.mono hl h4⟩
theorem ErrAt.errP {w : World} {lo : Nat} {v : Value} {k : Int} (h : ErrAt w lo v k) (hk : k ≠ 0) : ErrP w lo k 1 v := by
  rcases h with ⟨_, h⟩ | ⟨g, h0, h1, h2, h3, h4⟩
  · exact absurd h hk
  · exact ⟨g, _, h0, h2, h3, h4, rfl⟩
theorem ErrP.errV {w : World} {lo : Nat} {v : Value} {k : Int} {d : Nat} (h : ErrP w lo k (d + 1) v) (hk : k ≠ 0) : ErrV w v k := by
  obtain ⟨g, u, h0, h1, h2, h3, h4⟩ := h
  exact .inr ⟨g, hk, h1, h2⟩

theorem methodComparable (v : Value) (w : World) : (Go.method 287 115 v "Comparable").run Tryz.prog w = .ok (113, v) w := by kernel_rfl
theorem methodIsP (v : Value) (w : World) : (Go.method 287 66 v "Is").run Tryz.prog w = .ok (106, v) w := by kernel_rfl
theorem methodUnwrapP (v : Value) (w : World) : (Go.method 287 66 v "Unwrap").run Tryz.prog w = .ok (107, v) w := by kernel_rfl
theorem typeOfE (v : Value) (w : World) : (ReflectliteType.typeOf #[.iface 36 v]).run Tryz.prog w = .ok (.iface 115 (.agg #[.pointer (some ⟨2, 36, none⟩)])) w := by kernel_rfl
theorem xTypeOf (args : Array Value) (w : World) : (callFunc 47 args).run Tryz.prog w = (((ReflectliteType.typeOf) args).run Tryz.prog w).andThen fun v w' => .ok (.value v) w' :=
  run_callFunc_extern (e := ReflectliteType.typeOf) Tryz.func47 (by kernel_rfl) (by kernel_rfl) (by kernel_rfl) (by kernel_rfl) args w
theorem xCompE (w : World) : (callFunc 113 #[.agg #[.pointer (some ⟨2, 36, none⟩)]]).run Tryz.prog w = .ok (.value (.bool true)) w := by kernel_rfl
theorem compE : (Tryz.prog.info? 36).map (·.comparable) = some true := by kernel_rfl
theorem noIsE (v : Value) (xT : TypeId) (w : World) : (Instr.typeAssert (.iface 36 v) xT 117 true).run Tryz.prog w = .ok (.tuple #[.nilIface, .bool false]) w := run_typeAssert_lacksB Tryz.underlying117 (by kernel_rfl) (by kernel_rfl) v xT w
theorem noUnwrapE (v : Value) (xT : TypeId) (w : World) : (Instr.typeAssert (.iface 36 v) xT 120 true).run Tryz.prog w = .ok (.tuple #[.nilIface, .bool false]) w := run_typeAssert_lacksB Tryz.underlying120 (by kernel_rfl) (by kernel_rfl) v xT w
theorem noUnwrapsE (v : Value) (xT : TypeId) (w : World) : (Instr.typeAssert (.iface 36 v) xT 122 true).run Tryz.prog w = .ok (.tuple #[.nilIface, .bool false]) w := run_typeAssert_lacksB Tryz.underlying122 (by kernel_rfl) (by kernel_rfl) v xT w
theorem hasIsP (v : Value) (xT : TypeId) (w : World) : (Instr.typeAssert (.iface 66 v) xT 117 true).run Tryz.prog w = .ok (.tuple #[.iface 66 v, .bool true]) w := run_typeAssert_hasB Tryz.underlying117 (by kernel_rfl) v xT w
theorem hasUnwrapP (v : Value) (xT : TypeId) (w : World) : (Instr.typeAssert (.iface 66 v) xT 120 true).run Tryz.prog w = .ok (.tuple #[.iface 66 v, .bool true]) w := run_typeAssert_hasB Tryz.underlying120 (by kernel_rfl) v xT w
theorem assertE (v : Value) (xT : TypeId) (w : World) : (Instr.typeAssert (.iface 36 v) xT 36 true).run Tryz.prog w = .ok (.tuple #[v, .bool true]) w := by kernel_rfl
/-- '==' of two errors that are numbers: as the numbers are. -/
theorem eqlE (a b : Int) (w : World) : (binOp .eql 39 (.iface 36 (.int .i64 a)) (.iface 36 (.int .i64 b))).run Tryz.prog w = .ok (.bool (a == b)) w := by
  obtain ⟨i, hi, hc⟩ := Option.map_eq_some_iff.1 compE
  have h : ∀ d, (Op.equalIn (d + 2) 39 (.iface 36 (.int .i64 a)) (.iface 36 (.int .i64 b))).run Tryz.prog w = .ok (a == b) w := by
    intro d
    simp [Op.equalIn, run_underlying Tryz.underlying39, run_underlying Tryz.underlying36, typeInfo, hi, hc]
  have h2 := h 9998
  simp only [binOp]
  simp [Op.equal, Op.maxDepth, h2]
theorem pIs_to (b : Nat) (n m : Int) (w : World) (h1 : w.cell? ⟨b, 1, none⟩ = some (.int .i64 n)) (r : Bool) (hr : (m == n) = r) :
    Calls Tryz.prog 106 #[.pointer (some ⟨b, 0, none⟩), .iface 36 (.int .i64 m)] w fun e w' => e = .returned (.bool r) ∧ w = w' := by
  have a1 := assertE
  go_enter Tryz.func106, Tryz.ntmps106
  go_wp2
  go_ret
  exact ⟨rfl, rfl⟩
theorem pUnwrap_any (b : Nat) (u : Value) (w : World) (h2 : w.cell? ⟨b, 2, none⟩ = some u) :
    Calls Tryz.prog 107 #[.pointer (some ⟨b, 0, none⟩)] w fun e w' => e = .returned u ∧ w = w' := by
  go_enter Tryz.func107, Tryz.ntmps107
  go_wp2
  go_ret
  exact ⟨rfl, rfl⟩
theorem nil_held (m : Int) (w : World) : (binOp .eql 39 .nilIface (.iface 36 (.int .i64 m))).run Tryz.prog w = .ok (.bool false) w := by
  have h : ∀ d, (Op.equalIn (d + 1) 39 .nilIface (.iface 36 (.int .i64 m))).run Tryz.prog w = .ok false w := fun d => by
    simp [Op.equalIn, run_underlying Tryz.underlying39]
  have h2 := h 9999
  simp only [binOp]
  simp [Op.equal, Op.maxDepth, h2]
theorem is_nil (m : Int) (w : World) :
    Calls Tryz.prog 31 #[.nilIface, .iface 36 (.int .i64 m)] w fun e w' => e = .returned (.bool false) ∧ w = w' := by
  have q := nil_held m
  go_enter Tryz.func31, Tryz.ntmps31
  go_wp2
  go_ret
  exact ⟨rfl, rfl⟩
set_option maxHeartbeats 4000000 in
set_option maxRecDepth 100000 in
theorem is_yes {w : World} {lo : Nat} {k : Int} {d : Nat} {v : Value} (h : ErrP w lo k (d + 1) v) :
    Calls Tryz.prog 31 #[v, .iface 36 (.int .i64 k)] w fun e w' => e = .returned (.bool true) ∧ w = w' := by
  obtain ⟨b, u, _, rfl, h1, _, _⟩ := h
  have x1 := xTypeOf
  have x2 := xCompE
  have t1 := typeOfE
  have m1 := methodComparable
  have m2 := methodIsP
  have n1 := hasIsP
  have q := run_eql_iface_types (P := Tryz.prog) 66 36 (.pointer (some ⟨b, 0, none⟩)) (.int .i64 k) Tryz.underlying39 (by decide) w
  go_enter Tryz.func31, Tryz.ntmps31
  go_wp2
  refine wp_loop_rounds 1 ?_
  rw [rounds_succ]
  go_wp2_with (go_at_call 106; refine (pIs_to _ _ _ _ h1 true (by simp)).mono ?_; rintro e w' ⟨rfl, rfl⟩)
  go_wp2
  go_ret
  exact ⟨rfl, rfl⟩
set_option maxHeartbeats 4000000 in
set_option maxRecDepth 100000 in
theorem is_no {w : World} {lo : Nat} {k m : Int} {v : Value} (h : ErrP w lo k 2 v) (hm : (m == k) = false) (hm2 : (k == m) = false) :
    Calls Tryz.prog 31 #[v, .iface 36 (.int .i64 m)] w fun e w' => e = .returned (.bool false) ∧ w = w' := by
  obtain ⟨b, u, _, rfl, h1, h2, b', u', _, rfl, h1', h2', rfl⟩ := h
  have x1 := xTypeOf
  have x2 := xCompE
  have t1 := typeOfE
  have m1 := methodComparable
  have m2 := methodIsP
  have m3 := methodUnwrapP
  have n1 := hasIsP
  have n2 := hasUnwrapP
  have n3 := noIsE
  have n4 := noUnwrapE
  have n5 := noUnwrapsE
  have q1 := run_eql_iface_types (P := Tryz.prog) 66 36 (.pointer (some ⟨b, 0, none⟩)) (.int .i64 m) Tryz.underlying39 (by decide) w
  have q2 := run_eql_iface_types (P := Tryz.prog) 66 36 (.pointer (some ⟨b', 0, none⟩)) (.int .i64 m) Tryz.underlying39 (by decide) w
  have q3 := eqlE k m w
  rw [hm2] at q3
  have HP1 := Lib.hid (pIs_to b k m w h1 false hm)
  have HP2 := Lib.hid (pIs_to b' k m w h1' false hm)
  have HU1 := Lib.hid (pUnwrap_any b _ w h2)
  have HU2 := Lib.hid (pUnwrap_any b' _ w h2')
  clear h1 h2 h1' h2' hm hm2
  go_enter Tryz.func31, Tryz.ntmps31
  go_wp2
  refine wp_loop_rounds 3 ?_
  rw [rounds_succ]
  go_wp2_with fail
  (with_reducible refine HP1.out.mono ?_)
  rintro e w' ⟨rfl, rfl⟩
  go_wp2_with fail
  (with_reducible refine HU1.out.mono ?_)
  rintro e w' ⟨rfl, rfl⟩
  go_wp2_with fail
  rw [rounds_succ]
  go_wp2_with fail
  (with_reducible refine HP2.out.mono ?_)
  rintro e w' ⟨rfl, rfl⟩
  go_wp2_with fail
  (with_reducible refine HU2.out.mono ?_)
  rintro e w' ⟨rfl, rfl⟩
  go_wp2_with fail
  rw [rounds_succ]
  go_wp2
  go_ret
  exact ⟨rfl, rfl⟩

/-- Wrapped: one place more. -/
theorem wrapP_any {w : World} {lo : Nat} {k : Int} {d : Nat} {v : Value} (h : ErrP w lo k (d + 1) v) (hl : lo ≤ w.heap.size) (s : ByteArray) :
    Calls Tryz.prog 29 #[v, .string s] w fun e w' => ∃ r, e = .returned r ∧ ErrP w' lo k (d + 2) r ∧ Below w.heap.size w w' := by
  have H := Lib.hid h
  obtain ⟨b, u, _, rfl, h1, _, _⟩ := h
  have HC := Lib.hid (code_place b k w h1)
  have HL := Lib.hid hl
  clear h1 hl
  go_enter Tryz.func29, Tryz.ntmps29
  go_wp2_with fail
  (with_reducible refine HC.out.mono ?_)
  rintro e w1 ⟨rfl, rfl⟩
  go_wp2_with fail
  go_ret
  exact ⟨_, rfl, ⟨_, _, HL.out, rfl, by simp, by simp, H.out.below (below_alloc (Below.refl _ w) _)⟩, below_alloc (Below.refl _ w) _⟩
end Go.Proofs.YtekackglcapppaaGreatDoor
/-
  bytes.Repeat of one byte.
-/
namespace Go.Proofs.YtekackglcapppaaGreatDoor
open Go.RowKit

theorem and_low (n : Nat) (h : n ≤ 65536) : bits .and .u64 (n : Int) 4294967295 = (n : Int) := by
  have h1 := bits_and_u64_nat n 4294967295 (by omega) (by omega)
  have e : n &&& 4294967295 = n % 4294967296 := Nat.and_two_pow_sub_one_eq_mod n 32
  rw [e, Nat.mod_eq_of_lt (by omega)] at h1
  exact h1
theorem mul64_one (n : Nat) (h : n ≤ 65536) (w : World) :
    Calls Tryz.prog 65 #[.int .u64 1, .int .u64 (n : Int)] w fun e w' => e = .returned (.tuple #[.int .u64 0, .int .u64 (n : Int)]) ∧ w = w' := by
  have e1 : bits .and .u64 1 4294967295 = 1 := and_low 1 (by omega)
  have e2 := and_low n h
  have e3 : (n : Int) / 4294967296 = 0 := by omega
  have e4 : IntKind.u64.wrap (n : Int) = (n : Int) := by rw [IntKind.wrap_u64]; omega
  have e5 : bits .and .u64 0 4294967295 = 0 := and_low 0 (by omega)
  go_enter Tryz.func65, Tryz.ntmps65
  go_wp2_with fail
  go_ret2
  exact ⟨rfl, rfl⟩
theorem mul_one (n : Nat) (h : n ≤ 65536) (w : World) :
    Calls Tryz.prog 51 #[.int .u64 1, .int .u64 (n : Int)] w fun e w' => e = .returned (.tuple #[.int .u64 0, .int .u64 (n : Int)]) ∧ w = w' := by
  have HM := Lib.hid (mul64_one n h)
  have e4 : IntKind.u64.wrap (n : Int) = (n : Int) := by rw [IntKind.wrap_u64]; omega
  go_enter Tryz.func51, Tryz.ntmps51
  go_wp2_with fail
  (with_reducible refine (HM.out _).mono ?_)
  rintro e w1 ⟨rfl, rfl⟩
  go_wp2_with fail
  go_ret2
  exact ⟨rfl, rfl⟩

/-- The row g begins with b bytes x, and has room for n. -/
def Fill (w : World) (g b n : Nat) (x : BitVec 8) : Prop := ∃ rest : List Value, w.heap[g]? = some (.cells (List.replicate b (cel x) ++ rest).toArray 5 (0, 0)) ∧ n ≤ b + rest.length
theorem Fill.cell {w : World} {g b n : Nat} {x : BitVec 8} (h : Fill w g b n x) (j : Nat) (hj : j < b) : w.cell? ⟨g, j, none⟩ = some (cel x) := by
  obtain ⟨rest, h, _⟩ := h
  rw [cell_of_row _ _ _ _ _ _ h, ← Array.getElem?_toList, List.toList_toArray, List.getElem?_append_left (by simpa using hj), List.getElem?_replicate, if_pos hj]
theorem Fill.drw {w : World} {g b n : Nat} {x : BitVec 8} (h : Fill w g b n x) : Fill w.drew g b n x := h
theorem Fill.room {w : World} {g b : Nat} {x : BitVec 8} {n : Nat} (h : Fill w g b n x) : Room w g (List.replicate b x) := by
  obtain ⟨rest, h, _⟩ := h
  exact ⟨rest, _, by rw [List.map_replicate]; exact h⟩
/-- More of the same bytes, laid behind them. -/
theorem run_fill (w : World) (g b n : Nat) (x : BitVec 8) (hf : Fill w g b n x) (k dLen dCap sLen sCap : Nat) (ad : Addr)
    (hk : k = Nat.min sLen dLen) (hsrc : ∀ j, j < k → w.cell? (ad.add j) = some (cel x)) (hfit : b + k ≤ n) (B : Nat) (w0 : World) (hb : Below B w0 w) (hBg : B ≤ g) :
    ∃ w', (∀ T, (Builtin.copy_ #[22, 22] T #[.slice (some ⟨g, b, none⟩) dLen dCap, .slice (some ad) sLen sCap]).run Tryz.prog w = .ok (.int .i64 (k : Int)) w') ∧ Hid (Fill w' g (b + k) n x) ∧ Hid (Below B w0 w') := by
  obtain ⟨tail, hg, hn⟩ := hf
  have hsz : (Tryz.prog.info? 5).map (·.size) = some 1 := by kernel_rfl
  have hrun := fun T => run_copy_row (P := Tryz.prog) w 22 22 T 5 g b dLen dCap ad sLen sCap _ 5 (List.replicate k (cel x)) Tryz.underlying22 hsz hg (by simpa using hk) (fun j v hv => by
    have hj := (List.getElem?_eq_some_iff.1 hv).1
    simp only [List.length_replicate] at hj
    rw [List.getElem?_replicate, if_pos hj] at hv
    rw [← hv]
    exact hsrc j hj) (by simp; omega) (fun v hv => by obtain ⟨_, rfl⟩ := List.mem_replicate.1 hv; rfl)
  refine ⟨_, fun T => by simpa [goInt] using hrun T, Lib.hid ⟨tail.drop k, ?_, by simp; omega⟩, Lib.hid (below_setRow hb hBg _)⟩
  rw [setRow_heap w g _ _ _ _ hg]
  rw [List.drop_append, List.length_replicate, List.drop_eq_nil_of_le (by simp), List.nil_append, show b + k - b = k by omega]

theorem repeat_none (v : Value) (w : World) :
    Calls Tryz.prog 37 #[v, .int .i64 0] w fun e w' => e = .returned (.slice (some ⟨w.heap.size, 0, none⟩) 0 0) ∧ Room w' w.heap.size [] ∧ Below w.heap.size w w' := by
  go_enter Tryz.func37, Tryz.ntmps37
  go_wp2_with fail
  go_ret
  exact ⟨rfl, ⟨[], _, heap_alloc_new w _⟩, below_alloc (Below.refl _ w) _⟩
set_option maxRecDepth 100000 in
theorem repeat_some (v : Value) (x : BitVec 8) (n : Nat) (hn : n ≤ 65536) (h1 : 0 < n) (w : World) (hv : Byts w v [x]) :
    Calls Tryz.prog 37 #[v, .int .i64 (n : Int)] w fun e w' => e = .returned (.slice (some ⟨w.heap.size, 0, none⟩) n n) ∧ Room w' w.heap.size (List.replicate n x) ∧ Below w.heap.size w w' := by
  obtain ⟨g, o, cap, y, rfl, hcap, hg, hy, hc⟩ := hv.at_ 0 (by simp)
  have hyx : y = x := by simpa using hy.symm
  subst hyx
  obtain ⟨cs, hrunM, hle, _⟩ := Lib.run_makeNoZero (P := Tryz.prog) w #[3] 22 5 Tryz.underlying22 n (by omega)
  have hcall : (callFunc 52 #[.int .i64 (n : Int)]).run Tryz.prog w = .ok (.value (.slice (some ⟨w.heap.size, 0, none⟩) n cs.size)) (w.drew.drew.alloc (.cells cs 5)) := by
    rw [run_callFunc_extern Tryz.func52 (by kernel_rfl) (by kernel_rfl) (by kernel_rfl) (e := Extern.BytealgMakeNoZero.makeNoZero #[3] #[22]) (by kernel_rfl), hrunM]
    rfl
  clear hrunM hy
  have HC := Lib.hid hcall
  have HCc := Lib.hid hc
  have HM := Lib.hid (mul_one n hn)
  have e4 : IntKind.u64.wrap (n : Int) = (n : Int) := by rw [IntKind.wrap_u64]; omega
  have e5 : IntKind.i64.wrap (n : Int) = (n : Int) := by rw [IntKind.wrap_i64]; omega
  have n0 : ((n : Int) == 0) = false := beq_eq_false_iff_ne.2 (by omega)
  have n1 : decide ((n : Int) < 0) = false := by simp
  have n2 : decide ((n : Int) > 9223372036854775807) = false := by simp; omega
  have n3 : decide (9223372036854775807 < (n : Int)) = false := by simp; omega
  clear hc hcall
  have hlen : decide (1 = 0) = false := rfl
  rcases Nat.lt_or_ge 8192 n with h8 | h8
  all_goals
    (first | have n4 : decide ((n : Int) > 8192) = true := by simp; omega | have n4 : decide ((n : Int) > 8192) = false := by simp; omega)
    (first | have n5 : decide (8192 < (n : Int)) = true := by simp; omega | have n5 : decide (8192 < (n : Int)) = false := by simp; omega)
    go_enter Tryz.func37, Tryz.ntmps37
    go_wp2_with fail
    (with_reducible refine (HM.out _).mono ?_)
    rintro e w1 ⟨rfl, rfl⟩
    have hcall := HC.out
    have i1 : (n : Int) ≤ (cs.size : Int) := by omega
    have hk0 : Hid (1 = Nat.min 1 n) := Lib.hid (show 1 = min 1 n by omega)
    have hn0 : 0 + 1 ≤ n := by omega
    have HF0 : Hid (Fill ((w.alloc (.cells cs 5)).drew.drew) w.heap.size 0 n y) := Lib.hid (Fill.drw (Fill.drw ⟨cs.toList, by
      rw [heap_alloc_new w (.cells cs 5)]
      simp, by simpa using hle⟩))
    have HB0 : Hid (Below w.heap.size w (w.alloc (.cells cs 5)).drew.drew) := Lib.hid (below_call (below_call (below_alloc (Below.refl _ w) (.cells cs 5)) (bel_drew _)) (bel_drew _))
    have HS0 : Hid (∀ j, j < 1 → ((w.alloc (.cells cs 5)).drew.drew).cell? ((⟨g, o, none⟩ : Addr).add j) = some (cel y)) := Lib.hid fun j hj => by
      obtain rfl : j = 0 := by omega
      rw [add_zero]
      exact below_cell HB0.out HCc.out
    obtain ⟨W2, hr2, HF2, HB2⟩ := run_fill _ w.heap.size 0 n y HF0.out 1 n n 1 cap ⟨g, o, none⟩ hk0.out HS0.out hn0 w.heap.size w HB0.out (Nat.le_refl _)
    go_wp2_with ((with_reducible refine wpList_copy ?_ ?_ hr2 ?_); rfl; rfl)
    rw [Nat.zero_add] at HF2
    clear HF0 HB0 HS0 hr2 hcall HC HM HCc hv e4 e5 n0 n1 n4 n5 hle i1
    go_loopw [10] (fun s10 wr => ∃ b : Nat, 1 ≤ b ∧ b ≤ n ∧ s10 = .int .i64 (b : Int) ∧ Hid (Fill wr w.heap.size b n y) ∧ Hid (Below w.heap.size w wr)) (fun s10 _ => n - (intOf s10).toNat)
    case atStart => exact ⟨1, by omega, by omega, rfl, HF2, HB2⟩
    case round =>
      obtain ⟨b, hb1, hbn, rfl, HFr, HBr⟩ := hrel
      clear HF2 HB2
      rcases Nat.lt_or_ge b n with hlt | hge
      · obtain ⟨c, HCc⟩ : ∃ c : Nat, Hid (c = min b 8192) := ⟨_, Lib.hid rfl⟩
        obtain ⟨r, HR⟩ : ∃ r : Nat, Hid (r = n - b) := ⟨_, Lib.hid rfl⟩
        obtain ⟨k, HK⟩ : ∃ k : Nat, Hid (k = min c r) := ⟨_, Lib.hid rfl⟩
        have hu : Tryz.prog.underlying 22 = some (.slice (Tryz.prog.elem 22)) := by rw [elemB]; exact Tryz.underlying22
        have q1 : ∀ w', (Instr.slice 22 (.slice (some ⟨w.heap.size, 0, none⟩) n n) (some (.int .i64 (b : Int))) none none).run Tryz.prog w' = .ok (.slice (some ⟨w.heap.size, b, none⟩) r r) w' := fun w' => by
          rw [run_slice_l _ _ _ _ _ hu _ _ (by omega) (by omega), elemB, sizeU8]
          have e : ¬ n = b := by omega
          simp [Result.andThen, sliced, e, plain_add, HR.out]
        have q2 : ∀ w', (Instr.slice 22 (.slice (some ⟨w.heap.size, 0, none⟩) n n) none (some (.int .i64 (c : Int))) none).run Tryz.prog w' = .ok (.slice (some ⟨w.heap.size, 0, none⟩) c n) w' := fun w' => by
          have := HCc.out
          rw [run_slice_h _ _ _ _ _ hu _ _ (by omega) (by omega), elemB, sizeU8]
          simp [Result.andThen, sliced, add_zero]
        have m1 : ∀ (ts : Array TypeId) (t : TypeId) (w : World), (Builtin.min_ ts t #[.int .i64 (b : Int), .int .i64 8192]).run Tryz.prog w = .ok (.int .i64 (c : Int)) w := fun ts t w => by
          rw [run_min_int2, show (if (8192 : Int) < (b : Int) then (8192 : Int) else (b : Int)) = (c : Int) by have := HCc.out; split <;> omega]
        have m2 : n ≤ 8192 → ∀ (ts : Array TypeId) (t : TypeId) (w : World), (Builtin.min_ ts t #[.int .i64 (b : Int), .int .i64 (n : Int)]).run Tryz.prog w = .ok (.int .i64 (c : Int)) w := fun h ts t w => by
          rw [run_min_int2, show (if (n : Int) < (b : Int) then (n : Int) else (b : Int)) = (c : Int) by have := HCc.out; split <;> omega]
        try have m3 := m2 h8
        clear m2 hu
        have hbk : b + k ≤ n := by have := HR.out; have := HK.out; omega
        have hk1 : 0 < k := by have := HR.out; have := HK.out; have := HCc.out; omega
        have e6 : IntKind.i64.wrap ((b : Int) + (k : Int)) = (b : Int) + (k : Int) := by rw [IntKind.wrap_i64]; omega
        have HFd := Lib.hid HFr.out.drw
        have HBd : Hid (Below w.heap.size w wr.drew) := Lib.hid (HBr.out.trans ((bel_drew wr).mono HBr.out.size))
        have HSd : Hid (∀ j, j < k → wr.drew.cell? ((⟨w.heap.size, 0, none⟩ : Addr).add j) = some (cel y)) := Lib.hid fun j hj => by
          rw [plain_add, Nat.zero_add]
          exact HFd.out.cell j (by have := HK.out; have := HCc.out; omega)
        obtain ⟨W3, hr3, HF3, HB3⟩ := run_fill _ w.heap.size b n y HFd.out k r r c n ⟨w.heap.size, 0, none⟩ HK.out HSd.out hbk w.heap.size w HBd.out (Nat.le_refl _)
        go_wp2_with fail
        go_region_law (refine step_copy rfl _ _ rfl rfl rfl hr3 ?_)
        all_goals
          go_simp
          go_roundw
          case rel =>
            refine ⟨_, _, _, _, _, _, _, _, _, _, _, _, _, _, _, _, _, ⟨b + k, by omega, hbk, ?_, HF3, HB3⟩, rfl⟩
            go_num
          case measure => simp [intOf]; omega
      · obtain rfl : b = n := by omega
        go_wp2_with fail
        go_ret
        exact ⟨rfl, HFr.out.room, HBr.out⟩
end Go.Proofs.YtekackglcapppaaGreatDoor
/-
  New: so many bytes ff.
-/
namespace Go.Proofs.YtekackglcapppaaGreatDoor
open Go.RowKit

/-- What New makes of a size. -/
theorem new_to (n : Int) (m : Nat) (hm : (m : Int) = min (max n 0) 65536) (w : World) :
    Calls Tryz.prog 19 #[.int .i64 n] w fun e w' => ∃ s B, e = .returned (.pointer (some ⟨s, 0, none⟩)) ∧ w.heap.size ≤ s ∧ w.heap.size ≤ B ∧ Sto w' s B (List.replicate m 255#8) false false 0 ∧ Below w.heap.size w w' := by
  have hm1 : m ≤ 65536 := by omega
  have h1 : ∃ k : Int, k = max n 0 := ⟨_, rfl⟩
  obtain ⟨k, HK⟩ := h1
  have m1 : ∀ (ts : Array TypeId) (t : TypeId) (w : World), (Builtin.max_ ts t #[.int .i64 n, .int .i64 0]).run Tryz.prog w = .ok (.int .i64 k) w := fun ts t w => by
    rw [run_max_int2, show (if n < (0 : Int) then (0 : Int) else n) = k by split <;> omega]
  have m2 : ∀ (ts : Array TypeId) (t : TypeId) (w : World), (Builtin.min_ ts t #[.int .i64 k, .int .i64 65536]).run Tryz.prog w = .ok (.int .i64 (m : Int)) w := fun ts t w => by
    rw [run_min_int2, show (if (65536 : Int) < k then (65536 : Int) else k) = (m : Int) by split <;> omega]
  have HM := Lib.hid hm
  have HKK := Lib.hid HK
  clear hm HK
  have HB0 := Lib.hid (below_alloc (Below.refl _ w) (.cells #[.int .u8 255] 5))
  have HV := Lib.hid (lit_byts w #[.int .u8 255] 1 (0, 0) [255#8] (by rfl) rfl)
  have HR : Hid (Calls Tryz.prog 37 #[.slice (some ⟨w.heap.size, 0, none⟩) 1 1, .int .i64 (m : Int)] (w.alloc (.cells #[.int .u8 255] 5)) fun e w' => e = .returned (.slice (some ⟨w.heap.size + 1, 0, none⟩) m m) ∧ Room w' (w.heap.size + 1) (List.replicate m 255#8) ∧ Below (w.heap.size + 1) (w.alloc (.cells #[.int .u8 255] 5)) w') := by
    refine Lib.hid ?_
    rcases Nat.eq_zero_or_pos m with h0 | h0
    · subst h0
      have := repeat_none (.slice (some ⟨w.heap.size, 0, none⟩) 1 1) (w.alloc (.cells #[.int .u8 255] 5))
      simpa using this
    · have := repeat_some _ 255#8 m hm1 h0 _ HV.out
      simpa using this
  go_enter Tryz.func19, Tryz.ntmps19
  go_wp2_with fail
  (with_reducible refine HR.out.mono ?_)
  rintro e w1 ⟨rfl, hr, hb⟩
  have HR1 := Lib.hid hr
  have HB1 := Lib.hid (HB0.out.trans (hb.mono (Nat.le_succ _)))
  clear hr hb HR HV m1 m2
  go_wp2_with fail
  go_ret
  refine ⟨_, _, rfl, HB1.out.size, Nat.le_succ _, ⟨?_, ?_, ?_, by simpa using hm1, by omega⟩, below_alloc HB1.out _⟩
  · have := blk_new w1 #[.slice (some ⟨w.heap.size + 1, 0, none⟩) m m, .bool false, .bool false, .int .i64 0] 78
    simpa using this
  · exact HR1.out.keep (Keep.alloc (Keep.refl (fun _ => False) w1) _) id
  · have := HR1.out.lt
    omega
theorem mine_new (n : Int) (m : Nat) (hm : (m : Int) = min (max n 0) 65536) {w0 w : World} (hb : Below w0.heap.size w0 w) :
    Calls Tryz.prog 19 #[.int .i64 n] w fun e w' => ∃ s B, e = .returned (.pointer (some ⟨s, 0, none⟩)) ∧ Mine w0 w' s B (List.replicate m 255#8) false false 0 ∧ Below w.heap.size w w' :=
  (new_to n m hm w).mono fun _ _ ⟨s, B, he, h1, h2, hs, h⟩ => ⟨s, B, he, ⟨hs, hb.trans (h.mono hb.size), Nat.le_trans hb.size h1, Nat.le_trans hb.size h2⟩, h⟩
end Go.Proofs.YtekackglcapppaaGreatDoor
