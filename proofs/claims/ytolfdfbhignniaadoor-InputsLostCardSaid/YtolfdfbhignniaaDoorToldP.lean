/-
  Print ToldM: merged.
-/
import Derived.Deep.AppendLies
import Derived.Test.YtolfdfbhignniaaDoorNew
import Derived.Test.YtolfdfbhignniaaDoorSnPr
/-
  What is printed of inputs, channel by channel, as telegrams, and the channels that took them; rows of bytes that a law appends to.
-/
namespace Go.Proofs.YtolfdfbhignniaaDoor
open Go.RowKit

/-- What is printed of the channel k. -/
def prn (D : Dat) (k : Nat) : List (BitVec 8) :=
  match k with
  | 0 => if ((D.a && D.b) || (D.c && D.d)) = false then [byteOf (lay1 [D.a, D.b, D.c, D.d])] else []
  | 1 => [byteOf (lay1 [D.l])]
  | 2 => [byteOf (lay1 [D.o])]
  | 3 => if 0 ≤ D.m ∧ D.m < 3 then [byteOf D.m] else []
  | 4 => [byteOf (lay1 [D.mn, D.bt])]
  | 5 => if 0 ≤ D.r ∧ D.r < 256 then [byteOf D.r] else []
  | 6 => []
  | 7 => []
  | i + 8 => match D.ts[i]? with
    | some y => if (cntOf true (ctBytes y)).fr = y.fr ∧ (cntOf true (ctBytes y)).i = y.i ∧ (cntOf true (ctBytes y)).o = y.o ∧ (cntOf true (ctBytes y)).cs = y.cs ∧ (cntOf true (ctBytes y)).l = y.l then ctBytes y else []
    | none => []
theorem same_ct (x y : Ct) : (x.fr = y.fr ∧ x.i = y.i ∧ x.o = y.o ∧ x.cs = y.cs ∧ x.l = y.l) ↔ x = y := by
  obtain ⟨a, b, c, d, e⟩ := x
  obtain ⟨a', b', c', d', e'⟩ := y
  simp
theorem prn_track {D : Dat} {i : Nat} {y : Ct} (h : D.ts[i]? = some y) : (cntOf true (ctBytes y) = y ∧ prn D (i + 8) = ctBytes y) ∨ (¬ cntOf true (ctBytes y) = y ∧ prn D (i + 8) = []) := by
  by_cases hy : cntOf true (ctBytes y) = y
  · refine .inl ⟨hy, ?_⟩
    show (match D.ts[i]? with | some y => _ | none => _) = _
    rw [h]
    exact if_pos ((same_ct _ _).2 hy)
  · refine .inr ⟨hy, ?_⟩
    show (match D.ts[i]? with | some y => _ | none => _) = _
    rw [h]
    exact if_neg fun h2 => hy ((same_ct _ _).1 h2)
theorem prn_len (D : Dat) (k : Nat) : (prn D k).length ≤ 16 := by
  unfold prn
  split
  · split <;> simp
  · simp
  · simp
  · split <;> simp
  · simp
  · split <;> simp
  · simp
  · simp
  · split
    · split
      · simp [ctBytes]
      · simp
    · simp
set_option maxHeartbeats 1000000 in
theorem print_six (a b c d s l o : Bool) (m : Int) (mn bt : Bool) (r : Int) (tv : Value) (w : World) (ch : Int) (h : ch = 6 ∨ ch = 7) :
    Calls Tryd.prog 22 #[.agg #[.bool a, .bool b, .bool c, .bool d, .bool s, .bool l, .bool o, .int .i64 m, .bool mn, .bool bt, .int .i64 r, tv], .int .i64 ch] w fun e w' => e = .returned (.slice none 0 0) ∧ Below w.heap.size w w' := by
  rcases h with rfl | rfl
  · go_enter Tryd.func22, Tryd.ntmps22
    go_wp2_with fail
    go_ret
    exact ⟨rfl, below_alloc (Below.refl _ w) _⟩
  · go_enter Tryd.func22, Tryd.ntmps22
    go_wp2_with fail
    go_ret
    exact ⟨rfl, below_alloc (Below.refl _ w) _⟩
theorem chan_ways (k : Nat) : k = 0 ∨ k = 1 ∨ k = 2 ∨ k = 3 ∨ k = 4 ∨ k = 5 ∨ k = 6 ∨ k = 7 ∨ ∃ i, k = i + 8 := by
  rcases Nat.lt_or_ge k 8 with h | h
  · omega
  · exact .inr (.inr (.inr (.inr (.inr (.inr (.inr (.inr ⟨k - 8, by omega⟩)))))))
/-- Print, of a channel that there is. -/
theorem print_to (a b c d s l o : Bool) (m : Int) (mn bt : Bool) (r : Int) (ts : List Ct) (tv : Value) (w : World) (hv : Els RCt 5 w tv ts) (k : Nat) (hk : k < 8 + ts.length) (hl : ts.length ≤ 8) :
    Calls Tryd.prog 22 #[.agg #[.bool a, .bool b, .bool c, .bool d, .bool s, .bool l, .bool o, .int .i64 m, .bool mn, .bool bt, .int .i64 r, tv], .int .i64 (k : Int)] w fun e w' => ∃ v, e = .returned v ∧ Byts w' v (prn ⟨a, b, c, d, s, l, o, m, mn, bt, r, ts⟩ k) ∧ Below w.heap.size w w' := by
  rcases chan_ways k with rfl | rfl | rfl | rfl | rfl | rfl | rfl | rfl | ⟨i, rfl⟩
  · by_cases h : ((a && b) || (c && d)) = false
    · rw [show prn ⟨a, b, c, d, s, l, o, m, mn, bt, r, ts⟩ 0 = [byteOf (lay1 [a, b, c, d])] from if_pos h]
      exact (print_bar_yes a b c d s l o m mn bt r tv w h).mono fun e w' ⟨g, he, hy, _, hb⟩ => ⟨_, he, hy, hb⟩
    · rw [show prn ⟨a, b, c, d, s, l, o, m, mn, bt, r, ts⟩ 0 = [] from if_neg h]
      exact (print_bar_no a b c d s l o m mn bt r tv w (by revert h; cases ((a && b) || (c && d)) <;> simp)).mono fun e w' ⟨he, hb⟩ => ⟨_, he, byts_nil _, hb⟩
  · exact (print_lamps a b c d s l o m mn bt r tv w).mono fun e w' ⟨g, he, hy, _, hb⟩ => ⟨_, he, hy, hb⟩
  · exact (print_obst a b c d s l o m mn bt r tv w).mono fun e w' ⟨g, he, hy, _, hb⟩ => ⟨_, he, hy, hb⟩
  · by_cases h : 0 ≤ m ∧ m < 3
    · rw [show prn ⟨a, b, c, d, s, l, o, m, mn, bt, r, ts⟩ 3 = [byteOf m] from if_pos h]
      exact (print_mode_yes a b c d s l o m mn bt r tv w h).mono fun e w' ⟨g, he, hy, _, hb⟩ => ⟨_, he, hy, hb⟩
    · rw [show prn ⟨a, b, c, d, s, l, o, m, mn, bt, r, ts⟩ 3 = [] from if_neg h]
      exact (print_mode_no a b c d s l o m mn bt r tv w h).mono fun e w' ⟨he, hb⟩ => ⟨_, he, byts_nil _, hb⟩
  · exact (print_power a b c d s l o m mn bt r tv w).mono fun e w' ⟨g, he, hy, _, hb⟩ => ⟨_, he, hy, hb⟩
  · by_cases h : 0 ≤ r ∧ r < 256
    · rw [show prn ⟨a, b, c, d, s, l, o, m, mn, bt, r, ts⟩ 5 = [byteOf r] from if_pos h]
      exact (print_routes_yes a b c d s l o m mn bt r tv w h).mono fun e w' ⟨g, he, hy, _, hb⟩ => ⟨_, he, hy, hb⟩
    · rw [show prn ⟨a, b, c, d, s, l, o, m, mn, bt, r, ts⟩ 5 = [] from if_neg h]
      exact (print_routes_no a b c d s l o m mn bt r tv w h).mono fun e w' ⟨he, hb⟩ => ⟨_, he, byts_nil _, hb⟩
  · exact (print_six a b c d s l o m mn bt r tv w 6 (.inl rfl)).mono fun e w' ⟨he, hb⟩ => ⟨_, he, byts_nil _, hb⟩
  · exact (print_six a b c d s l o m mn bt r tv w 7 (.inr rfl)).mono fun e w' ⟨he, hb⟩ => ⟨_, he, byts_nil _, hb⟩
  · obtain ⟨y, hy⟩ : ∃ y, ts[i]? = some y := ⟨_, List.getElem?_eq_getElem (by omega)⟩
    rcases prn_track (D := ⟨a, b, c, d, s, l, o, m, mn, bt, r, ts⟩) hy with ⟨h1, h2⟩ | ⟨h1, h2⟩
    · rw [h2]
      exact (print_track_yes a b c d s l o m mn bt r tv w ts _ i y hv (by simp; omega) (by omega) hy h1).mono fun e w' ⟨g, he, hy, _, hb⟩ => ⟨_, he, hy, hb⟩
    · rw [h2]
      exact (print_track_no a b c d s l o m mn bt r tv w ts _ i y hv (by simp; omega) (by omega) hy h1).mono fun e w' ⟨he, hb⟩ => ⟨_, he, byts_nil _, hb⟩

/-- The telegrams of the first K channels that were printed, all of the number q. -/
def tel (P : Nat → List (BitVec 8)) (q : BitVec 8) : Nat → List (List (BitVec 8))
  | 0 => []
  | k + 1 => tel P q k ++ if (P k).length = 0 then [] else [sealed (frm (BitVec.ofNat 8 k) q (P k))]
theorem tel_no {P : Nat → List (BitVec 8)} {q : BitVec 8} {k : Nat} (h : (P k).length = 0) : tel P q (k + 1) = tel P q k := by
  show tel P q k ++ _ = _
  rw [if_pos h, List.append_nil]
theorem tel_yes {P : Nat → List (BitVec 8)} {q : BitVec 8} {k : Nat} (h : ¬ (P k).length = 0) : tel P q (k + 1) = tel P q k ++ [sealed (frm (BitVec.ofNat 8 k) q (P k))] := by
  show tel P q k ++ _ = _
  rw [if_neg h]
theorem tel_len (P : Nat → List (BitVec 8)) (q : BitVec 8) (k d : Nat) : (tel P q (k + d)).length ≤ (tel P q k).length + d := by
  induction d with
  | zero => exact Nat.le_refl _
  | succ d ih =>
    by_cases h : (P (k + d)).length = 0
    · rw [← Nat.add_assoc, tel_no h]; omega
    · rw [← Nat.add_assoc, tel_yes h, List.length_append, List.length_singleton]; omega
/-- All are printed but 6 and 7, if there are so many telegrams. -/
theorem tel_full {P : Nat → List (BitVec 8)} {q : BitVec 8} {t : Nat} (h6 : (P 6).length = 0) (h7 : (P 7).length = 0) (h : 6 + t ≤ (tel P q (8 + t)).length) (k : Nat) (hk : k < 8 + t) (h8 : k ≠ 6 ∧ k ≠ 7) : ¬ (P k).length = 0 := by
  intro h0
  have e1 := tel_no (q := q) h0
  have e6 := tel_no (q := q) h6
  have e7 := tel_no (q := q) h7
  have a0 := tel_len P q 0 k
  have z0 : (tel P q 0).length = 0 := rfl
  rw [Nat.zero_add] at a0
  by_cases hk6 : k < 6
  · have a1 := tel_len P q (k + 1) (6 - (k + 1))
    have a2 := tel_len P q 8 t
    rw [show k + 1 + (6 - (k + 1)) = 6 by omega] at a1
    rw [e1] at a1
    rw [e7, e6] at a2
    omega
  · have a3 := tel_len P q 0 6
    have a1 := tel_len P q 8 (k - 8)
    have a2 := tel_len P q (k + 1) (8 + t - (k + 1))
    rw [show 8 + (k - 8) = k by omega, e7, e6] at a1
    rw [show k + 1 + (8 + t - (k + 1)) = 8 + t by omega, e1] at a2
    rw [Nat.zero_add] at a3
    omega
/-- The channels that took them. -/
def chf (P : Nat → List (BitVec 8)) (q : BitVec 8) (K : Nat) : Nat → Ch := fun k => if k < K ∧ ¬ (P k).length = 0 then ⟨true, (q.toNat : Int), 0, P k⟩ else noCh
theorem tks_app (F : Nat) (s : (Nat → Ch) × Nat) (l l' : List (List (BitVec 8))) : tks F s (l ++ l') = tks F (tks F s l) l' := by unfold tks; rw [List.foldl_append]
theorem tks_tel (F : Nat) (P : Nat → List (BitVec 8)) (q : BitVec 8) (hP : ∀ k, (P k).length ≤ 16) (K : Nat) (hK : K ≤ 16) : tks F (fun _ => noCh, 0) (tel P q K) = (chf P q K, (tel P q K).length) := by
  induction K with
  | zero =>
    show (fun _ => noCh, 0) = (chf P q 0, 0)
    have : chf P q 0 = fun _ => noCh := by funext k; unfold chf; rw [if_neg (by omega)]
    rw [this]
  | succ K ih =>
    have ih := ih (by omega)
    by_cases h : (P K).length = 0
    · rw [tel_no h, ih]
      have : chf P q (K + 1) = chf P q K := by
        funext k
        unfold chf
        by_cases e : k = K
        · subst e; rw [if_neg (fun hh => hh.2 h), if_neg (fun hh => hh.2 h)]
        · by_cases h2 : k < K ∧ ¬ (P k).length = 0
          · rw [if_pos h2, if_pos ⟨by omega, h2.2⟩]
          · rw [if_neg h2, if_neg (fun hh => h2 ⟨by omega, hh.2⟩)]
      rw [this]
    · have hk : (BitVec.ofNat 8 K).toNat = K := by simp; omega
      obtain ⟨i1, i2⟩ := icode_yes (F := F) (f := chf P q K) (dcd_sealed (BitVec.ofNat 8 K) q (P K) (by omega) (hP K))
      have hq := q.isLt
      have hs : isF F (chf P q K K) = false := by unfold chf; rw [if_neg (by omega)]; rfl
      have hc : tcode F (chf P q K) ((BitVec.ofNat 8 K).toNat : Int) (q.toNat : Int) (P K).length = 0 := by
        unfold tcode
        have hf : Fit ((BitVec.ofNat 8 K).toNat : Int) (q.toNat : Int) (P K).length := ⟨by omega, by omega, by omega, by omega, hP K⟩
        rw [if_neg (by simpa using hf), if_neg]
        rintro ⟨h1, _⟩
        rw [hk, Int.toNat_natCast, hs] at h1
        cases h1
      rw [hc] at i1
      rw [tel_yes h, tks_app, ih]
      show (itaken F (chf P q K) _, if icode F (chf P q K) _ = 0 then _ else _) = _
      rw [i1, i2, if_pos rfl, List.length_append, List.length_singleton]
      have : taken F (chf P q K) ((BitVec.ofNat 8 K).toNat : Int) (q.toNat : Int) (P K) = chf P q (K + 1) := by
        unfold taken
        rw [if_pos hc, hk, Int.toNat_natCast]
        funext k
        by_cases e : k = K
        · subst e; rw [upd_same]; unfold chf; rw [if_pos ⟨by omega, h⟩]
        · rw [upd_other _ _ _ e]
          unfold chf
          by_cases h2 : k < K ∧ ¬ (P k).length = 0
          · rw [if_pos h2, if_pos ⟨by omega, h2.2⟩]
          · rw [if_neg h2, if_neg (fun hh => h2 ⟨by omega, hh.2⟩)]
      rw [this]
theorem stp_tel (F : Nat) (P : Nat → List (BitVec 8)) (q : BitVec 8) (hP : ∀ k, (P k).length ≤ 16) (K : Nat) (hK : K ≤ 16) : stp14 F (fun _ => noCh) (tel P q K) = (chf P q K, (tel P q K).length) := by
  unfold stp14
  rw [older_none F]
  exact tks_tel F P q hP K hK

/-! ### Rows of bytes that a law appends to -/
/-- The slice v owns the rows ls, at a block from B on; their bytes lie in other blocks, behind b. -/
def OwnR (b B : Nat) (w : World) (v : Value) (ls : List (List (BitVec 8))) : Prop :=
  ∃ vs : List Value, w.ownsRow B 44 1 v ls.length vs ∧ vs.length = ls.length ∧ ∀ (j : Nat) y, ls[j]? = some y → ∃ a c, vs[j]? = some (.slice a y.length c) ∧ Byts w (.slice a y.length c) y ∧ y.length ≤ 140737488351232 ∧ ∀ p, a = some p → y.length = 0 ∨ (b < p.block ∧ v.ownBlock ≠ some p.block ∧ p.block < w.heap.size)
theorem ownR_nil (b B : Nat) (w : World) : OwnR b B w (.slice none 0 0) [] := ⟨[], World.ownsRow_nil w B 44 1, rfl, fun j y h => by cases h⟩
variable {b B : Nat} {w w2 : World} {v : Value} {ls : List (List (BitVec 8))}
theorem OwnR.below (h : OwnR b B w v ls) (hb : Below w.heap.size w w2) : OwnR b B w2 v ls := by
  obtain ⟨vs, h1, h2, h3⟩ := h
  refine ⟨vs, ⟨h1.1, ?_⟩, h2, fun j y hy => ?_⟩
  · rcases h1.2 with h4 | ⟨g, cap, cur, rfl, hB, hg, rest⟩
    · exact .inl h4
    · exact .inr ⟨g, cap, cur, rfl, hB, (hb.block g (lt_of_block hg)).trans hg, rest⟩
  · obtain ⟨a, c, k1, k2, k3, k4⟩ := h3 j y hy
    exact ⟨a, c, k1, k2.below hb, k3, fun p hp => (k4 p hp).imp id fun ⟨x1, x2, x3⟩ => ⟨x1, x2, by have := hb.size; omega⟩⟩
theorem OwnR.keep {G : Nat → Prop} (h : OwnR b B w v ls) (hk : Keep G w w2) (hG : ∀ g, G g → g ≤ b) (hB : b < B) : OwnR b B w2 v ls := by
  obtain ⟨vs, h1, h2, h3⟩ := h
  refine ⟨vs, ⟨h1.1, ?_⟩, h2, fun j y hy => ?_⟩
  · rcases h1.2 with h4 | ⟨g, cap, cur, rfl, hBg, hg, rest⟩
    · exact .inl h4
    · exact .inr ⟨g, cap, cur, rfl, hBg, (hk.block g (lt_of_block hg) (fun hh => by have := hG g hh; omega)).trans hg, rest⟩
  · obtain ⟨a, c, k1, k2, k3, k4⟩ := h3 j y hy
    exact ⟨a, c, k1, k2.keep hk (fun p n c e => by cases e; exact (k4 p rfl).imp id fun ⟨x1, _, _⟩ hh => by have := hG _ hh; omega), k3, fun p hp => (k4 p hp).imp id fun ⟨x1, x2, x3⟩ => ⟨x1, x2, by have := hk.size; omega⟩⟩
theorem OwnR.rws {b0 : Nat} (h : OwnR b B w v ls) (hB : b < B) (hb : b0 ≤ b) : Rws b0 w v ls := by
  obtain ⟨vs, h1, h2, h3⟩ := h
  have h1' := h1
  rcases h1.2 with ⟨rfl, hn⟩ | ⟨g, cap, cur, rfl, hBg, hg, _⟩
  · obtain rfl := List.length_eq_zero_iff.1 hn
    exact ⟨none, 0, rfl, fun j y hy => by cases hy⟩
  · refine ⟨_, cap, rfl, fun j y hy => ⟨g, 0, rfl, by omega, ?_⟩⟩
    obtain ⟨a, c, k1, k2, k3, k4⟩ := h3 j y hy
    have hj : j < vs.length := (List.getElem?_eq_some_iff.1 k1).1
    refine ⟨a, c, ?_, k2, fun p hp => (k4 p hp).imp id fun ⟨x1, _, _⟩ => by omega, k3⟩
    rw [Nat.zero_add, World.ownsRow.cellAt h1' _ (by omega)]
    exact k1
theorem infoR : (Tryd.prog.info? 44).map (fun i => (i.zero, i.size, i.bytes)) = some (some (.slice none 0 0), 1, 24) := by kernel_rfl
/-- One row behind others. -/
theorem wpList_appR {ops : Array Oper} {rest : List Oper} {o : Oper} {a : Act} {Q : Exit → Act → World → Prop} (hgd : o.guard = none) (s x : Operand)
    (ho : o.op = .call { callee := .builtin .append, args := #[s, x], argTypes := #[30, 30] })
    (b B : Nat) (v : Value) (n : Nat) (ls : List (List (BitVec 8))) (hs : a.eval s = v) (hn : n = ls.length) (hown : OwnR b B w v ls) (g0 : Nat) (hx : a.eval x = .slice (some ⟨g0, 0, none⟩) 1 1) (y : List (BitVec 8)) (ay : Option Addr) (m cy : Nat) (hm : m = y.length)
    (hu : w.cell? ⟨g0, 0, none⟩ = some (.slice ay m cy)) (hy : Byts w (.slice ay m cy) y) (hyl : y.length ≤ 140737488351232) (hyb : ∀ p, ay = some p → y.length = 0 ∨ (b < p.block ∧ v.ownBlock ≠ some p.block ∧ p.block < w.heap.size)) (hl : n + 1 ≤ 1000000) (hB : B ≤ w.heap.size)
    (h : ∀ g cap w', OwnR b B w' (.slice (some ⟨g, 0, none⟩) (n + 1) cap) (ls ++ [y]) → Below B w w' → wpList Tryd.prog ops Q rest (a.put o.dst (.slice (some ⟨g, 0, none⟩) (n + 1) cap)) w') : wpList Tryd.prog ops Q (o :: rest) a w := by
  obtain ⟨vs, h1, h2, h3⟩ := hown
  obtain ⟨i0, hi, hz0, hz1, hz2⟩ := info_parts infoR
  subst hn hm
  refine wpList_append_lies w hgd s x 30 ho B 44 i0 (.slice none 0 0) 1 24 Tryd.underlying30 hi hz0 hz1 hz2 rfl (by decide) v ls.length vs hs h1
    ⟨g0, 0, none⟩ 1 1 [.slice ay y.length cy] hx rfl (fun j u hj => ?_) (fun u hu => by rw [List.mem_singleton.1 hu]; rfl) (by decide) (by unfold maxLen; omega) (by omega) hB _ rfl (fun g cap w' k1 k2 k3 _ => h g cap w' ?_ ((Below.refl B w).grown k2 hB fun k hk => (World.ownsRow.lt h1 k hk).1))
  · rcases j with _ | j
    · cases hj; rw [plain_add]; exact hu
    · cases hj
  · have K : Keep (fun z => v.ownBlock = some z) w w' := Keep.grown k2 fun z hz => hz
    have hg2 : ∀ p : Nat, v.ownBlock ≠ some p → p < w.heap.size → (Value.slice (some ⟨g, 0, none⟩) (ls.length + 1) cap).ownBlock ≠ some p := by
      intro p hp hlt he
      have he : g = p := by simpa [Value.ownBlock] using he
      subst he
      rcases k3 with k3 | k3
      · exact hp k3
      · omega
    refine ⟨vs ++ [.slice ay y.length cy], by rw [List.length_append]; exact k1, by simp [h2], fun j z hz => ?_⟩
    rcases Nat.lt_or_ge j ls.length with hj | hj
    · rw [List.getElem?_append_left hj] at hz
      obtain ⟨a', c', e1, e2, e3, e4⟩ := h3 j z hz
      refine ⟨a', c', by rw [List.getElem?_append_left (by omega)]; exact e1, e2.keep K (fun p n c e => by cases e; exact (e4 p rfl).imp id fun ⟨_, x2, _⟩ => x2), e3, fun p hp => (e4 p hp).imp id fun ⟨x1, x2, x3⟩ => ⟨x1, hg2 _ x2 x3, by have := K.size; omega⟩⟩
    · rw [List.getElem?_append_right hj] at hz
      obtain ⟨j', hj'⟩ : ∃ j', j - ls.length = j' := ⟨_, rfl⟩
      rw [hj'] at hz
      rcases j' with _ | j'
      · cases hz
        refine ⟨ay, cy, by rw [List.getElem?_append_right (by omega), h2, hj']; rfl, hy.keep K (fun p n c e => by cases e; exact (hyb p rfl).imp id fun ⟨_, x2, _⟩ => x2), hyl, fun p hp => (hyb p hp).imp id fun ⟨x1, x2, x3⟩ => ⟨x1, hg2 _ x2 x3, by have := K.size; omega⟩⟩
      · cases hz
end Go.Proofs.YtolfdfbhignniaaDoor
/-
  What channels tell that were told all of some inputs.
-/
namespace Go.Proofs.YtolfdfbhignniaaDoor
open Go.RowKit

theorem lay_pow (p q : Bool) : bt (onl (lay1 [p, q]) 4) 1 = p ∧ bt (onl (lay1 [p, q]) 4) 2 = q := by cases p <;> cases q <;> decide
theorem lay_lamp (p : Bool) : decide (lay1 [p] = 1) = p ∧ decide (lay1 [p] ≠ 0) = p := by cases p <;> decide
theorem bar_fine {a b c d : Bool} (h : ((a && b) || (c && d)) = false) : barIs (lay1 [a, b, c, d]) a b c d := by
  have h1 := bar_lay a b c d
  revert h h1
  cases a <;> cases b <;> cases c <;> cases d <;> simp
theorem lay_byte (bs : List Bool) (h : bs.length ≤ 4) : sone true [byteOf (lay1 bs)] = lay1 bs := by
  have := lay1_range bs h
  exact sone_byte this.1 (by omega)
/-- Of a row of channels that were told all but 6 and 7, n ticks ago at most F. -/
theorem tells_full {D : Dat} {F t n : Nat} {q : BitVec 8} {f : Nat → Ch} (ht : D.ts.length = t) (ht8 : t ≤ 8) (hn : n ≤ F) (hf : ∀ k, k < 8 + t → k ≠ 6 ∧ k ≠ 7 → ¬ (prn D k).length = 0 ∧ f k = ⟨true, (q.toNat : Int), n, prn D k⟩) (hr : D.r / 2 ^ t = 0) :
    tells F t f = { D with s := decide (n = 0) } := by
  obtain ⟨a, b, c, d, s, l, o, m, mn, ba, r, ts⟩ := D
  simp only at ht hr
  have hi : ∀ k, k < 8 + t → k ≠ 6 ∧ k ≠ 7 → isF F (f k) = true ∧ (f k).xs = prn ⟨a, b, c, d, s, l, o, m, mn, ba, r, ts⟩ k := fun k hk h67 => by
    rw [(hf k hk h67).2]
    exact ⟨isF_iff.2 ⟨rfl, hn⟩, rfl⟩
  have hsy : ∀ k, k < 8 + t → k ≠ 6 ∧ k ≠ 7 → sy F f k = sone true (prn ⟨a, b, c, d, s, l, o, m, mn, ba, r, ts⟩ k) := fun k hk h67 => by
    unfold sy
    rw [(hi k hk h67).1, (hi k hk h67).2]
  have h0 : ((a && b) || (c && d)) = false := by
    have := (hf 0 (by omega) (by omega)).1
    cases h : ((a && b) || (c && d)) with
    | false => rfl
    | true => exact absurd (show (prn ⟨a, b, c, d, s, l, o, m, mn, ba, r, ts⟩ 0).length = 0 by rw [show prn ⟨a, b, c, d, s, l, o, m, mn, ba, r, ts⟩ 0 = [] from if_neg (by rw [h]; decide)]; rfl) this
  have h3 : 0 ≤ m ∧ m < 3 := by
    have := (hf 3 (by omega) (by omega)).1
    apply Classical.byContradiction
    intro h
    exact this (by rw [show prn ⟨a, b, c, d, s, l, o, m, mn, ba, r, ts⟩ 3 = [] from if_neg h]; rfl)
  have h5 : 0 ≤ r ∧ r < 256 := by
    have := (hf 5 (by omega) (by omega)).1
    apply Classical.byContradiction
    intro h
    exact this (by rw [show prn ⟨a, b, c, d, s, l, o, m, mn, ba, r, ts⟩ 5 = [] from if_neg h]; rfl)
  have e0 : sy F f 0 = lay1 [a, b, c, d] := by rw [hsy 0 (by omega) (by omega), show prn ⟨a, b, c, d, s, l, o, m, mn, ba, r, ts⟩ 0 = [byteOf (lay1 [a, b, c, d])] from if_pos h0]; exact lay_byte _ (by simp)
  have e1 : sy F f 1 = lay1 [l] := by rw [hsy 1 (by omega) (by omega)]; exact lay_byte _ (by simp)
  have e2 : sy F f 2 = lay1 [o] := by rw [hsy 2 (by omega) (by omega)]; exact lay_byte _ (by simp)
  have e3 : sy F f 3 = m := by rw [hsy 3 (by omega) (by omega), show prn ⟨a, b, c, d, s, l, o, m, mn, ba, r, ts⟩ 3 = [byteOf m] from if_pos h3]; exact sone_byte h3.1 (by omega)
  have e4 : sy F f 4 = lay1 [mn, ba] := by rw [hsy 4 (by omega) (by omega)]; exact lay_byte _ (by simp)
  have e5 : sy F f 5 = r := by rw [hsy 5 (by omega) (by omega), show prn ⟨a, b, c, d, s, l, o, m, mn, ba, r, ts⟩ 5 = [byteOf r] from if_pos h5]; exact sone_byte h5.1 (by omega)
  have hlim : r < rlim (t : Int) := by
    have hp : (0 : Int) < 2 ^ t := Int.pow_pos (by decide)
    have h1 : r < 2 ^ t := by
      have := Int.lt_ediv_add_one_mul_self r hp
      rw [hr] at this
      simpa using this
    rcases rlim_ways (t : Int) with ⟨h, _⟩ | ⟨h, e⟩ | ⟨h, e⟩ | ⟨h, e⟩ | ⟨h, e⟩ | ⟨h, e⟩ | ⟨h, e⟩ | ⟨h, e⟩ | ⟨h, e⟩ | ⟨h, e⟩ | ⟨h, _⟩
    · omega
    all_goals first
      | omega
      | (rw [e]
         obtain ⟨u, hu⟩ : ∃ u, t = u := ⟨_, rfl⟩
         have : t = ((t : Int)).toNat := by simp
         rw [this, h] at h1
         simpa using h1)
  obtain ⟨b0, b1, b2, b3⟩ := bar_fine h0
  have ets : (List.range t).map (fun i => cntOf (isF F (f (8 + i))) (f (8 + i)).xs) = ts := by
    refine List.ext_getElem (by simp [ht]) fun i i1 i2 => ?_
    simp only [List.getElem_map, List.getElem_range]
    have hit : i < t := by rw [← ht]; exact i2
    rw [(hi (8 + i) (by omega) (by omega)).1, (hi (8 + i) (by omega) (by omega)).2]
    have hy : ts[i]? = some ts[i] := List.getElem?_eq_getElem i2
    have hne := (hf (8 + i) (by omega) (by omega)).1
    rw [Nat.add_comm] at hne ⊢
    rcases prn_track (D := ⟨a, b, c, d, s, l, o, m, mn, ba, r, ts⟩) hy with ⟨h1, h2⟩ | ⟨h1, h2⟩
    · rw [h2]; exact h1
    · exact absurd (by rw [h2]; rfl) hne
  unfold tells
  rw [e0, e1, e2, e3, e4, e5, ets, (hf 0 (by omega) (by omega)).2]
  simp only [Dat.mk.injEq]
  refine ⟨b0, b1, b2, b3, by simp, (lay_lamp l).1, (lay_lamp o).2, if_pos h3, (lay_pow mn ba).1, (lay_pow mn ba).2, if_pos ⟨h5.1, hlim⟩, trivial⟩
theorem chf_at {P : Nat → List (BitVec 8)} {q : BitVec 8} {K k : Nat} (hk : k < K) (h : ¬ (P k).length = 0) : chf P q K k = ⟨true, (q.toNat : Int), 0, P k⟩ := if_pos ⟨hk, h⟩
theorem OwnR.lt {b B : Nat} {w : World} {v : Value} {ls : List (List (BitVec 8))} (h : OwnR b B w v ls) {g : Nat} (hg : v.ownBlock = some g) : B ≤ g ∧ g < w.heap.size := by
  obtain ⟨vs, h1, _⟩ := h
  exact World.ownsRow.lt h1 g hg
/-- Channels that say nothing, and a store into another block. -/
theorem ln_bare {w wr : World} {b F g : Nat} {f : Nat → Ch} (h : Ln w wr b F f) (hx : ∀ k, k < 16 → (f k).xs = []) (hg : g ≠ b) (hw : w.heap.size ≤ g) (o : Nat) (u : Value) : Ln w (wr.setCell ⟨g, o, none⟩ u) b F f := by
  obtain ⟨v, D, h1, h2, h3, h4⟩ := h
  have h5 : Lk true wr 98 b F f v (fun _ => False) := ⟨h1.row, h1.ok, h1.sl, h1.dat, fun k hk a n c e => by
    have := h1.dat k hk (.inl rfl)
    rw [hx k hk, e] at this
    obtain ⟨a', c', e'⟩ := this.len
    cases e'
    exact .inl rfl, fun g hg => hg.elim, h1.F1⟩
  have K : Keep (fun z => z = g) wr (wr.setCell ⟨g, o, none⟩ u) := (Keep.refl _ wr).store g o u rfl
  exact ⟨v, _, h5.keep K (fun e => hg e.symm) (fun _ h => h.elim), bel_set h2 hw o u, h3, fun _ h => h.elim⟩
theorem ln_ne {w wr : World} {b F g : Nat} {f : Nat → Ch} {C : Array Value} {T : TypeId} (h : Ln w wr b F f) (hB : Blk wr g C T) (hC : C.size ≠ 65) : g ≠ b := by
  rintro rfl
  obtain ⟨v, D, h1, _⟩ := h
  obtain ⟨c, k1, k2, _⟩ := h1.row
  unfold Blk at hB
  rw [hB] at k1
  cases k1
  exact hC k2
theorem blk_ne {w : World} {g g' : Nat} {C C' : Array Value} {T T' : TypeId} (h : Blk w g C T) (h' : Blk w g' C' T') (hC : C.size ≠ C'.size) : g ≠ g' := by
  rintro rfl
  unfold Blk at h h'
  rw [h] at h'
  cases h'
  exact hC rfl
end Go.Proofs.YtolfdfbhignniaaDoor
