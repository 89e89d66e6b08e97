/-
  The document's own Notes, by contract.
-/
import Derived.Test.YtecfobmmbdmdgaaBkRone
import Derived.Test.YtecfobmmbdmdgaaBkNote
import Derived.BigQuiet
import Derived.Deep.QuietTactic
namespace Go.Proofs.Ytecfobmmbdmdgaa
open Go.RowKit

theorem bel_alloc_ {w w1 : World} (h : Below w.heap.size w w1) (o : Obj) : Below w.heap.size w (w1.alloc o) := below_alloc h o
theorem blk_ne_ {w : World} {g c : Nat} {C D : Array Value} (h : w.heap[g]? = some (.cells C 5 (0, 0))) (k : Blk w c D 33) : g ≠ c := by
  intro e
  subst e
  unfold Blk at k
  rw [h] at k
  simp at k

/-- Where the row goes on behind the notes so far. -/
def Goes (xs : List (BitVec 8)) (pre : List NV) (a : Nat) (c : Option Nt) : Prop :=
  bnotes xs = pre.map NV.nt ++ brest xs c ∧ ((pre = [] ∧ a = 0 ∧ c = brec xs 0) ∨ ∃ p y, pre = p ++ [y] ∧ a = y.e ∧ y.s < 4294967296 ∧ c = bnxt xs y.nt)
/-- Between two rounds. -/
def RInv (w : World) (xs : List (BitVec 8)) (pre : List NV) (out : Value) (a : Nat) (wr : World) : Prop :=
  a ≤ xs.length ∧ OwnN wr w.heap.size out pre ∧ Dat wr w.heap.size pre ∧ Below w.heap.size w wr ∧ ∃ c, Goes xs pre a c
theorem Goes.len {xs : List (BitVec 8)} {pre : List NV} {a : Nat} {c : Option Nt} (h : Goes xs pre a c) : pre.length ≤ xs.length + 1 := by
  have h1 := bnotes_len xs
  rw [h.1] at h1
  simp at h1
  omega
/-- The row is at its end. -/
theorem Goes.fin {xs : List (BitVec 8)} {pre : List NV} {a : Nat} {c : Option Nt} (h : Goes xs pre a c) (hc : c = none) : pre.map NV.nt = bnotes xs := by
  rw [h.1, hc, brest_none, List.append_nil]
theorem brec_of {xs : List (BitVec 8)} {a s z : Nat} {d : List (BitVec 8)} (h : bone (xs.drop a) = some (s, d, z)) : brec xs a = some ⟨s, d, a + z⟩ := by
  unfold brec
  rw [h]
theorem brec_of_none {xs : List (BitVec 8)} {a : Nat} (h : bone (xs.drop a) = none) : brec xs a = none := by
  unfold brec
  rw [h]
theorem bnxt_of_none {xs : List (BitVec 8)} {n : Nt} (h : brec xs n.e = none) : bnxt xs n = none := by
  unfold bnxt
  split
  · rfl
  · rw [h]
theorem bnxt_last {xs : List (BitVec 8)} {n : Nt} (h : n.s = 4294967295) : bnxt xs n = none := by
  unfold bnxt
  rw [if_pos h]
theorem bnxt_other {xs : List (BitVec 8)} {n m : Nt} (h : brec xs n.e = some m) (hs : m.s ≠ n.s + 1) : bnxt xs n = none := by
  unfold bnxt
  split
  · rfl
  · rw [h]
    simp [hs]
theorem bnxt_on {xs : List (BitVec 8)} {n m : Nt} (h : brec xs n.e = some m) (h0 : n.s ≠ 4294967295) (hs : m.s = n.s + 1) : bnxt xs n = some m := by
  unfold bnxt
  rw [if_neg h0, h]
  simp [hs]
theorem Goes.gone {xs : List (BitVec 8)} {pre : List NV} {a : Nat} {c : Option Nt} (h : Goes xs pre a c) (hb : bone (xs.drop a) = none) : c = none := by
  rcases h.2 with ⟨_, rfl, rfl⟩ | ⟨p, y, _, rfl, _, rfl⟩
  · exact brec_of_none hb
  · exact bnxt_of_none (brec_of_none hb)
theorem Goes.on {xs : List (BitVec 8)} {pre : List NV} {a : Nat} {x : NV} {z : Nat} (h : Goes xs pre a (some x.nt)) (_ : x.e = a + z) (hs : x.s < 4294967296) (hle : x.e ≤ xs.length) : Goes xs (pre ++ [x]) x.e (bnxt xs x.nt) := by
  refine ⟨?_, .inr ⟨pre, x, rfl, rfl, hs, rfl⟩⟩
  rw [h.1, brest_some xs x.nt hle]
  simp
/-- A round that goes on: the world behind the append. -/
theorem RInv.on {w W W1 : World} {xs : List (BitVec 8)} {pre : List NV} {a : Nat} {x : NV} {r v' : Value} {z : Nat} {o : Obj} {lo : Nat} (hg : Goes xs pre a (some x.nt)) (hxe : x.e = a + z) (hs : x.s < 4294967296) (hle : x.e ≤ xs.length)
    (h2 : OwnN W w.heap.size r pre) (h3 : Dat W w.heap.size pre) (h5 : Below w.heap.size w W) (hx : Own W lo x.v x.d) (hlo : w.heap.size ≤ lo) (hpre : ∀ y ∈ pre, y.g < lo)
    (hown : OwnN W1 w.heap.size v' (pre ++ [x])) (hgr : (W.alloc o).grownBy W1 r.ownBlock) : RInv w xs (pre ++ [x]) v' x.e W1 := by
  have hka : Keep (fun k => r.ownBlock = some k) W (W.alloc o) := Keep.of_below (below_alloc (Below.refl _ W) o)
  have hk1 : Keep (fun k => r.ownBlock = some k) W W1 := hka.trans (Keep.grown hgr fun g hg => hg) fun g hg => .inl hg
  have hrow : ∀ g, r.ownBlock = some g → w.heap.size ≤ g := fun g hg => (World.ownsRow.lt h2 g hg).1
  have hxd : Own W1 lo x.v x.d := hx.keepB hk1 fun g hg hr => by
    simp only [NV.v, Value.ownBlock, Option.some.injEq] at hg
    obtain ⟨C, hC, _⟩ := NV.own_block hx
    rcases h2.2 with ⟨rfl, _⟩ | ⟨g', cap, cur, rfl, _, hgb, _⟩
    · cases hr
    · simp [Value.ownBlock] at hr
      rw [hr, ← hg, hC] at hgb
      simp at hgb
  have hxl := (NV.own_block hx).choose_spec.2
  exact ⟨hle, hown, (h3.keep hk1 fun y hy hg => h3.ne h2 hy _ hg rfl).snoc (hxd.mono hlo) fun y hy => Nat.lt_of_lt_of_le (hpre y hy) hxl, below_keep h5 hk1 hrow, _, hg.on hxe hs hle⟩

set_option maxRecDepth 10000 in
set_option maxHeartbeats 8000000 in
theorem rnotes_any (v : Value) (xs : List (BitVec 8)) (w : World) (hv : Byts w v xs) (hl : xs.length ≤ 100000) :
    Calls Try.prog 15 #[v] w fun e w' => ∃ r ys, e = .returned r ∧ ys.map NV.nt = bnotes xs ∧ OwnN w' w.heap.size r ys ∧ Dat w' w.heap.size ys ∧ Below w.heap.size w w' := by
  have HV := Lib.hid hv
  obtain ⟨av, cv, ev⟩ := hv.len
  clear hv
  subst ev
  go_enter Try.func15, Try.ntmps15
  go_wp2_with fail
  go_loopw [3, 4] (fun out at_ wr => ∃ pre a, at_ = .int .i64 (a : Nat) ∧ RInv w xs pre out a wr) (fun _ at_ _ => xs.length - (intOf at_).toNat)
  case atStart => exact ⟨[], 0, rfl, by omega, ownN_nil _ _, Dat.nil _ _, Below.refl _ _, _, rfl, .inl ⟨rfl, rfl, rfl⟩⟩
  case round =>
    obtain ⟨pre, a, rfl, ha, hrow, hdat, hbel, c, hgo⟩ := hrel
    obtain ⟨v1, hrun1, hv1, _⟩ := cutR (HV.out.below hbel) a ha
    have HV1 := Lib.hid hv1
    have hkl := hgo.len
    cases hb : bone (xs.drop a) with
    | none =>
      obtain ⟨ra, rc, er⟩ := hrow.len
      subst er
      have HR := Lib.hid (rone_no v1 _ wr hv1 (by simp; omega) hb)
      have HN := Lib.hid (hgo.fin (hgo.gone hb))
      have HROW := Lib.hid hrow
      have HDAT := Lib.hid hdat
      have HBEL := Lib.hid hbel
      clear hv1 hb hgo hrow hdat hbel
      go_wp2_with fail
      (with_reducible refine HR.out.mono ?_)
      rintro e w1 ⟨rfl, hb⟩
      have HB1 := Lib.hid (bel_alloc_ hb (.cells #[.int .u32 0, .slice none 0 0, .int .i64 0] 33))
      clear hb hrun1
      go_wp2_with fail
      go_quiet (fail)
      go_wp2_with fail
      go_ret
      have hbz := below_drewN HB1.out nq
      exact ⟨_, pre, rfl, HN.out, HROW.out.below hbz, HDAT.out.below hbz, below_call HBEL.out hbz⟩
    | some q =>
      obtain ⟨s, d, z⟩ := q
      have hbs := bone_some hb
      have hsl := hbs.2.2.1
      have hz9 : 9 ≤ z := by omega
      have hz48 : z ≤ 48 := by omega
      have hle : a + z ≤ xs.length := by have := hbs.2.2.2.2.1; rw [List.length_drop] at this; omega
      have hd1 := hbs.1
      have HR := Lib.hid (rone_yes v1 _ wr hv1 (by simp; omega) s d z hb)
      have hrec := brec_of hb
      have e7 : IntKind.i64.wrap ((a : Int) + (z : Int)) = ((a + z : Nat) : Int) := by rw [IntWalk.i64_in _ (by omega)]; omega
      have e8 : ((a : Int) + (z : Int)) = ((a + z : Nat) : Int) := by omega
      have bz : ((z : Int) == 0) = false := by simp; omega
      obtain ⟨t, ht⟩ : ∃ t, t = a + z := ⟨_, rfl⟩
      rw [← ht] at e7 e8 hle hrec
      have hta : a < t := by omega
      have HT := Lib.hid ht
      clear hv1 hb hbs ht
      rcases hgo.2 with ⟨rfl, ha0, rfl⟩ | ⟨p, y, rfl, rfl, hys, rfl⟩
      · obtain ⟨ra, rc, er⟩ := hrow.len
        subst er
        have HROW := Lib.hid hrow
        have HDAT := Lib.hid hdat
        have HBEL := Lib.hid hbel
        have HSL := Lib.hid hsl
        have HLE := Lib.hid hle
        have HLO := Lib.hid (show w.heap.size ≤ wr.heap.size + 1 by have := hbel.size; omega)
        have HPRE := Lib.hid (show ∀ u : NV, u ∈ [] → u.g < wr.heap.size + 1 from fun u hu => by have := hdat.lt hu; omega)
        have HG0 := Lib.hid (show Goes xs [] a (some ⟨s, d, t⟩) by rw [← hrec, ha0]; rw [ha0] at hgo; exact hgo)
        clear hgo hrow hdat hbel hrec hsl ha0
        go_wp2_with fail
        (with_reducible refine HR.out.mono ?_)
        rintro e w1 ⟨r1, rfl, hown, hb⟩
        obtain ⟨g, cap, rfl, _, hgB⟩ := hown.form hd1
        have HXO := Lib.hid (show Own (w1.alloc (.cells #[.int .u32 (s : Int), .slice (some ⟨g, 0, none⟩) d.length cap, .int .i64 0] 33)) (wr.heap.size + 1) (NV.v ⟨s, g, cap, d, t⟩) d from hown.below (below_alloc (Below.refl _ w1) _))
        have HB1 := Lib.hid (bel_alloc_ hb (.cells #[.int .u32 (s : Int), .slice (some ⟨g, 0, none⟩) d.length cap, .int .i64 0] 33))
        have HQ := Lib.hid (blk_new w1 #[.int .u32 (s : Int), .slice (some ⟨g, 0, none⟩) d.length cap, .int .i64 0] 33)
        have HSQ := Lib.hid hb.size
        clear hown hb hrun1
        go_wp2_with fail
        generalize w1.alloc (.cells #[.int .u32 (s : Int), .slice (some ⟨g, 0, none⟩) d.length cap, .int .i64 0] 33) = w2 at *
        generalize w1.heap.size = q at *
        obtain ⟨c0, c1, c2⟩ := HQ.out.three
        go_quiet (fail)
        have HGO := Lib.hid (show Goes xs [] a (some (NV.nt ⟨s, g, cap, d, t⟩)) from HG0.out)
        have HB2 := Lib.hid (below_drewN HB1.out nq)
        have HQ2 := Lib.hid (show Blk (w2.drewN nq) q #[.int .u32 (s : Int), .slice (some ⟨g, 0, none⟩) d.length cap, .int .i64 0] 33 from HQ.out)
        have HX2 := Lib.hid (show Own (w2.drewN nq) (wr.heap.size + 1) (NV.v ⟨s, g, cap, d, t⟩) d from HXO.out)
        generalize w2.drewN nq = w3 at *
        clear HQ HXO HB1 c0 c1 c2 
        obtain ⟨c0, c1, c2⟩ := HQ2.out.three
        have f2 := HQ2.out.frz 2
        have hks : Keep (fun k => k = q) w3 (w3.setCell ⟨q, 2, none⟩ (.int .i64 (t : Int))) := Keep.set_ (F := fun k => k = q) w3 q 2 _ rfl
        have HQ3 := Lib.hid ((HQ2.out.set_ 2 (.int .i64 (t : Int))).three)
        have HKW := Lib.hid (show Keep (fun k => k = q) wr (w3.setCell ⟨q, 2, none⟩ (.int .i64 (t : Int))) from (Keep.of_below (F := fun k => k = q) HB2.out).trans hks fun g h => .inl h)
        have HX3 := Lib.hid (HX2.out.keepB hks fun g' hg' hq => by
          simp only [NV.v, Value.ownBlock, Option.some.injEq] at hg'
          obtain ⟨C, hC, _⟩ := NV.own_block HX2.out
          exact blk_ne_ hC HQ2.out (hg'.trans hq))
        have HR3 := Lib.hid (HROW.out.keep HKW.out fun g' hg' hq => by have := (World.ownsRow.lt HROW.out g' hg').2; have := HSQ.out; omega)
        have HD3 := Lib.hid (HDAT.out.keep HKW.out fun y hy hq => by have := HDAT.out.lt hy; have := HSQ.out; omega)
        have HBW := Lib.hid (below_keep HBEL.out HKW.out fun g' hq => by have := HSQ.out; have := HBEL.out.size; omega)
        clear hks HB2 HX2 HROW HBEL
        have hss : (w3.setCell ⟨q, 2, none⟩ (.int .i64 (t : Int))).heap.size = w3.heap.size := by simp [World.setCell]
        have ha := blk_new (w3.setCell ⟨q, 2, none⟩ (.int .i64 (t : Int))) #[.int .u32 (s : Int), .slice (some ⟨g, 0, none⟩) d.length cap, .int .i64 (t : Int)] 33
        rw [hss] at ha
        have HA := Lib.hid ha
        clear ha hss
        have HRA := Lib.hid (HR3.out.below (below_alloc (Below.refl _ _) (.cells #[.int .u32 (s : Int), .slice (some ⟨g, 0, none⟩) d.length cap, .int .i64 (t : Int)] 33)))
        have HSZ := Lib.hid (le_alloc HBW.out.size (.cells #[.int .u32 (s : Int), .slice (some ⟨g, 0, none⟩) d.length cap, .int .i64 (t : Int)] 33))
        have HPL := Lib.hid (show ([] : List NV).length ≤ 1000000 by omega)
        go_wp2_with (at_builtin; refine wpList_appN rfl _ _ rfl w.heap.size _ [] rfl HRA.out w3.heap.size rfl ⟨s, g, cap, d, t⟩ HA.out HPL.out HSZ.out ?_; intro v' w4 hown4 hgr4; have HI := Lib.hid (RInv.on (x := ⟨s, g, cap, d, t⟩) (z := z) HGO.out HT.out HSL.out HLE.out HR3.out HD3.out HBW.out HX3.out HLO.out HPRE.out hown4 hgr4); clear hown4 hgr4)
        go_roundw
        case rel => exact ⟨_, _, rfl, HI.out⟩
        case measure => simp [intOf]; omega
      · obtain ⟨g0, k0, er, hg0, hg0l, _, _, _⟩ := hrow.at_ (j := p.length) (y := y) (by simp)
        obtain ⟨K, hK⟩ : ∃ K, K = (p ++ [y]).length := ⟨_, rfl⟩
        rw [← hK] at er
        subst er
        have hKj : K = p.length + 1 := by rw [hK]; simp
        have hK1 : IntKind.i64.wrap ((K : Int) - 1) = (p.length : Int) := by rw [IntWalk.i64_in _ (by omega)]; omega
        have q1 : decide (0 < (K : Int)) = true := by simp; omega
        have q2 : decide (0 < K) = true := by simp; omega
        have q3 : (p.length : Int) < (K : Int) := by omega
        have q4 : (0 : Int) ≤ (p.length : Int) := by omega
        have q7 : (0 : Int) < (K : Int) := by omega
        have HROW := Lib.hid hrow
        have HDAT := Lib.hid hdat
        have HBEL := Lib.hid hbel
        have HSL := Lib.hid hsl
        have HLE := Lib.hid hle
        have HLO := Lib.hid (show w.heap.size ≤ wr.heap.size + 1 by have := hbel.size; omega)
        have HPRE := Lib.hid (show ∀ u : NV, u ∈ p ++ [y] → u.g < wr.heap.size + 1 from fun u hu => by have := hdat.lt hu; omega)
        by_cases hmax : y.s = 4294967295
        · have q5 : ((y.s : Int) == 4294967295) = true := by simp; omega
          have HN := Lib.hid (hgo.fin (bnxt_last (n := y.nt) hmax))
          clear hmax hgo hrow hdat hbel hrec hsl hys hKj hK
          go_wp2_with fail
          (with_reducible refine HR.out.mono ?_)
          rintro e w1 ⟨r1, rfl, hown, hb⟩
          obtain ⟨g, cap, rfl, _, hgB⟩ := hown.form hd1
          have HXO := Lib.hid (show Own (w1.alloc (.cells #[.int .u32 (s : Int), .slice (some ⟨g, 0, none⟩) d.length cap, .int .i64 0] 33)) (wr.heap.size + 1) (NV.v ⟨s, g, cap, d, t⟩) d from hown.below (below_alloc (Below.refl _ w1) _))
          have HB1 := Lib.hid (bel_alloc_ hb (.cells #[.int .u32 (s : Int), .slice (some ⟨g, 0, none⟩) d.length cap, .int .i64 0] 33))
          have HQ := Lib.hid (blk_new w1 #[.int .u32 (s : Int), .slice (some ⟨g, 0, none⟩) d.length cap, .int .i64 0] 33)
          have HSQ := Lib.hid hb.size
          clear hown hb hrun1
          go_wp2_with fail
          generalize w1.alloc (.cells #[.int .u32 (s : Int), .slice (some ⟨g, 0, none⟩) d.length cap, .int .i64 0] 33) = w2 at *
          generalize w1.heap.size = q at *
          obtain ⟨c0, c1, c2⟩ := HQ.out.three
          obtain ⟨g1, k1, er, _, _, a0, a1, a2⟩ := (HROW.out.below HB1.out).at_ (j := p.length) (y := y) (by simp)
          simp only [Value.slice.injEq, Option.some.injEq, Addr.mk.injEq] at er
          obtain ⟨⟨rfl, _⟩, _⟩ := er
          go_quiet (fail)
          go_wp2_with fail
          go_ret
          have hbz := below_drewN HB1.out nq
          exact ⟨_, p ++ [y], rfl, HN.out, HROW.out.below hbz, HDAT.out.below hbz, below_call HBEL.out hbz⟩
        have q5 : ((y.s : Int) == 4294967295) = false := by simp; omega
        have q6 : IntKind.u32.wrap ((y.s : Int) + 1) = (y.s : Int) + 1 := by simp [IntKind.wrap, IntKind.bits, IntKind.signed]; omega
        by_cases hoth : s ≠ y.s + 1
        · have q8 : ((s : Int) != (y.s : Int) + 1) = true := by simp; omega
          have HN := Lib.hid (hgo.fin (bnxt_other (n := y.nt) hrec hoth))
          clear hmax hoth hgo hrow hdat hbel hrec hsl hys hKj hK
          go_wp2_with fail
          (with_reducible refine HR.out.mono ?_)
          rintro e w1 ⟨r1, rfl, hown, hb⟩
          obtain ⟨g, cap, rfl, _, hgB⟩ := hown.form hd1
          have HXO := Lib.hid (show Own (w1.alloc (.cells #[.int .u32 (s : Int), .slice (some ⟨g, 0, none⟩) d.length cap, .int .i64 0] 33)) (wr.heap.size + 1) (NV.v ⟨s, g, cap, d, t⟩) d from hown.below (below_alloc (Below.refl _ w1) _))
          have HB1 := Lib.hid (bel_alloc_ hb (.cells #[.int .u32 (s : Int), .slice (some ⟨g, 0, none⟩) d.length cap, .int .i64 0] 33))
          have HQ := Lib.hid (blk_new w1 #[.int .u32 (s : Int), .slice (some ⟨g, 0, none⟩) d.length cap, .int .i64 0] 33)
          have HSQ := Lib.hid hb.size
          clear hown hb hrun1
          go_wp2_with fail
          generalize w1.alloc (.cells #[.int .u32 (s : Int), .slice (some ⟨g, 0, none⟩) d.length cap, .int .i64 0] 33) = w2 at *
          generalize w1.heap.size = q at *
          obtain ⟨c0, c1, c2⟩ := HQ.out.three
          obtain ⟨g1, k1, er, _, _, a0, a1, a2⟩ := (HROW.out.below HB1.out).at_ (j := p.length) (y := y) (by simp)
          simp only [Value.slice.injEq, Option.some.injEq, Addr.mk.injEq] at er
          obtain ⟨⟨rfl, _⟩, _⟩ := er
          go_quiet (fail)
          go_wp2_with fail
          go_ret
          have hbz := below_drewN HB1.out nq
          exact ⟨_, p ++ [y], rfl, HN.out, HROW.out.below hbz, HDAT.out.below hbz, below_call HBEL.out hbz⟩
        have hso : s = y.s + 1 := by omega
        have q8 : ((s : Int) != (y.s : Int) + 1) = false := by simp; omega
        have HG0 := Lib.hid (show Goes xs (p ++ [y]) y.e (some ⟨s, d, t⟩) by rw [← bnxt_on (n := y.nt) hrec hmax hso]; exact hgo)
        have HKE := Lib.hid hK
        clear hmax hoth hgo hrow hdat hbel hrec hsl hys hso hKj hK
        go_wp2_with fail
        (with_reducible refine HR.out.mono ?_)
        rintro e w1 ⟨r1, rfl, hown, hb⟩
        obtain ⟨g, cap, rfl, _, hgB⟩ := hown.form hd1
        have HXO := Lib.hid (show Own (w1.alloc (.cells #[.int .u32 (s : Int), .slice (some ⟨g, 0, none⟩) d.length cap, .int .i64 0] 33)) (wr.heap.size + 1) (NV.v ⟨s, g, cap, d, t⟩) d from hown.below (below_alloc (Below.refl _ w1) _))
        have HB1 := Lib.hid (bel_alloc_ hb (.cells #[.int .u32 (s : Int), .slice (some ⟨g, 0, none⟩) d.length cap, .int .i64 0] 33))
        have HQ := Lib.hid (blk_new w1 #[.int .u32 (s : Int), .slice (some ⟨g, 0, none⟩) d.length cap, .int .i64 0] 33)
        have HSQ := Lib.hid hb.size
        clear hown hb hrun1
        go_wp2_with fail
        generalize w1.alloc (.cells #[.int .u32 (s : Int), .slice (some ⟨g, 0, none⟩) d.length cap, .int .i64 0] 33) = w2 at *
        generalize w1.heap.size = q at *
        obtain ⟨c0, c1, c2⟩ := HQ.out.three
        obtain ⟨g1, k1, er, _, _, a0, a1, a2⟩ := (HROW.out.below HB1.out).at_ (j := p.length) (y := y) (by simp)
        simp only [Value.slice.injEq, Option.some.injEq, Addr.mk.injEq] at er
        obtain ⟨⟨rfl, _⟩, _⟩ := er
        go_quiet (fail)
        have HGO := Lib.hid (show Goes xs (p ++ [y]) y.e (some (NV.nt ⟨s, g, cap, d, t⟩)) from HG0.out)
        have HB2 := Lib.hid (below_drewN HB1.out nq)
        have HQ2 := Lib.hid (show Blk (w2.drewN nq) q #[.int .u32 (s : Int), .slice (some ⟨g, 0, none⟩) d.length cap, .int .i64 0] 33 from HQ.out)
        have HX2 := Lib.hid (show Own (w2.drewN nq) (wr.heap.size + 1) (NV.v ⟨s, g, cap, d, t⟩) d from HXO.out)
        generalize w2.drewN nq = w3 at *
        clear HQ HXO HB1 c0 c1 c2 a0 a1 a2
        obtain ⟨c0, c1, c2⟩ := HQ2.out.three
        have f2 := HQ2.out.frz 2
        have hks : Keep (fun k => k = q) w3 (w3.setCell ⟨q, 2, none⟩ (.int .i64 (t : Int))) := Keep.set_ (F := fun k => k = q) w3 q 2 _ rfl
        have HQ3 := Lib.hid ((HQ2.out.set_ 2 (.int .i64 (t : Int))).three)
        have HKW := Lib.hid (show Keep (fun k => k = q) wr (w3.setCell ⟨q, 2, none⟩ (.int .i64 (t : Int))) from (Keep.of_below (F := fun k => k = q) HB2.out).trans hks fun g h => .inl h)
        have HX3 := Lib.hid (HX2.out.keepB hks fun g' hg' hq => by
          simp only [NV.v, Value.ownBlock, Option.some.injEq] at hg'
          obtain ⟨C, hC, _⟩ := NV.own_block HX2.out
          exact blk_ne_ hC HQ2.out (hg'.trans hq))
        have HR3 := Lib.hid (HROW.out.keep HKW.out fun g' hg' hq => by have := (World.ownsRow.lt HROW.out g' hg').2; have := HSQ.out; omega)
        have HD3 := Lib.hid (HDAT.out.keep HKW.out fun y hy hq => by have := HDAT.out.lt hy; have := HSQ.out; omega)
        have HBW := Lib.hid (below_keep HBEL.out HKW.out fun g' hq => by have := HSQ.out; have := HBEL.out.size; omega)
        clear hks HB2 HX2 HROW HBEL
        have hss : (w3.setCell ⟨q, 2, none⟩ (.int .i64 (t : Int))).heap.size = w3.heap.size := by simp [World.setCell]
        have ha := blk_new (w3.setCell ⟨q, 2, none⟩ (.int .i64 (t : Int))) #[.int .u32 (s : Int), .slice (some ⟨g, 0, none⟩) d.length cap, .int .i64 (t : Int)] 33
        rw [hss] at ha
        have HA := Lib.hid ha
        clear ha hss
        have HRA := Lib.hid (HR3.out.below (below_alloc (Below.refl _ _) (.cells #[.int .u32 (s : Int), .slice (some ⟨g, 0, none⟩) d.length cap, .int .i64 (t : Int)] 33)))
        have HSZ := Lib.hid (le_alloc HBW.out.size (.cells #[.int .u32 (s : Int), .slice (some ⟨g, 0, none⟩) d.length cap, .int .i64 (t : Int)] 33))
        have HPL := Lib.hid (show (p ++ [y]).length ≤ 1000000 by omega)
        go_wp2_with (at_builtin; refine wpList_appN rfl _ _ rfl w.heap.size _ (p ++ [y]) rfl HRA.out w3.heap.size rfl ⟨s, g, cap, d, t⟩ HA.out HPL.out HSZ.out ?_; intro v' w4 hown4 hgr4; have HI := Lib.hid (RInv.on (x := ⟨s, g, cap, d, t⟩) (z := z) HGO.out HT.out HSL.out HLE.out HR3.out HD3.out HBW.out HX3.out HLO.out HPRE.out hown4 hgr4); clear hown4 hgr4)
        go_roundw
        case rel => exact ⟨_, _, rfl, HI.out⟩
        case measure => simp [intOf]; omega
end Go.Proofs.Ytecfobmmbdmdgaa
