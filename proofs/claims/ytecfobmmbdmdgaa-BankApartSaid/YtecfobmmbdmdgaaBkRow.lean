/-
  bank.row: the iterator's function, by contract; the statement that ranges over it.
-/
import Derived.Test.YtecfobmmbdmdgaaBkNext
import Derived.Test.YtecfobmmbdmdgaaBkNote
import Derived.RangeFuncFrom
import Derived.RangeFuncCalls
import Derived.TacticsInMore
import Derived.LoopIn
namespace Go.Proofs.Ytecfobmmbdmdgaa
open Go.RowKit

attribute [local go_sem] Oper.semAt_some

/-- What record and next tell: a note that was told, or none. -/
def Tells (m : Option Nt) (B : Nat) (w : World) (s : Int) (a : Option Addr) (k c : Nat) (e : Int) (ok : Bool) : Prop :=
  (m = none ∧ ok = false) ∨ (ok = true ∧ ∃ y : NV, m = some y.nt ∧ s = (y.s : Int) ∧ .slice a k c = y.v ∧ e = (y.e : Int) ∧ Own w B y.v y.d)
theorem record_any (v : Value) (xs : List (BitVec 8)) (w : World) (hv : Byts w v xs) (hl : xs.length ≤ 100000) :
    Calls Try.prog 30 #[v, .int .i64 0] w fun e w' => ∃ s a k c p ok, e = .returned (.tuple #[.agg #[.int .u32 s, .slice a k c, .int .i64 p], .bool ok]) ∧ Tells (brec xs 0) w.heap.size w' s a k c p ok ∧ Below w.heap.size w w' := by
  cases h : brec xs 0 with
  | none =>
    refine (record_no v xs w hv hl 0 (by omega) h).mono ?_
    rintro e w' ⟨rfl, hb⟩
    exact ⟨_, _, _, _, _, _, rfl, .inl ⟨rfl, rfl⟩, hb⟩
  | some m =>
    refine (record_yes v xs w hv hl 0 m h).mono ?_
    rintro e w' ⟨r, rfl, ho, hb⟩
    obtain ⟨y, rfl, rfl, ho, _⟩ := nv_of (ho.mono (Nat.le_succ _)) (brec_some h).1
    exact ⟨_, _, _, _, _, _, rfl, .inr ⟨rfl, y, rfl, rfl, rfl, rfl, ho⟩, hb⟩
theorem next_any (v : Value) (xs : List (BitVec 8)) (w : World) (hv : Byts w v xs) (hl : xs.length ≤ 100000) (y : NV) (hs : y.s < 4294967296) (he : y.e ≤ xs.length) :
    Calls Try.prog 31 #[v, .agg #[.int .u32 (y.s : Int), .slice (some ⟨y.g, 0, none⟩) y.d.length y.c, .int .i64 (y.e : Int)]] w fun e w' => ∃ s a k c p ok, e = .returned (.tuple #[.agg #[.int .u32 s, .slice a k c, .int .i64 p], .bool ok]) ∧ Tells (bnxt xs y.nt) w.heap.size w' s a k c p ok ∧ Below w.heap.size w w' := by
  cases h : bnxt xs y.nt with
  | none =>
    rcases bnxt_none h with h0 | ⟨h0, h1⟩ | ⟨h0, m, h1, h2⟩
    · have h0' : (y.s : Int) = 4294967295 := by have : y.s = 4294967295 := h0; omega
      rw [h0']
      refine (next_last v _ _ _ _ _ w rfl).mono ?_
      rintro e w' ⟨rfl, hb⟩
      exact ⟨_, _, _, _, _, _, rfl, .inl ⟨rfl, rfl⟩, hb⟩
    · refine (next_gone v xs w hv hl y.nt (by have : y.s ≠ 4294967295 := h0; show y.s < _; omega) he _ _ _ _ rfl h1).mono ?_
      rintro e w' ⟨rfl, hb⟩
      exact ⟨_, _, _, _, _, _, rfl, .inl ⟨rfl, rfl⟩, hb⟩
    · refine (next_other v xs w hv hl y.nt (by have : y.s ≠ 4294967295 := h0; show y.s < _; omega) _ _ _ _ rfl m h1 h2).mono ?_
      rintro e w' ⟨a, k, c, rfl, hb⟩
      exact ⟨_, _, _, _, _, _, rfl, .inl ⟨rfl, rfl⟩, hb⟩
  | some m =>
    obtain ⟨h0, h1, h2⟩ := bnxt_some h
    refine (next_yes v xs w hv hl y.nt (by have : y.s ≠ 4294967295 := h0; show y.s < _; omega) _ _ _ _ rfl m h1 h2).mono ?_
    rintro e w' ⟨r, rfl, ho, hb⟩
    obtain ⟨z, rfl, rfl, ho, _⟩ := nv_of (ho.mono (show w.heap.size ≤ w.heap.size + 2 by omega)) (brec_some h1).1
    exact ⟨_, _, _, _, _, _, rfl, .inr ⟨rfl, z, rfl, rfl, rfl, rfl, ho⟩, hb⟩

theorem row_any (a : Option Addr) (n c : Nat) (w : World) : Calls Try.prog 24 #[.slice a n c] w fun e w' => e = .returned (.func (.func 29) #[] #[.pointer (some ⟨w.heap.size, 0, none⟩)]) ∧ w' = w.alloc (.cells #[.slice a n c] 23) := by
  go_enter Try.func24, Try.ntmps24
  go_wp2
  go_ret
  exact ⟨rfl, rfl⟩

def okOf : Value → Nat
  | .bool true => 1
  | _ => 0
def placeOf (w : World) (c : Nat) : Nat := match w.cell? ⟨c, 2, none⟩ with
  | some v => (intOf v).toNat
  | none => 0
theorem placeOf_eq {w : World} {c e : Nat} (h : w.cell? ⟨c, 2, none⟩ = some (.int .i64 (e : Int))) : placeOf w c = e := by
  unfold placeOf
  rw [h]
  simp [intOf]

/-- The loop's state between two rounds. -/
def Loops (v : Value) (xs : List (BitVec 8)) (bb _lo c B : Nat) (J : Nat → List NV → World → Prop) (okv : Value) (wr : World) : Prop :=
  ∃ (pre : List NV) (s : Int) (a : Option Addr) (k cc : Nat) (p : Int) (ok : Bool), okv = .bool ok ∧ J c pre wr ∧ Blk wr c #[.int .u32 s, .slice a k cc, .int .i64 p] 33 ∧ Byts wr v xs ∧ wr.cell? ⟨bb, 0, none⟩ = some v ∧ (∀ y ∈ pre, y.g < wr.heap.size) ∧ B ≤ wr.heap.size ∧
    ((ok = false ∧ bnotes xs = pre.map NV.nt) ∨ (ok = true ∧ ∃ x : NV, s = (x.s : Int) ∧ .slice a k cc = x.v ∧ p = (x.e : Int) ∧ Own wr B x.v x.d ∧ x.g ≠ c ∧ (∀ y ∈ pre, y.g < x.g) ∧ x.e ≤ xs.length ∧ x.s < 4294967296 ∧ bnotes xs = pre.map NV.nt ++ brest xs (some x.nt)))

/-- What a round may change: nothing older than the call, nothing of the iterator's. -/
def Mayn (lo bb c : Nat) : Nat → Prop := fun k => ¬ (k < lo ∨ k = bb ∨ k = c)

theorem blk_ne {w : World} {g c : Nat} {C D : Array Value} (h : w.heap[g]? = some (.cells C 5 (0, 0))) (k : Blk w c D 33) : g ≠ c := by
  intro e
  subst e
  unfold Blk at k
  rw [h] at k
  simp at k

theorem loops_mk {v : Value} {xs : List (BitVec 8)} {bb lo c B B' : Nat} {J : Nat → List NV → World → Prop} {pre : List NV} {m : Option Nt} {w wr : World} {s : Int} {a : Option Addr} {k cc : Nat} {p : Int} {ok : Bool}
    (ht : Tells m B' w s a k cc p ok) (hB : B ≤ B') (hown : ∀ y : NV, Own w B' y.v y.d → Own wr B' y.v y.d) (hJ : J c pre wr) (hk : Blk wr c #[.int .u32 s, .slice a k cc, .int .i64 p] 33) (hv : Byts wr v xs)
    (hbb : wr.cell? ⟨bb, 0, none⟩ = some v) (hpre : ∀ y ∈ pre, y.g < B') (hB' : B' ≤ wr.heap.size) (hm : ∀ n, m = some n → n.e ≤ xs.length ∧ n.s < 4294967296) (hN : bnotes xs = pre.map NV.nt ++ brest xs m) : Loops v xs bb lo c B J (.bool ok) wr := by
  refine ⟨pre, s, a, k, cc, p, ok, rfl, hJ, hk, hv, hbb, fun y hy => Nat.lt_of_lt_of_le (hpre y hy) hB', Nat.le_trans hB hB', ?_⟩
  rcases ht with ⟨rfl, rfl⟩ | ⟨rfl, y, rfl, rfl, h1, rfl, ho⟩
  · exact .inl ⟨rfl, by rw [hN, brest_none, List.append_nil]⟩
  · obtain ⟨C, hC, hlo⟩ := NV.own_block (hown y ho)
    exact .inr ⟨rfl, y, rfl, h1, rfl, (hown y ho).mono hB, blk_ne hC hk, fun z hz => Nat.lt_of_lt_of_le (hpre z hz) hlo, (hm _ rfl).1, (hm _ rfl).2, hN⟩
theorem loops_less {xs : List (BitVec 8)} {c B' : Nat} {x : NV} {w wr : World} {s : Int} {a : Option Addr} {k cc : Nat} {p : Int} {ok : Bool} (ht : Tells (bnxt xs x.nt) B' w s a k cc p ok)
    (hk : Blk wr c #[.int .u32 s, .slice a k cc, .int .i64 p] 33) (hx : x.e ≤ xs.length) : okOf (.bool ok) * (xs.length + 1 - placeOf wr c) < okOf (.bool true) * (xs.length + 1 - x.e) := by
  rcases ht with ⟨_, rfl⟩ | ⟨rfl, y, hy, rfl, h1, rfl, ho⟩
  · simp [okOf]; omega
  · have h2 := bnxt_end hy
    rw [placeOf_eq (hk.cell 2 rfl)]
    simp only [okOf, Nat.one_mul]
    have h3 : x.e + 9 ≤ y.e := h2.1
    have h4 : y.e ≤ xs.length := h2.2
    omega
theorem bnxt_bound {xs : List (BitVec 8)} {n m : Nt} (h : bnxt xs n = some m) : m.e ≤ xs.length ∧ m.s < 4294967296 := by
  obtain ⟨_, h1, _⟩ := bnxt_some h
  have h2 := brec_some h1
  exact ⟨h2.2.2.2.2.1, h2.2.2.1⟩
theorem byts_far {w w' : World} {v : Value} {xs : List (BitVec 8)} {lo bb c : Nat} (h : Byts w v xs) (hk : Keep (Mayn lo bb c) w w') (hfar : ∀ a k c, v = .slice (some a) k c → k = 0 ∨ a.block < lo) : Byts w' v xs :=
  h.keep hk fun a n c' e => (hfar a n c' e).imp id fun h1 h2 => h2 (.inl h1)

set_option maxRecDepth 100000 in
set_option maxHeartbeats 4000000 in
theorem round_calls (F : Fence) (n : Nat) (hF : ∀ k, F.fn k) (hro : F.round = none) (hn : 1 ≤ n) (hC : ∀ (m f : Nat) (args : Array Value) (w : World) (R : Ending → World → Prop), Calls Try.prog f args w R → CallsIn F m Try.prog f args w R)
    (l bb lo : Nat) (v : Value) (xs : List (BitVec 8)) (hl : xs.length ≤ 100000) (hfar : ∀ a k c, v = .slice (some a) k c → k = 0 ∨ a.block < lo)
    (J : Nat → List NV → World → Prop) (W : World) (hv : Byts W v xs) (hbb : W.cell? ⟨bb, 0, none⟩ = some v) (hlo : lo ≤ W.heap.size)
    (hstart : ∀ c W1, Below W.heap.size W W1 → W.heap.size ≤ c → J c [] W1)
    (hJ : ∀ c pre W1 W2, W.heap.size ≤ c → J c pre W1 → Keep (fun k => k = c) W1 W2 → J c pre W2)
    (hY : ∀ c pre x W1, W.heap.size ≤ c → c < W1.heap.size → J c pre W1 → Own W1 W.heap.size x.v x.d → x.g ≠ c → (∀ y ∈ pre, y.g < x.g) → pre.length ≤ 100001 → YieldAt F (n - 1) Try.prog l #[.agg #[.int .u32 (x.s : Int), .slice (some ⟨x.g, 0, none⟩) x.d.length x.c, .int .i64 (x.e : Int)]] W1 fun e W' =>
      e = .returned (.bool true) ∧ J c (pre ++ [x]) W' ∧ Keep (Mayn lo bb c) W1 W') :
    CallsIn F n Try.prog 29 #[.func (.yield l) #[] #[], .pointer (some ⟨bb, 0, none⟩)] W fun e W' => (∃ u, e = .returned u) ∧ ∃ c ys, W.heap.size ≤ c ∧ ys.map NV.nt = bnotes xs ∧ J c ys W' := by
  have HV := Lib.hid hv
  have HR := Lib.hid (record_any v xs W hv hl)
  have HLO := Lib.hid hlo
  have HFAR := Lib.hid hfar
  have hnn : 1 ≤ n - 1 + 1 := by omega
  clear hv hfar
  refine callsIn_of_wp Try.func29 rfl (hF _) ?_ hro
  simp only [Try.ntmps29, List.size_toArray, List.length_cons, List.length_nil, Nat.reduceAdd, Nat.reduceSub, Array.replicate_succ, Array.replicate_zero, List.push_toArray, List.append_toArray, List.nil_append, List.cons_append]
  gi_wp2_with (gi_at_call 30; (with_reducible refine (hC _ _ _ _ _ HR.out).mono ?_); rintro e w1 ⟨s, a, k, cc, p, ok, rfl, ht, hb⟩; have HT := Lib.hid ht; have HB := Lib.hid hb; clear ht hb HR)
  have hcW : W.heap.size ≤ w1.heap.size := HB.out.size
  have HB2 := Lib.hid (below_alloc HB.out (.cells #[.int .u32 s, .slice a k cc, .int .i64 p] 33))
  have HK2 := Lib.hid (blk_new w1 #[.int .u32 s, .slice a k cc, .int .i64 p] 33)
  have HST : Hid (Loops v xs bb lo w1.heap.size W.heap.size J (.bool ok) (w1.alloc (.cells #[.int .u32 s, .slice a k cc, .int .i64 p] 33))) := Lib.hid (loops_mk HT.out (Nat.le_refl _) (fun y h => h.below (below_alloc (Below.refl _ _) _)) (hstart _ _ HB2.out hcW) HK2.out (HV.out.below HB2.out) (below_cell HB2.out hbb) (by simp) HB2.out.size
    (fun n h => by have h2 := brec_some h; exact ⟨h2.2.2.2.2.1, h2.2.2.1⟩) rfl)
  have HBB := Lib.hid (lt_of_cell hbb)
  clear hbb hlo
  generalize w1.alloc (.cells #[.int .u32 s, .slice a k cc, .int .i64 p] 33) = w2 at *
  generalize w1.heap.size = c at *
  gi_loopw [4] (fun okv wr => Loops v xs bb lo c W.heap.size J okv wr) (fun okv wr => okOf okv * (xs.length + 1 - placeOf wr c))
  case atStart => exact HST.out
  case round =>
    clear HST HB2 HK2 HT HB HV
    obtain ⟨pre, s, a, k, cc, p, ok, rfl, hJ1, hk1, hv1, hb1, hg1, hB1, hcase⟩ := hrel
    rcases hcase with ⟨rfl, hN⟩ | ⟨rfl, x, rfl, hx, rfl, ho, hxc, hxg, hxe, hxs, hN⟩
    · have HE := Lib.hid (show (∃ u, Ending.returned undef = .returned u) ∧ ∃ c ys, W.heap.size ≤ c ∧ ys.map NV.nt = bnotes xs ∧ J c ys wr from ⟨⟨_, rfl⟩, c, pre, hcW, hN.symm, hJ1⟩)
      clear hN hg1 hv1 hb1
      gi_wp2
      go_end0
      exact HE.out
    · simp only [NV.v, Value.slice.injEq] at hx
      obtain ⟨rfl, rfl, rfl⟩ := hx
      have hlen : pre.length ≤ 100001 := by
        have h1 := bnotes_len xs
        rw [hN] at h1
        simp at h1
        omega
      obtain ⟨c0, c1, c2⟩ := hk1.three
      obtain ⟨fn, tmps, assign, body, hy, hR⟩ := hY c pre x wr hcW hk1.lt hJ1 ho hxc hxg hlen
      have HX := Lib.hid (NV.lt ho)
      have HP := Lib.hid (placeOf_eq c2)
      have HK := Lib.hid hk1
      have HV1 := Lib.hid hv1
      have HN := Lib.hid hN
      have HG := Lib.hid hg1
      have HC1 := Lib.hid hb1
      have HXE := Lib.hid hxe
      have HXS := Lib.hid hxs
      clear hk1 hv1 hN hg1 hxe hxs ho hJ1 hb1 hY hxg
      gi_wp2
      refine hR.mono ?_
      rintro e w3 ⟨rfl, hJ3, hk3⟩
      have HK3 := Lib.hid (HK.out.keep hk3 (fun h => h (.inr (.inr rfl))))
      have HV3 := Lib.hid (byts_far HV1.out hk3 HFAR.out)
      have HC3 := Lib.hid (hk3.cell HC1.out (fun h => h (.inr (.inl rfl))))
      have HX3 := Lib.hid (Nat.lt_of_lt_of_le HX.out hk3.size)
      have HG3 : Hid (∀ y ∈ pre ++ [x], y.g < w3.heap.size) := Lib.hid (fun y hy => (List.mem_append.1 hy).elim (fun h => Nat.lt_of_lt_of_le (HG.out y h) hk3.size) (fun h => by simp at h; subst h; exact HX3.out))
      have HB3 := Lib.hid (Nat.le_trans hB1 hk3.size)
      have HJ3 := Lib.hid hJ3
      have HN3 := Lib.hid (next_any v xs w3 HV3.out hl x HXS.out HXE.out)
      obtain ⟨c0, c1, c2⟩ := HK3.out.three
      have hcb := HC3.out
      clear hy hR hJ3 hk3 HK HV1 HC1 HX HG hB1 c0 c1 c2
      obtain ⟨c0, c1, c2⟩ := HK3.out.three
      gi_wp2_with (gi_at_call 31; (with_reducible refine (hC _ _ _ _ _ HN3.out).mono ?_); rintro e w4 ⟨s, a, k, cc, p, ok, rfl, ht, hb⟩; have HT := Lib.hid ht; have HB4 := Lib.hid hb; have HK4 := Lib.hid (HK3.out.below hb); obtain ⟨d0, d1, d2⟩ := HK4.out.three; have f0 := HK4.out.frz 0; have f1 := HK4.out.frz 1; have f2 := HK4.out.frz 2; clear ht hb HN3 c0 c1 c2 hcb)
      have HK5 := Lib.hid (show Blk (((w4.setCell ⟨c, 0, none⟩ (.int .u32 s)).setCell ⟨c, 1, none⟩ (.slice a k cc)).setCell ⟨c, 2, none⟩ (.int .i64 p)) c #[.int .u32 s, .slice a k cc, .int .i64 p] 33 from ((HK4.out.set_ 0 _).set_ 1 _).set_ 2 _)
      have HKP := Lib.hid (show Keep (fun k => k = c) w3 (((w4.setCell ⟨c, 0, none⟩ (.int .u32 s)).setCell ⟨c, 1, none⟩ (.slice a k cc)).setCell ⟨c, 2, none⟩ (.int .i64 p)) from (((Keep.of_below (F := fun k => k = c) HB4.out).store c 0 _ rfl).store c 1 _ rfl).store c 2 _ rfl)
      go_roundw
      case rel =>
        refine loops_mk HT.out HB3.out (fun y h => own_set3 h HK3.out.lt _ _ _) (hJ c _ _ _ hcW HJ3.out HKP.out) HK5.out ?_ ?_ HG3.out HKP.out.size (fun n h => bnxt_bound h) ?_
        · refine HV3.out.keep HKP.out fun a n c' e => (HFAR.out a n c' e).imp id fun h1 h2 => ?_
          have h3 := HLO.out
          have h2 : a.block = c := h2
          omega
        · refine HKP.out.cell HC3.out fun h2 => ?_
          have h3 := HBB.out
          have h2 : bb = c := h2
          omega
        · rw [HN.out, brest_some xs x.nt HXE.out]
          simp
      case measure =>
        rw [HP.out]
        exact loops_less HT.out HK5.out HXE.out
end Go.Proofs.Ytecfobmmbdmdgaa
