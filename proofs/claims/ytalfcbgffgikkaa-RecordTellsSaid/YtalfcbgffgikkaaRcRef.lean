/-
  The document's Of, Print and Parse by contracts.
-/
import Derived.Test.YtalfcbgffgikkaaRcCalls
namespace Go.Proofs.Ytalfcbgffgikkaa
open Go.RowKit

/-- What is reckoned of the first k tracks. -/
structure RofI (ls : List Tk) (k : Nat) (X Y P : Int) : Prop where
  x : rcs (fun t => t.g) (ls.take k) = X
  y : rcs (fun t => t.j) (ls.take k) = Y
  p : (2 : Int) ^ k = P
theorem RofI.rng {ls : List Tk} {k : Nat} {X Y P : Int} (h : RofI ls k X Y P) (h8 : k ≤ 8) : (0 ≤ X ∧ X < P) ∧ (0 ≤ Y ∧ Y < P) ∧ P ≤ 256 := by
  have hp : ∀ n : Nat, n ≤ 8 → (2 : Int) ^ n ≤ 256 := by decide
  have hm : ∀ n : Nat, n ≤ k → (2 : Int) ^ n ≤ 2 ^ k := fun n hn => by
    have := Nat.pow_le_pow_right (show 0 < 2 by decide) hn
    have e : ∀ m : Nat, (2 : Int) ^ m = ((2 ^ m : Nat) : Int) := fun m => by rw [Int.natCast_pow]; rfl
    rw [e, e]
    exact Int.ofNat_le.2 this
  have hl : (ls.take k).length ≤ k := by rw [List.length_take]; omega
  have ha := rcs_range (fun t => t.g) (ls.take k)
  have hb := rcs_range (fun t => t.j) (ls.take k)
  have hc := hm _ hl
  rw [h.x] at ha
  rw [h.y] at hb
  rw [h.p] at hc
  have hd := hp k h8
  rw [h.p] at hd
  exact ⟨⟨ha.1, by omega⟩, ⟨hb.1, by omega⟩, hd⟩
theorem RofI.next {ls : List Tk} {k : Nat} {X Y P : Int} (h : RofI ls k X Y P) {t : Tk} (ht : ls[k]? = some t) : RofI ls (k + 1) (X + if t.g = true then P else 0) (Y + if t.j = true then P else 0) (2 * P) :=
  ⟨by rw [rcs_take _ ls k t ht, h.x, h.p], by rw [rcs_take _ ls k t ht, h.y, h.p], by rw [Int.pow_succ, h.p, Int.mul_comm]⟩
theorem rofI_zero (ls : List Tk) : RofI ls 0 0 0 1 := ⟨rfl, rfl, rfl⟩
set_option maxHeartbeats 1000000 in
theorem rcrof_to (p sn : Int) (v : Value) (ls : List Tk) (w : World) (hv : Els RTk 11 w v ls) (x y : Int) (hx : rcof p ls = ⟨p, x, y⟩) : Calls Try.prog 11 #[.agg #[.int .i64 p, .int .i64 sn], v] w fun e w' => e = .returned (.agg #[.int .i64 p, .int .i64 x, .int .i64 y]) ∧ Below w.heap.size w w' := by
  rw [rc_of] at hx
  obtain ⟨a, cc, ev⟩ := hv.len
  obtain ⟨K, hn⟩ : ∃ n, n = ls.length := ⟨_, rfl⟩
  obtain ⟨M, hM⟩ : ∃ n, min ls.length 8 = n := ⟨_, rfl⟩
  rw [hM] at hx
  injection hx with _ hx hy
  have HX := Lib.hid hx
  have HY := Lib.hid hy
  have hM8 : M ≤ 8 := by omega
  have HMK := Lib.hid (show M ≤ ls.length by omega)
  have HKK := Lib.hid hn
  have hs := (((blk_new w #[.int .i64 p, .int .i64 sn] 23).below (below_alloc (Below.refl _ _) (.cells #[.int .i64 0, .int .i64 0, .int .i64 0] 26))))
  have hz := (blk_new (w.alloc (.cells #[.int .i64 p, .int .i64 sn] 23)) #[.int .i64 0, .int .i64 0, .int .i64 0] 26).below (below_alloc (Below.refl _ _) (.cells #[.int .i64 p, .int .i64 0, .int .i64 0] 26))
  have hr := blk_new ((w.alloc (.cells #[.int .i64 p, .int .i64 sn] 23)).alloc (.cells #[.int .i64 0, .int .i64 0, .int .i64 0] 26)) #[.int .i64 p, .int .i64 0, .int .i64 0] 26
  have hB := below_alloc (below_alloc (below_alloc (Below.refl _ w) (.cells #[.int .i64 p, .int .i64 sn] 23)) (.cells #[.int .i64 0, .int .i64 0, .int .i64 0] 26)) (.cells #[.int .i64 p, .int .i64 0, .int .i64 0] 26)
  simp only [World.size_alloc] at hr hz
  have HZ := Lib.hid hz
  have HR := Lib.hid hr
  have HB := Lib.hid hB
  have HV := Lib.hid hv
  have m1 : ∀ (ts : Array TypeId) (t : TypeId) (w : World), (Builtin.min_ ts t #[.int .i64 (K : Int), .int .i64 8]).run Try.prog w = .ok (.int .i64 (M : Int)) w := fun ts t w => by
    rw [run_min_int2, show (if (8 : Int) < (K : Int) then (8 : Int) else (K : Int)) = (M : Int) by rw [← hM, ← hn]; split <;> omega]
  obtain ⟨x0, x1⟩ := box2 hs
  rw [← hn] at ev
  subst ev
  clear hx hy hv hs hr hz hB hn hM
  go_enter Try.func11, Try.ntmps11
  go_wp2_with fail
  generalize ((w.alloc (.cells #[.int .i64 p, .int .i64 sn] 23)).alloc (.cells #[.int .i64 0, .int .i64 0, .int .i64 0] 26)).alloc (.cells #[.int .i64 p, .int .i64 0, .int .i64 0] 26) = w3 at *
  go_loopw [6, 7] (fun s6 s7 wr => ∃ k : Nat, k ≤ M ∧ ∃ X Y P : Int, s6 = .int .i64 P ∧ s7 = .int .i64 (k : Int) ∧ Hid (RofI ls k X Y P) ∧ Hid (Blk wr (w.heap.size + 1 + 1) #[.int .i64 p, .int .i64 X, .int .i64 Y] 26) ∧ Hid (Blk wr (w.heap.size + 1) #[.int .i64 0, .int .i64 0, .int .i64 0] 26) ∧ Hid (Below w.heap.size w wr)) (fun s6 s7 _ => M - (intOf s7).toNat)
  case atStart => exact ⟨0, by omega, 0, 0, 1, rfl, rfl, Lib.hid (rofI_zero ls), HR, HZ, HB⟩
  case round =>
    obtain ⟨k, hk, X, Y, P, rfl, rfl, HI, HRk, HZk, HBk⟩ := hrel
    clear HB HR HZ
    by_cases hlt : k < M
    · have hltI : (k : Int) < (M : Int) := by omega
      have hkK : k < ls.length := by have := HMK.out; omega
      obtain ⟨y, hy⟩ : ∃ y, ls[k]? = some y := ⟨_, List.getElem?_eq_getElem hkK⟩
      obtain ⟨⟨b1, b2⟩, ⟨b3, b4⟩, b5⟩ := HI.out.rng (by omega)
      have hkw : wrap64 ((k : Int) + 1) = (k : Int) + 1 := IntWalk.wrap64_in _ (by omega)
      have h1 : wrap64 (2 * P) = 2 * P := IntWalk.wrap64_in _ (by omega)
      have h2 : wrap64 (X + P) = X + P := IntWalk.wrap64_in _ (by omega)
      have h3 : wrap64 (Y + P) = Y + P := IntWalk.wrap64_in _ (by omega)
      have HN := Lib.hid (HI.out.next hy)
      obtain ⟨g2, o2, ea, hr⟩ := HV.out.at_ hy
      subst ea
      obtain ⟨_, _, _, r3, _, _, r6, _, _, _, _⟩ := hr.below HBk.out
      obtain ⟨y0, y1, y2⟩ := HRk.out.three
      have f0 := HRk.out.frz 0
      have f1 := HRk.out.frz 1
      have f2 := HRk.out.frz 2
      have hne : g2 ≠ w.heap.size + 1 + 1 := by have := lt_of_cell hr.1; omega
      obtain ⟨_, _, _, qg, _, _, qj, _, _, _, _⟩ := y
      dsimp only at r3 r6 HN
      have hK : (k : Int) < (K : Int) := by have := HKK.out; omega
      clear hy hr hkK
      cases qg
      · cases qj
        · have HI2 := Lib.hid (show RofI ls (k + 1) X Y (2 * P) by simpa using HN.out)
          have HR2 := Lib.hid (HRk.out)
          have HZ2 := Lib.hid (HZk.out)
          have HB2 := Lib.hid (HBk.out)
          clear HN b1 b2 b3 b4 b5
          go_wp2_with fail
          go_roundw
          case rel =>
            (try simp only [h1])
            exact ⟨k + 1, by omega, X, Y, 2 * P, rfl, by go_num, HI2, HR2, HZ2, HB2⟩
          case measure => clear hkw; simp [intOf]; omega
        · have HI2 := Lib.hid (show RofI ls (k + 1) X (Y + P) (2 * P) by simpa using HN.out)
          have HR2 := Lib.hid ((HRk.out).set_ 2 (.int .i64 (Y + P)))
          have HZ2 := Lib.hid ((HZk.out).far (w.heap.size + 1 + 1) 2 (.int .i64 (Y + P)) (by omega))
          have HB2 := Lib.hid (bel_set (HBk.out) (show w.heap.size ≤ w.heap.size + 1 + 1 by omega) 2 (.int .i64 (Y + P)))
          clear HN b1 b2 b3 b4 b5
          go_wp2_with fail
          go_roundw
          case rel =>
            (try simp only [h1])
            exact ⟨k + 1, by omega, X, (Y + P), 2 * P, rfl, by go_num, HI2, HR2, HZ2, HB2⟩
          case measure => clear hkw; simp [intOf]; omega
      · cases qj
        · have HI2 := Lib.hid (show RofI ls (k + 1) (X + P) Y (2 * P) by simpa using HN.out)
          have HR2 := Lib.hid ((HRk.out).set_ 1 (.int .i64 (X + P)))
          have HZ2 := Lib.hid ((HZk.out).far (w.heap.size + 1 + 1) 1 (.int .i64 (X + P)) (by omega))
          have HB2 := Lib.hid (bel_set (HBk.out) (show w.heap.size ≤ w.heap.size + 1 + 1 by omega) 1 (.int .i64 (X + P)))
          clear HN b1 b2 b3 b4 b5
          go_wp2_with fail
          go_roundw
          case rel =>
            (try simp only [h1])
            exact ⟨k + 1, by omega, (X + P), Y, 2 * P, rfl, by go_num, HI2, HR2, HZ2, HB2⟩
          case measure => clear hkw; simp [intOf]; omega
        · have HI2 := Lib.hid (show RofI ls (k + 1) (X + P) (Y + P) (2 * P) by simpa using HN.out)
          have HR2 := Lib.hid (((HRk.out).set_ 1 (.int .i64 (X + P))).set_ 2 (.int .i64 (Y + P)))
          have HZ2 := Lib.hid (((HZk.out).far (w.heap.size + 1 + 1) 1 (.int .i64 (X + P)) (by omega)).far (w.heap.size + 1 + 1) 2 (.int .i64 (Y + P)) (by omega))
          have HB2 := Lib.hid (bel_set (bel_set (HBk.out) (show w.heap.size ≤ w.heap.size + 1 + 1 by omega) 1 (.int .i64 (X + P))) (show w.heap.size ≤ w.heap.size + 1 + 1 by omega) 2 (.int .i64 (Y + P)))
          clear HN b1 b2 b3 b4 b5
          go_wp2_with fail
          go_roundw
          case rel =>
            (try simp only [h1])
            exact ⟨k + 1, by omega, (X + P), (Y + P), 2 * P, rfl, by go_num, HI2, HR2, HZ2, HB2⟩
          case measure => clear hkw; simp [intOf]; omega
    · obtain rfl : k = M := by omega
      have hltI : ¬ (k : Int) < (k : Int) := by omega
      obtain ⟨y0, y1, y2⟩ := HRk.out.three
      have z0 := HZk.out.frz 0
      have z1 := HZk.out.frz 1
      have z2 := HZk.out.frz 2
      obtain ⟨c0, c1, c2⟩ := HZk.out.three
      have E := Lib.hid (And.intro (HI.out.x.symm.trans HX.out) (HI.out.y.symm.trans HY.out))
      go_wp2_with fail
      (try simp only [Exit.inBlock, Exit.then])
      refine bodyPost_ret (v := .agg #[.int .i64 p, .int .i64 X, .int .i64 Y]) ?_ rfl ⟨by rw [E.out.1, E.out.2], ?_⟩
      · rw [results_cell1 rfl]
        go_simp
      · exact bel_set (bel_set (bel_set HBk.out (by omega) 0 _) (by omega) 1 _) (by omega) 2 _
set_option maxHeartbeats 1000000 in
theorem rcrprint_to (r : Rc) (p wr j : Int) (hr : r = ⟨p, wr, j⟩) (w : World) : Calls Try.prog 13 #[.agg #[.int .i64 p, .int .i64 wr, .int .i64 j]] w fun e w' => ∃ v, e = .returned v ∧ Byts w' v (rcpr r) ∧ Below w.heap.size w w' := by
  have hX := blk_new w #[.int .i64 p, .int .i64 wr, .int .i64 j] 26
  obtain ⟨x0, x1, x2⟩ := hX.three
  clear hX
  have HB := Lib.hid (below_alloc (Below.refl _ w) (.cells #[.int .i64 p, .int .i64 wr, .int .i64 j] 26))
  by_cases h0 : p < 0
  · have HR := Lib.hid (show rcpr r = [] from rcno (by rw [hr, Bool.eq_false_iff]; intro h; have := rcok_iff.1 h; dsimp only at this; omega))
    clear hr
    go_enter Try.func13, Try.ntmps13
    go_wp2_with fail
    go_ret
    exact ⟨_, rfl, by rw [HR.out]; exact byts_nil _, HB.out⟩
  · skip
    by_cases h7 : 7 < p
    · have HR := Lib.hid (show rcpr r = [] from rcno (by rw [hr, Bool.eq_false_iff]; intro h; have := rcok_iff.1 h; dsimp only at this; omega))
      clear hr
      go_enter Try.func13, Try.ntmps13
      go_wp2_with fail
      go_ret
      exact ⟨_, rfl, by rw [HR.out]; exact byts_nil _, HB.out⟩
    · skip
      by_cases w0 : wr < 0
      · have HR := Lib.hid (show rcpr r = [] from rcno (by rw [hr, Bool.eq_false_iff]; intro h; have := rcok_iff.1 h; dsimp only at this; omega))
        clear hr
        go_enter Try.func13, Try.ntmps13
        go_wp2_with fail
        go_ret
        exact ⟨_, rfl, by rw [HR.out]; exact byts_nil _, HB.out⟩
      · skip
        by_cases w1 : 255 < wr
        · have HR := Lib.hid (show rcpr r = [] from rcno (by rw [hr, Bool.eq_false_iff]; intro h; have := rcok_iff.1 h; dsimp only at this; omega))
          clear hr
          go_enter Try.func13, Try.ntmps13
          go_wp2_with fail
          go_ret
          exact ⟨_, rfl, by rw [HR.out]; exact byts_nil _, HB.out⟩
        · skip
          by_cases j0 : j < 0
          · have HR := Lib.hid (show rcpr r = [] from rcno (by rw [hr, Bool.eq_false_iff]; intro h; have := rcok_iff.1 h; dsimp only at this; omega))
            clear hr
            go_enter Try.func13, Try.ntmps13
            go_wp2_with fail
            go_ret
            exact ⟨_, rfl, by rw [HR.out]; exact byts_nil _, HB.out⟩
          · skip
            by_cases j1 : 255 < j
            · have HR := Lib.hid (show rcpr r = [] from rcno (by rw [hr, Bool.eq_false_iff]; intro h; have := rcok_iff.1 h; dsimp only at this; omega))
              clear hr
              go_enter Try.func13, Try.ntmps13
              go_wp2_with fail
              go_ret
              exact ⟨_, rfl, by rw [HR.out]; exact byts_nil _, HB.out⟩
            · skip
              have hh := rcb3 (w.alloc (.cells #[.int .i64 p, .int .i64 wr, .int .i64 j] 26)) p wr j r hr (by rw [hr]; exact rcok_iff.2 (by dsimp only; omega))
              simp only [World.size_alloc] at hh
              have HR := Lib.hid hh
              have e0 : IntKind.u8.wrap p = p := by rw [rcb_wrap]; omega
              have e1 : IntKind.u8.wrap wr = wr := by rw [rcb_wrap]; omega
              have e2 : IntKind.u8.wrap j = j := by rw [rcb_wrap]; omega
              clear hh hr
              go_enter Try.func13, Try.ntmps13
              go_wp2_with fail
              go_ret
              exact ⟨_, rfl, HR.out, below_alloc HB.out _⟩
set_option maxHeartbeats 1000000 in
theorem rcrparse_to (v : Value) (xs : List (BitVec 8)) (p wr j : Int) (q : Bool) (hr : rcout (rcps xs) = (⟨p, wr, j⟩, q)) (w : World) (hv : Byts w v xs) : Calls Try.prog 9 #[v] w fun e w' => e = .returned (.tuple #[.agg #[.int .i64 p, .int .i64 wr, .int .i64 j], .bool q]) ∧ Below w.heap.size w w' := by
  have HB := Lib.hid (fun C => below_alloc (Below.refl _ w) (.cells C 26))
  have hX := blk_new w #[.int .i64 0, .int .i64 0, .int .i64 0] 26
  obtain ⟨z0, z1, z2⟩ := hX.three
  have f0 := hX.frz 0
  have f1 := hX.frz 1
  have f2 := hX.frz 2
  clear hX
  rcases rcps_ways hv with ⟨h3, hp, a, n, c, rfl, hn⟩ | ⟨g, o, c, x, y, z, rfl, hx, hy, hz, c0, c1, c2, hp⟩
  · rw [hp] at hr
    obtain ⟨rfl, rfl, rfl, rfl⟩ : 0 = p ∧ 0 = wr ∧ 0 = j ∧ false = q := by simpa [rcout, and_assoc] using hr
    clear hr hp hv h3
    go_enter Try.func9, Try.ntmps9
    go_wp2_with fail
    (try simp only [Exit.inBlock, Exit.then])
    refine bodyPost_ret (v := .tuple #[.agg #[.int .i64 0, .int .i64 0, .int .i64 0], .bool false]) ?_ rfl ⟨rfl, ?_⟩
    · rw [results_cell_tmp rfl]
      go_simp
    · have h := HB.out #[.int .i64 0, .int .i64 0, .int .i64 0]
      exact ⟨h.os, h.tape, h.output, h.size, h.block⟩
  · have hb := below_alloc (Below.refl _ w) (.cells #[.int .i64 0, .int .i64 0, .int .i64 0] 26)
    replace c0 := below_cell hb c0
    replace c1 := below_cell hb c1
    replace c2 := below_cell hb c2
    have e0 : IntKind.i64.wrap x = x := by rw [IntKind.wrap_i64]; omega
    have e1 : IntKind.i64.wrap y = y := by rw [IntKind.wrap_i64]; omega
    have e2 : IntKind.i64.wrap z = z := by rw [IntKind.wrap_i64]; omega
    clear hb hv
    by_cases h7 : x ≤ 7
    · rw [hp, if_pos h7] at hr
      obtain ⟨rfl, rfl, rfl, rfl⟩ : x = p ∧ y = wr ∧ z = j ∧ true = q := by simpa [rcout, and_assoc] using hr
      have h8 : ¬ 7 < x := by omega
      clear hr hp hx hy hz h7
      go_enter Try.func9, Try.ntmps9
      go_wp2_with fail
      go_region
      all_goals
        go_wp2_with fail
        (try simp only [Exit.inBlock, Exit.then])
        refine bodyPost_ret (v := .tuple #[.agg #[.int .i64 x, .int .i64 y, .int .i64 z], .bool true]) ?_ rfl ⟨rfl, ?_⟩
        · rw [results_cell_tmp rfl]
          go_simp
        · have h := HB.out #[.int .i64 x, .int .i64 y, .int .i64 z]
          exact ⟨h.os, h.tape, h.output, h.size, h.block⟩
    · rw [hp, if_neg h7] at hr
      obtain ⟨rfl, rfl, rfl, rfl⟩ : 0 = p ∧ 0 = wr ∧ 0 = j ∧ false = q := by simpa [rcout, and_assoc] using hr
      have h8 : 7 < x := by omega
      clear hr hp hx hy hz h7
      go_enter Try.func9, Try.ntmps9
      go_wp2_with fail
      (try simp only [Exit.inBlock, Exit.then])
      refine bodyPost_ret (v := .tuple #[.agg #[.int .i64 0, .int .i64 0, .int .i64 0], .bool false]) ?_ rfl ⟨rfl, ?_⟩
      · rw [results_cell_tmp rfl]
        go_simp
      · have h := HB.out #[.int .i64 0, .int .i64 0, .int .i64 0]
        exact ⟨h.os, h.tape, h.output, h.size, h.block⟩
end Go.Proofs.Ytalfcbgffgikkaa
