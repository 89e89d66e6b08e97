/-
  The walk of crossbucklaw10.PairBack: true, whatever it is given.
-/
import Derived.Test.YtemomgbgfelooaaSmall
import Derived.Test.YtemomgbgfelooaaSlices
namespace Go.Proofs.Ytemomgbgfelooaa
open Go.RowKit

/-- Who goes back again is where it was. -/
theorem stp_back {p : Pr} {m b : Int} (hj : (stp p m).jump = false) (hb : b % 4 = p.lie) (h0 : -9223372036854775807 < p.pos) (h1 : p.pos < 9223372036854775806) : stp (stp p m) b = p := by
  obtain ⟨l, s, j⟩ := p
  dsimp only at hb h0 h1
  have hr := way_range l m
  have hw : way l m = (qr m - qr l) % 4 := rfl
  have hw2 : way m b = (qr l - qr m) % 4 := by unfold way; rw [← qr_mod b, hb]
  have hjj : j = false ∧ way l m ≠ 2 := by
    unfold stp at hj
    dsimp only at hj
    cases j
    · simp at hj; exact ⟨rfl, hj⟩
    · simp at hj
  obtain ⟨rfl, hk⟩ := hjj
  unfold stp
  dsimp only
  rw [way_mod_left, hb]
  rcases (show way l m = 0 ∨ way l m = 1 ∨ way l m = 3 by omega) with h | h | h
  · rw [h, show way m b = 0 by omega]; simp [bump]
  · rw [h, show way m b = 3 by omega, bump_one (by omega), bump_three (by omega)]; simp
  · rw [h, show way m b = 1 by omega, bump_three (by omega), bump_one (by omega)]; simp
theorem stp_jump_false {p : Pr} {m : Int} (h : (stp p m).jump = false) : p.jump = false := by
  unfold stp at h
  dsimp only at h
  cases hp : p.jump
  · rfl
  · rw [hp] at h; simp at h
theorem bump_near (k s : Int) : s - 1 ≤ bump k s ∧ bump k s ≤ s + 1 := by unfold bump; (repeat' split) <;> omega
/-- The pairs on the way. -/
structure Road (pos : Int) (xs : List Int) (st : Nat → Pr) : Prop where
  zero : st 0 = ⟨0, pos, false⟩
  next : ∀ k m, xs[k]? = some m → st (k + 1) = stp (st k) m
  near : ∀ k, k ≤ xs.length → pos - k ≤ (st k).pos ∧ (st k).pos ≤ pos + k
theorem road_some (pos : Int) (xs : List Int) : ∃ st, Road pos xs st := by
  refine ⟨fun k => runs ⟨0, pos, false⟩ (xs.take k), rfl, fun k m h => runs_take h, fun k => ?_⟩
  induction k with
  | zero => intro _; exact ⟨by show pos - 0 ≤ pos; omega, by show pos ≤ pos + 0; omega⟩
  | succ k ih =>
    intro h
    have hk := ih (by omega)
    rw [runs_take (List.getElem?_eq_getElem (show k < xs.length by omega))]
    have := bump_near (way (runs ⟨0, pos, false⟩ (xs.take k)).lie xs[k]) (runs ⟨0, pos, false⟩ (xs.take k)).pos
    show pos - _ ≤ bump _ _ ∧ bump _ _ ≤ _
    omega
theorem Road.jumps {pos : Int} {xs : List Int} {st : Nat → Pr} (h : Road pos xs st) {n : Nat} (hn : n ≤ xs.length) (hj : (st n).jump = false) : ∀ d k, k + d = n → (st k).jump = false
  | 0, k, hk => by rw [show k = n by omega]; exact hj
  | d + 1, k, hk => by
    have h1 := h.jumps hn hj d (k + 1) (by omega)
    rw [h.next k _ (List.getElem?_eq_getElem (show k < xs.length by omega))] at h1
    exact stp_jump_false h1
/-- One step back. -/
theorem Road.back {pos : Int} {xs : List Int} {st : Nat → Pr} (h : Road pos xs st) (hx : xs.length ≤ 200) (hp : -4611686018427387904 ≤ pos ∧ pos ≤ 4611686018427387904) (hj : (st xs.length).jump = false) {i : Nat} (hi : i + 1 < xs.length) {b : Int} (hb : xs[i]? = some b) : stp (st (i + 2)) b = st (i + 1) := by
  have h1 := h.next (i + 1) _ (List.getElem?_eq_getElem hi)
  have h2 := h.next i b hb
  have hn := h.near (i + 1) (by omega)
  have hj2 := h.jumps (Nat.le_refl _) hj (xs.length - (i + 2)) (i + 2) (by omega)
  rw [h1] at hj2 ⊢
  exact stp_back hj2 (by rw [h2]; rfl) (by omega) (by omega)
theorem Road.home {pos : Int} {xs : List Int} {st : Nat → Pr} (h : Road pos xs st) (hx : xs.length ≤ 200) (hp : -4611686018427387904 ≤ pos ∧ pos ≤ 4611686018427387904) (hj : (st xs.length).jump = false) (hi : 0 < xs.length) : stp (st 1) 0 = ⟨0, pos, false⟩ := by
  have h1 := h.next 0 _ (List.getElem?_eq_getElem hi)
  have hj2 := h.jumps (Nat.le_refl _) hj (xs.length - 1) 1 (by omega)
  rw [h1] at hj2 ⊢
  rw [stp_back hj2 (by rw [h.zero]; rfl) (by rw [h.zero]; dsimp only; omega) (by rw [h.zero]; dsimp only; omega), h.zero]
theorem step_pr (p q : Pr) (m : Int) (h : stp p m = q) (hs : PosR p.pos) (w : World) : Calls Try.prog 10 #[.agg #[.int .i64 p.lie, .int .i64 p.pos, .bool p.jump], .int .i64 m] w fun e w' => e = .returned (.agg #[.int .i64 q.lie, .int .i64 q.pos, .bool q.jump]) ∧ Below w.heap.size w w' := by
  have := step_any p.lie p.pos p.jump m w hs
  rw [show stp ⟨p.lie, p.pos, p.jump⟩ m = q from h] at this
  exact this
set_option maxHeartbeats 1000000 in
theorem back_out (pos : Int) (v : Value) (xs : List Int) (w : World) (hv : Sl (Value.int .i64) w v xs) (hl : ¬ (xs.length ≤ 200 ∧ -4611686018427387904 ≤ pos ∧ pos ≤ 4611686018427387904)) : Calls Try.prog 4 #[.int .i64 pos, v] w fun e w' => e = .returned (.bool true) ∧ Below w.heap.size w w' := by
  obtain ⟨a, c, ev⟩ := hv.len
  obtain ⟨n, hn⟩ : ∃ n, n = xs.length := ⟨_, rfl⟩
  rw [← hn] at ev hl
  subst ev
  clear hv hn
  rcases (show 200 < (n : Int) ∨ (¬ 200 < (n : Int) ∧ 4611686018427387904 < pos) ∨ (¬ 200 < (n : Int) ∧ ¬ 4611686018427387904 < pos ∧ pos < -4611686018427387904) by omega) with h1 | ⟨h1, h2⟩ | ⟨h1, h2, h3⟩
  all_goals
    clear hl
    go_enter Try.func4, Try.ntmps4
    go_wp2_with fail
    (with_reducible refine (small_true _).mono ?_)
    rintro e w1 ⟨rfl, hb⟩
    have HB1 := Lib.hid hb
    clear hb
    go_wp2_with fail
    go_ret
    exact ⟨rfl, HB1.out⟩
set_option maxHeartbeats 4000000 in
theorem back_main (pos : Int) (v : Value) (xs : List Int) (w : World) (hv : Sl (Value.int .i64) w v xs) (hl : xs.length ≤ 200) (hp : -4611686018427387904 ≤ pos ∧ pos ≤ 4611686018427387904) : Calls Try.prog 4 #[.int .i64 pos, v] w fun e w' => e = .returned (.bool true) ∧ Below w.heap.size w w' := by
  obtain ⟨a, c, ev⟩ := hv.len
  obtain ⟨n, hn⟩ : ∃ n, n = xs.length := ⟨_, rfl⟩
  obtain ⟨st, hst⟩ := road_some pos xs
  have HST := Lib.hid hst
  have HPP := Lib.hid hp
  rw [← hn] at ev hl
  subst ev
  have HV := Lib.hid hv
  have HN := Lib.hid hn
  have hlI : ¬ (200 : Int) < (n : Int) := by omega
  have hp0 : ¬ 4611686018427387904 < pos := by omega
  have hp1 : ¬ pos < -4611686018427387904 := by omega
  clear hv hn hst hp
  go_enter Try.func4, Try.ntmps4
  go_wp2_with fail
  (with_reducible refine (small_true _).mono ?_)
  rintro e w1 ⟨rfl, hb⟩
  have k1 := below_alloc (Below.refl _ (w1.alloc (.cells #[.int .i64 0, .int .i64 pos, .bool false] 23))) (.cells #[.int .i64 0, .int .i64 pos, .bool false] 23)
  have HS0 := Lib.hid ((box3 w1 0 pos false).below k1)
  have HP0 := Lib.hid (box3 (w1.alloc (.cells #[.int .i64 0, .int .i64 pos, .bool false] 23)) 0 pos false)
  rw [show (w1.alloc (.cells #[.int .i64 0, .int .i64 pos, .bool false] 23)).heap.size = w1.heap.size + 1 by simp] at HP0
  have HB0 := Lib.hid (below_alloc (below_alloc hb (.cells #[.int .i64 0, .int .i64 pos, .bool false] 23)) (.cells #[.int .i64 0, .int .i64 pos, .bool false] 23))
  have HG := Lib.hid (show w.heap.size ≤ w1.heap.size from hb.size)
  obtain ⟨x0, x1, x2⟩ := (box3 w1 0 pos false).three
  obtain ⟨g, hg⟩ : ∃ g, g = w1.heap.size := ⟨_, rfl⟩
  rw [← hg] at HP0 HS0 HG
  clear hb k1
  go_wp2_with fail
  rw [← hg]
  clear hg x0 x1 x2
  go_loopw [8] (fun i wr => ∃ k : Nat, k ≤ n ∧ i = .int .i64 (k : Int) ∧ Hid (Below w.heap.size w wr) ∧ Hid (Blk wr g #[.int .i64 0, .int .i64 pos, .bool false] 23) ∧ Hid (Blk wr (g + 1) #[.int .i64 (st k).lie, .int .i64 (st k).pos, .bool (st k).jump] 23)) (fun i _ => n - (intOf i).toNat)
  case atStart => exact ⟨0, by omega, rfl, HB0, HS0, Lib.hid (by rw [HST.out.zero]; exact HP0.out)⟩
  case round =>
    obtain ⟨k, hk, rfl, HB, HS, HP⟩ := hrel
    clear HB0 HS0 HP0
    by_cases hlt : k < n
    · obtain ⟨g2, o2, cap, m, ev, _, hg2, hm, hc⟩ := HV.out.at_ k (by rw [← HN.out]; exact hlt)
      simp only [Value.slice.injEq] at ev
      obtain ⟨rfl, en, rfl⟩ := ev
      have hc := below_cell HB.out hc
      have HSd := Lib.hid (HS.out.below (bel_drew wr))
      have HPd := Lib.hid (HP.out.below (bel_drew wr))
      have HBd := Lib.hid (below_call HB.out (bel_drew wr))
      have hltI : (k : Int) < (n : Int) := by omega
      have hnear := HST.out.near k (by rw [← HN.out]; omega)
      have HC := Lib.hid (step_pr _ _ _ (HST.out.next k m hm).symm ⟨by have := HPP.out; omega, by have := HPP.out; omega⟩)
      obtain ⟨c0, c1, c2⟩ := HP.out.three
      clear hm hg2 en hnear
      go_wp2_with fail
      go_still_tail 5, (by kernel_rfl)
      change wpList _ _ _ _ _ wr.drew
      generalize wr.drew = w2 at *
      clear c0 c1 c2 hc HP HS HB
      go_wp2_with fail
      (with_reducible refine (HC.out _).mono ?_)
      rintro e w3 ⟨rfl, hb⟩
      have HB3 := Lib.hid (below_call HBd.out hb)
      have HS3 := Lib.hid (HSd.out.below hb)
      have HP3 := Lib.hid (HPd.out.below hb)
      obtain ⟨c0, c1, c2⟩ := HP3.out.three
      obtain ⟨f0, f1, f2, _⟩ := HP3.out.frz4
      clear hb HBd HPd HSd HC
      go_wp2_with fail
      go_roundw
      case rel => exact ⟨k + 1, by omega, by go_num, Lib.hid (bel_put3 HB3.out (by have := HG.out; omega) _ _ _), Lib.hid (HS3.out.far3 (by omega) _ _ _), Lib.hid (HP3.out.put3 _ _ _)⟩
      case measure => simp [intOf]; omega
    · have HKN := Lib.hid (show k = n by omega)
      have hltI : ¬ (k : Int) < (n : Int) := by omega
      by_cases hj : (st n).jump = true
      · obtain ⟨l, s, e2⟩ : ∃ l s, st n = ⟨l, s, true⟩ := ⟨(st n).lie, (st n).pos, by rw [← hj]⟩
        have HPn := Lib.hid (show Blk wr (g + 1) #[.int .i64 l, .int .i64 s, .bool true] 23 by have := HP.out; rw [HKN.out, e2] at this; exact this)
        obtain ⟨c0, c1, c2⟩ := HPn.out.three
        clear hj e2 HP HS hlt
        go_wp2_with fail
        (with_reducible refine (rest_to l s true false (by simp) _).mono ?_)
        rintro e w3 ⟨rfl, hb⟩
        have HB3 := Lib.hid (below_call HB.out hb)
        clear hb HB HPn c0 c1 c2
        go_wp2_with fail
        go_ret
        exact ⟨rfl, HB3.out⟩
      · have hj : (st n).jump = false := by simpa using hj
        have HJ := Lib.hid (show (st xs.length).jump = false by rw [← HN.out]; exact hj)
        have HPn := Lib.hid (show Blk wr (g + 1) #[.int .i64 (st n).lie, .int .i64 (st n).pos, .bool false] 23 by have := HP.out; rw [HKN.out, hj] at this; exact this)
        have HPs := Lib.hid (show Blk wr (g + 1) #[.int .i64 (st n).lie, .int .i64 (st n).pos, .bool (st n).jump] 23 by have := HP.out; rw [HKN.out] at this; exact this)
        obtain ⟨c0, c1, c2⟩ := HPn.out.three
        clear hj HP hlt
        by_cases hn0 : n = 0
        · have HZ := Lib.hid hn0
          have HPz := Lib.hid (show Blk wr (g + 1) #[.int .i64 0, .int .i64 pos, .bool false] 23 by have := HPs.out; rw [HZ.out, HST.out.zero] at this; exact this)
          have hnI : ¬ 0 < (n : Int) := by omega
          have hn2 : (n : Int) - 2 < 0 := by omega
          have HNI := Lib.hid hnI
          clear hn0 HPn HPs
          go_wp2_with fail
          clear c0 c1 c2
          go_loopw [9] (fun i wq => i = .int .i64 ((n : Int) - 2) ∧ wq = wr) (fun i _ => 0)
          case atStart => exact ⟨rfl, rfl⟩
          case round =>
            obtain ⟨rfl, rfl⟩ := hrel
            obtain ⟨c0, c1, c2⟩ := HPz.out.three
            obtain ⟨d0, d1, d2⟩ := HS.out.three
            have q1 := eql_same 0 pos false
            go_wp2_with fail
            go_ret
            exact ⟨rfl, HB.out⟩
        · have hnI : 0 < (n : Int) := by omega
          have HN1 := Lib.hid (show 0 < n by omega)
          have HNI := Lib.hid hnI
          have HPe := Lib.hid (show Blk wr (g + 1) #[.int .i64 (st (n - 1 + 1)).lie, .int .i64 (st (n - 1 + 1)).pos, .bool (st (n - 1 + 1)).jump] 23 by rw [show n - 1 + 1 = n by omega]; exact HPs.out)
          clear hn0 HPn HPs
          go_wp2_with fail
          clear c0 c1 c2
          go_loopw [9] (fun i wq => ∃ (j : Nat) (z : Int), j + 1 ≤ n ∧ i = .int .i64 z ∧ Hid (z = (j : Int) - 1) ∧ Hid (Below w.heap.size w wq) ∧ Hid (Blk wq g #[.int .i64 0, .int .i64 pos, .bool false] 23) ∧ Hid (Blk wq (g + 1) #[.int .i64 (st (j + 1)).lie, .int .i64 (st (j + 1)).pos, .bool (st (j + 1)).jump] 23)) (fun i _ => (intOf i + 1).toNat)
          case atStart => exact ⟨n - 1, (n : Int) - 2, by omega, rfl, Lib.hid (by omega), HB, HS, HPe⟩
          case round =>
            obtain ⟨j, z, hj, rfl, HZ, HB, HS, HP⟩ := hrel
            clear HPe
            rcases Nat.eq_zero_or_pos j with hj0 | hj0
            · have HJ0 := Lib.hid hj0
              have hz : z < 0 := by have := HZ.out; omega
              have HP1 := Lib.hid (show Blk wr (g + 1) #[.int .i64 (st 1).lie, .int .i64 (st 1).pos, .bool (st 1).jump] 23 by have := HP.out; rw [HJ0.out] at this; exact this)
              have hnear := HST.out.near 1 (by rw [← HN.out]; omega)
              have HC := Lib.hid (step_pr _ _ 0 (HST.out.home (by rw [← HN.out]; exact hl) HPP.out HJ.out (by rw [← HN.out]; omega)) ⟨by have := HPP.out; omega, by have := HPP.out; omega⟩)
              obtain ⟨c0, c1, c2⟩ := HP1.out.three
              clear hj hj0 hnear HP
              go_wp2_with fail
              (with_reducible refine (HC.out _).mono ?_)
              rintro e w3 ⟨rfl, hb⟩
              have HB3 := Lib.hid (bel_put3 (below_call HB.out hb) (b := g + 1) (by have := HG.out; omega) (.int .i64 0) (.int .i64 pos) (.bool false))
              have HP3 := Lib.hid ((HP1.out.below hb).put3 (.int .i64 0) (.int .i64 pos) (.bool false))
              have HS3 := Lib.hid ((HS.out.below hb).far3 (b := g + 1) (by omega) (.int .i64 0) (.int .i64 pos) (.bool false))
              obtain ⟨f0, f1, f2, _⟩ := (HP1.out.below hb).frz4
              obtain ⟨c0, c1, c2⟩ := (HP1.out.below hb).three
              obtain ⟨d0, d1, d2⟩ := (HS.out.below hb).three
              have q1 := eql_same 0 pos false
              clear hb HB HP1 HS HC
              go_wp2_with fail
              go_ret
              exact ⟨rfl, HB3.out⟩
            · obtain ⟨q, hq⟩ : ∃ q, j = q + 1 := ⟨j - 1, by omega⟩
              have hz : z = (q : Int) := by have := HZ.out; omega
              subst hz
              have hqn : q < n := by omega
              obtain ⟨g2, o2, cap, m, ev, _, hg2, hm, hc⟩ := HV.out.at_ q (by rw [← HN.out]; exact hqn)
              simp only [Value.slice.injEq] at ev
              obtain ⟨rfl, en, rfl⟩ := ev
              have hc := below_cell HB.out hc
              have HPj := Lib.hid (show Blk wr (g + 1) #[.int .i64 (st (q + 2)).lie, .int .i64 (st (q + 2)).pos, .bool (st (q + 2)).jump] 23 by have := HP.out; rw [hq] at this; exact this)
              have HSd := Lib.hid (HS.out.below (bel_drew wr))
              have HPd := Lib.hid (HPj.out.below (bel_drew wr))
              have HBd := Lib.hid (below_call HB.out (bel_drew wr))
              have hqI : (q : Int) < (n : Int) := by omega
              have hq0 : 0 ≤ (q : Int) := by omega
              have hnear := HST.out.near (q + 2) (by rw [← HN.out]; omega)
              have HC := Lib.hid (step_pr _ _ _ (HST.out.back (by rw [← HN.out]; exact hl) HPP.out HJ.out (by rw [← HN.out]; omega) hm) ⟨by have := HPP.out; omega, by have := HPP.out; omega⟩)
              have HQJ := Lib.hid hj
              have HJQ := Lib.hid hq
              obtain ⟨c0, c1, c2⟩ := HPj.out.three
              clear hm hg2 en hnear hq hj hj0 HP HZ
              go_wp2_with fail
              go_still_tail 5, (by kernel_rfl)
              change wpList _ _ _ _ _ wr.drew
              generalize wr.drew = w2 at *
              clear c0 c1 c2 hc HPj HS HB
              go_wp2_with fail
              (with_reducible refine (HC.out _).mono ?_)
              rintro e w3 ⟨rfl, hb⟩
              have HB3 := Lib.hid (below_call HBd.out hb)
              have HS3 := Lib.hid (HSd.out.below hb)
              have HP3 := Lib.hid (HPd.out.below hb)
              obtain ⟨c0, c1, c2⟩ := HP3.out.three
              obtain ⟨f0, f1, f2, _⟩ := HP3.out.frz4
              clear hb HBd HPd HSd HC
              go_wp2_with fail
              go_roundw
              case rel => exact ⟨q, (q : Int) - 1, by have := HQJ.out; have := HJQ.out; omega, by go_num, Lib.hid rfl, Lib.hid (bel_put3 HB3.out (by have := HG.out; omega) _ _ _), Lib.hid (HS3.out.far3 (by omega) _ _ _), Lib.hid (HP3.out.put3 _ _ _)⟩
              case measure => simp [intOf]
theorem back_any (pos : Int) (v : Value) (xs : List Int) (w : World) (hv : Sl (Value.int .i64) w v xs) : Calls Try.prog 4 #[.int .i64 pos, v] w fun e w' => e = .returned (.bool true) ∧ Below w.heap.size w w' := by
  by_cases h : xs.length ≤ 200 ∧ -4611686018427387904 ≤ pos ∧ pos ≤ 4611686018427387904
  · exact back_main pos v xs w hv h.1 h.2
  · exact back_out pos v xs w hv h
end Go.Proofs.Ytemomgbgfelooaa
