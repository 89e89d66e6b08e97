/-
  WheelOnce, walked.
-/
import Derived.Test.YtaonnkocopngaaaDoorOnceM
import Derived.Test.YtaonnkocopngaaaDoorOpen
namespace Go.Proofs.YtaonnkocopngaaaDoor
open Go.RowKit

variable {b n now : Nat} {A : List Tm} {w w1 w2 : World}
theorem infoI2 : (Tryd.prog.info? 3).map (fun i => (i.zero, i.size, i.bytes)) = some (some (.int .i64 0), 1, 8) := by kernel_rfl
theorem run_make_ints (n : Nat) (hn : n ≤ 1000) : ∃ M : Array Value, M.size = n ∧ (∀ j, j < n → M[j]? = some (.int .i64 0)) ∧
    ∀ w : World, (Instr.makeSlice 39 (.int .i64 (n : Int)) (.int .i64 (n : Int))).run Tryd.prog w = .ok (.slice (some ⟨w.heap.size, 0, none⟩) n n) (w.alloc (.cells M 3)) := by
  obtain ⟨i0, hi, hz0, hz1, hz2⟩ := info_parts infoI2
  refine ⟨madeCells (Value.int .i64 0).cells (n * 1), by rw [size_madeCells]; omega, ?_, fun w => ?_⟩
  · intro j hj
    have h1 : j % 1 = 0 := Nat.mod_one j
    simp [madeCells, Value.cells, hj, h1]
  · have := run_make (P := Tryd.prog) w 39 3 i0 (.int .i64 0) Tryd.underlying39 hi hz0 .i64 .i64 (n : Int) (n : Int) (by omega) (by omega) (by rw [hz2]; omega) (by omega)
    rw [hz1] at this
    simpa using this
/-- The law's wheel, and its counts beside it. -/
def OnceSt (w wr : World) (b gf n s : Nat) (A : List Tm) (cs : List Int) : Prop :=
  ∃ fp, Wl wr b 64 s A fp ∧ Below w.heap.size w wr ∧ (∀ g, fp g → w.heap.size ≤ g) ∧ Off fp wr (.slice (some ⟨gf, 0, none⟩) n n) cs ∧ w.heap.size ≤ gf
/-- The same, and what has just fired. -/
def OnceIn (w wr : World) (b gf n s : Nat) (A : List Tm) (cs : List Int) (v : Value) (T : List Int) : Prop :=
  ∃ fp, Wl wr b 64 s A fp ∧ Below w.heap.size w wr ∧ (∀ g, fp g → w.heap.size ≤ g) ∧ Off fp wr (.slice (some ⟨gf, 0, none⟩) n n) cs ∧ w.heap.size ≤ gf ∧ Off fp wr v T ∧ v.ownBlock ≠ some gf
theorem OnceIn.st {w wr : World} {b gf n s : Nat} {A : List Tm} {cs T : List Int} {v : Value} (h : OnceIn w wr b gf n s A cs v T) : OnceSt w wr b gf n s A cs := by
  obtain ⟨fp, h1, h2, h3, h4, h5, _, _⟩ := h
  exact ⟨fp, h1, h2, h3, h4, h5⟩
theorem OnceIn.bel {w wr : World} {b gf n s : Nat} {A : List Tm} {cs T : List Int} {v : Value} (h : OnceIn w wr b gf n s A cs v T) : Below w.heap.size w wr := by
  obtain ⟨fp, h1, h2, _⟩ := h
  exact h2
theorem OnceIn.drew {w wr : World} {b gf n s : Nat} {A : List Tm} {cs T : List Int} {v : Value} (h : OnceIn w wr b gf n s A cs v T) (m : Nat) : OnceIn w (wr.drewN m) b gf n s A cs v T := by
  obtain ⟨fp, h1, h2, h3, h4, h5, h6, h7⟩ := h
  have hb := below_drewN wr m
  exact ⟨fp, h1.below hb, below_call h2 hb, h3, h4.still hb, h5, h6.still hb, h7⟩
theorem once_tick {b gf n s : Nat} {A : List Tm} {cs : List Int} {w wr : World} (h : OnceSt w wr b gf n s A cs) (hn : s ≤ 100000000) :
    Calls Tryd.prog 17 #[.pointer (some ⟨b, 0, none⟩)] wr fun e w2 => ∃ v, e = .returned v ∧ OnceIn w w2 b gf n (s + 1) (A.filter fun a => a.due != s + 1) cs v ((A.filter fun a => a.due == s + 1).map Tm.tag) := by
  obtain ⟨fp, h1, h2, h3, h4, h5⟩ := h
  refine (tick_on h1 hn h2 h3).mono ?_
  rintro e w2 ⟨v, rfl, r1, fp', r2, r3, r4, r5, r6, r7⟩
  have hgf : gf < wr.heap.size := h4.1.lt rfl
  refine ⟨v, rfl, fp', r2, r3, r4, h4.on r5 r6, h5, ⟨r1, fun g hg => (r7 g hg).2⟩, fun e => ?_⟩
  have := (r7 gf e).1
  omega
theorem once_set {b gf n s : Nat} {A : List Tm} {cs T : List Int} {v : Value} {w wr : World} (h : OnceIn w wr b gf n s A cs v T) (hl : cs.length = n) (p : Nat) (x : Int) : OnceIn w (wr.setCell ⟨gf, p, none⟩ (.int .i64 x)) b gf n s A (cs.set p x) v T := by
  obtain ⟨fp, h1, h2, h3, h4, h5, h6, h7⟩ := h
  have hk : Keep (fun g => g = gf) wr (wr.setCell ⟨gf, p, none⟩ (.int .i64 x)) := Keep.set_ wr gf p _ rfl
  have hn : ¬ fp gf := h4.2 gf rfl
  refine ⟨fp, h1.keep hk (fun g hg e => hn (by rw [← e]; exact hg)), h2.trans (hk.below (fun g e => by omega) h2.size), h3, ⟨Own.set_ h4.1 hl.symm p x, h4.2⟩, h5, ⟨h6.1.keep hk (fun g hg e => h7 (by rw [hg, e])), h6.2⟩, h7⟩
theorem once_start {b n s : Nat} {A : List Tm} {w wr : World} (h : Mine w wr b 64 s A) (M : Array Value) (h1 : M.size = n) (h2 : ∀ j, j < n → M[j]? = some (.int .i64 0)) (hn : n ≤ 1000) :
    OnceSt w (wr.alloc (.cells M 3)) b wr.heap.size n s A (List.replicate n 0) := by
  obtain ⟨fp, e1, e2, e3⟩ := h
  have hb := below_alloc (Below.refl wr.heap.size wr) (.cells M 3)
  refine ⟨fp, e1.below hb, below_call e2 hb, e3, ⟨?_, fun g hg hf => ?_⟩, e2.size⟩
  · have := World.ownsRow_lit (base := 0) (e := 3) (size := 1) wr M n (Nat.zero_le _) (by unfold maxLen; omega) (by omega)
    show World.ownsRow _ 0 3 1 _ _ _
    rw [List.length_replicate, show (List.replicate n (0 : Int)).map (Value.int .i64) = M.toList from ?_]
    · exact this
    · apply List.ext_getElem?
      intro j
      by_cases c : j < n
      · rw [show M.toList[j]? = M[j]? from Array.getElem?_toList, h2 j c]; simp [List.getElem?_replicate, c]
      · rw [List.getElem?_eq_none (by simp; omega), List.getElem?_eq_none (by simp; omega)]
  · have := e1.lt g hf
    have hgw : wr.heap.size = g := by injection hg
    omega

set_option maxRecDepth 10000 in
set_option maxHeartbeats 1000000 in
theorem once_main (v : Value) (xs : List Int) (w : World) (hs : Sl (Value.int .i64) w v xs) (hw : ∀ n ∈ xs, (Lit.int .i64 n).wf = true) (hl : xs.length ≤ 64) :
    Calls Tryd.prog 5 #[v] w fun e w' => e = .returned (.bool true) ∧ Below w.heap.size w w' := by
  obtain ⟨a0, c0, rfl⟩ := hs.len
  obtain ⟨n, HN⟩ : ∃ n, Hid (n = xs.length) := ⟨_, Lib.hid rfl⟩
  rw [← HN.out] at hl
  have HS := Lib.hid hs
  have HW := Lib.hid hw
  clear hs hw
  rw [← HN.out]
  have q1 : decide (64 < (n : Int)) = false := by simp; omega
  go_enter Tryd.func5, Tryd.ntmps5
  go_wp2_with fail
  (with_reducible refine (small_true w).mono ?_)
  rintro e w1 ⟨rfl, hb⟩
  have HB := Lib.hid hb
  clear hb
  go_wp2_with fail
  (with_reducible refine (mine_new 64 64 (by decide) HB.out).mono ?_)
  rintro e w2 ⟨b, rfl, hm⟩
  have HM := Lib.hid hm
  clear hm HB
  go_wp2_with fail
  clear q1
  go_loopw [5, 6] (fun u5 u6 wr => ∃ (j mo : Nat), j ≤ n ∧ mo ≤ 20000 ∧ u5 = .int .i64 (mo : Int) ∧ u6 = .int .i64 (j : Int) ∧ Hid (∀ i, i < j → 1 ≤ tk xs i ∧ tk xs i ≤ mo ∧ xs[i]? = some (tk xs i : Int)) ∧ Hid (Mine w wr b 64 0 (Put xs j))) (fun _ u6 _ => n - (intOf u6).toNat)
  case atStart => exact ⟨0, 0, by omega, by omega, rfl, rfl, Lib.hid (fun i hi => by omega), HM⟩
  case round =>
    obtain ⟨j, mo, hj, hmo, rfl, rfl, HD, HK⟩ := hrel
    clear HM
    by_cases hlt : j < n
    · obtain ⟨g, o, cap, x, ev, _, hg, hx, hcell⟩ := HS.out.at_ j (by rw [← HN.out]; exact hlt)
      simp only [Value.slice.injEq] at ev
      obtain ⟨rfl, _, rfl⟩ := ev
      have hcx := below_cell HK.out.below hcell
      have HX := Lib.hid hx
      clear hcell hx hg
      by_cases c1 : x < 1
      · have q1 : decide (x < 1) = true := decide_eq_true c1
        go_wp2_with fail
        go_ret
        exact ⟨rfl, HK.out.below⟩
      · have q1 : decide (x < 1) = false := decide_eq_false c1
        by_cases c2 : 20000 < x
        · have q2 : decide (20000 < x) = true := decide_eq_true c2
          go_wp2_with fail
          go_ret
          exact ⟨rfl, HK.out.below⟩
        · have q2 : decide (20000 < x) = false := decide_eq_false c2
          obtain ⟨d, rfl⟩ : ∃ d : Nat, x = (d : Int) := ⟨x.toNat, by omega⟩
          have htk : tk xs j = d := by unfold tk; rw [List.getD_eq_getElem?_getD, HX.out]; simp
          have h1d : 1 ≤ d := by omega
          have h2d : d ≤ 20000 := by omega
          obtain ⟨mx, hmxe⟩ : ∃ mx, mx = max mo d := ⟨_, rfl⟩
          have hmx : ∀ (ts : Array TypeId) (t : TypeId) (w : World), (Builtin.max_ ts t #[.int .i64 (mo : Int), .int .i64 (d : Int)]).run Tryd.prog w = .ok (.int .i64 (mx : Int)) w := by
            intro ts t w
            rw [run_max_int2, show (if (d : Int) > (mo : Int) then (d : Int) else (mo : Int)) = (mx : Int) by split <;> omega]
          have HMX := Lib.hid hmxe
          clear hmxe
          have HTK := Lib.hid htk
          clear c1 c2 htk
          go_wp2_with fail
          (with_reducible refine (mine_arm HK.out (by decide) j d (put_least xs 64 j (by omega)) (d : Int) (j : Int) rfl h1d (by omega)).mono ?_)
          rintro e w3 ⟨rfl, hm⟩
          rw [← HTK.out, put_next] at hm
          have HM := Lib.hid hm
          have HMO := Lib.hid hmo
          have H2D := Lib.hid h2d
          have H1D := Lib.hid h1d
          clear hm HK q1 q2 hmx hmo h2d h1d
          go_wp2_with fail
          go_roundw
          case rel => exact ⟨j + 1, mx, by omega, by have := HMX.out; have := HMO.out; have := H2D.out; omega, rfl, by go_num, Lib.hid (fun i hi => by
            have := HMX.out
            by_cases c : i = j
            · subst c
              exact ⟨by rw [HTK.out]; exact H1D.out, by rw [HTK.out]; omega, by rw [HTK.out]; exact HX.out⟩
            · obtain ⟨r1, r2, r3⟩ := HD.out i (by omega)
              exact ⟨r1, by omega, r3⟩), HM⟩
          case measure => simp [intOf]; omega
    · obtain rfl : j = n := by omega
      have HMO := Lib.hid hmo
      obtain ⟨M, hM1, hM2, hmk⟩ := run_make_ints j (by omega)
      have HM1 := Lib.hid hM1
      have HM2 := Lib.hid hM2
      clear hj hlt hmo hM1 hM2
      go_wp2_with fail
      have HO := Lib.hid (once_start HK.out M HM1.out HM2.out (by omega))
      rw [← rem_zero xs j (fun i hi => (HD.out i hi).1), ← cq_start xs j (fun i hi => (HD.out i hi).1)] at HO
      clear hmk
      obtain ⟨gf, hgf⟩ : ∃ gf, gf = wr.heap.size := ⟨_, rfl⟩
      rw [← hgf] at HO ⊢
      clear hgf
      go_loopw [10] (fun u wr => ∃ s : Nat, s ≤ mo ∧ u = .int .i64 ((s : Int) + 1) ∧ Hid (OnceSt w wr b gf j s (Rem xs j s) (Cq xs j s 0))) (fun u _ => mo + 1 - (intOf u).toNat)
      case atStart => exact ⟨0, by omega, rfl, HO⟩
      case round =>
        obtain ⟨s, hs, rfl, HR⟩ := hrel
        clear HO
        by_cases hl2 : s < mo
        · have hle : (s : Int) + 1 ≤ (mo : Int) := by omega
          go_wp2_with fail
          (with_reducible refine (once_tick HR.out (by have := HMO.out; omega)).mono ?_)
          rintro e w3 ⟨v, rfl, hm⟩
          rw [rem_fire, rem_rest] at hm
          have HI := Lib.hid hm
          clear hm HR
          go_wp2_with fail
          have hvl : ∃ a c, v = .slice a (Fd xs j s).length c := by
            obtain ⟨fp, _, _, _, _, _, h6, _⟩ := HI.out
            obtain ⟨a, c, e⟩ := h6.1.len
            rw [List.length_map] at e
            exact ⟨a, c, e⟩
          obtain ⟨av, cv, rfl⟩ := hvl
          obtain ⟨F, HF⟩ : ∃ F, Hid (F = (Fd xs j s).length) := ⟨_, Lib.hid rfl⟩
          have hF64 : F ≤ 64 := by
            have h1 : (Fd xs j s).length ≤ (List.range j).length := List.length_filter_le _ _
            rw [← HF.out, List.length_range] at h1
            omega
          rw [← HF.out] at HI ⊢
          go_loopw [12] (fun u wr => ∃ q : Nat, q ≤ F ∧ u = .int .i64 (q : Int) ∧ Hid (OnceIn w wr b gf j (s + 1) (Rem xs j (s + 1)) (Cq xs j s q) (.slice av F cv) ((Fd xs j s).map fun i : Nat => (i : Int)))) (fun u _ => F - (intOf u).toNat)
          case atStart => exact ⟨0, by omega, rfl, HI⟩
          case round =>
            obtain ⟨q, hq, rfl, HQ⟩ := hrel
            clear HI
            by_cases hl3 : q < F
            · have hqF : (q : Int) < (F : Int) := by omega
              obtain ⟨p, hp⟩ : ∃ p, (Fd xs j s)[q]? = some p := ⟨_, List.getElem?_eq_getElem (by rw [← HF.out]; exact hl3)⟩
              obtain ⟨hpj, hpt⟩ := fd_mem (List.mem_of_getElem? hp)
              obtain ⟨gv, hav, hc1⟩ : ∃ gv, av = some ⟨gv, 0, none⟩ ∧ ∀ i y : Nat, (Fd xs j s)[i]? = some y → wr.cell? ⟨gv, i, none⟩ = some (.int .i64 (y : Int)) := by
                obtain ⟨fp, _, _, _, _, _, h6, _⟩ := HQ.out
                obtain ⟨gv, cap, e1, _, _⟩ := h6.1.at_ q (p : Int) (by rw [List.getElem?_map, hp]; rfl)
                simp only [Value.slice.injEq] at e1
                obtain ⟨e1, _, _⟩ := e1
                refine ⟨gv, e1, fun i y hy => ?_⟩
                obtain ⟨gv2, cap2, e2, _, e3, _⟩ := h6.1.at_ i (y : Int) (by rw [List.getElem?_map, hy]; rfl)
                simp only [Value.slice.injEq] at e2
                obtain ⟨e2, _, _⟩ := e2
                rw [e1] at e2
                injection e2 with e2
                rw [show gv = gv2 by injection e2]
                exact e3
              subst hav
              have hcf : wr.cell? ⟨gf, p, none⟩ = some (.int .i64 0) ∧ wr.frozen? ⟨gf, p, none⟩ = false := by
                obtain ⟨fp, _, _, _, h4, _, _, _⟩ := HQ.out
                obtain ⟨gv2, cap2, e2, _, e3, e4⟩ := h4.1.at_ p 0 (cq_zero hp)
                simp only [Value.slice.injEq] at e2
                obtain ⟨e2, _, _⟩ := e2
                injection e2 with e2
                rw [show gf = gv2 by injection e2]
                exact ⟨e3, e4⟩
              obtain ⟨hcf1, hcf2⟩ := hcf
              have hcl : ∃ g o, a0 = some ⟨g, o, none⟩ ∧ wr.cell? ⟨g, o + p, none⟩ = some (.int .i64 ((s : Int) + 1)) := by
                obtain ⟨g, o, cap, x, ev, _, hg, hx, hcell⟩ := HS.out.at_ p (by rw [← HN.out]; exact hpj)
                simp only [Value.slice.injEq] at ev
                obtain ⟨e0, _, _⟩ := ev
                refine ⟨g, o, e0, ?_⟩
                rw [(HD.out p hpj).2.2] at hx
                injection hx with hx
                rw [hpt] at hx
                have := below_cell HQ.out.bel hcell
                rw [← hx] at this
                exact this
              obtain ⟨gl, ol, rfl, hcx⟩ := hcl
              have q1 : decide ((p : Int) < 0) = false := by simp
              have q2 : decide ((j : Int) ≤ (p : Int)) = false := by simp; omega
              have q2n : decide (j ≤ p) = false := by simp; omega
              have hcp := hc1 q p hp
              have hpz : (p : Int) < (j : Int) := by omega
              have HC1 := Lib.hid hc1
              have HP := Lib.hid hp
              have HPT := Lib.hid hpt
              clear hc1 hp hpt hle
              rcases Nat.eq_zero_or_pos q with hq0 | hq0
              · have q3 : decide (0 < q) = false := by simp; omega
                have q4 : decide (0 < (q : Int)) = false := by simp; omega
                clear hq0
                go_wp2_with fail
                go_quiet (fail)
                go_wp2_with fail
                go_roundw
                case rel => exact ⟨q + 1, by omega, by go_num, Lib.hid (by rw [← cq_next HP.out]; exact once_set (HQ.out.drew nq) (cq_len _ _ _ _) p 1)⟩
                case measure => simp [intOf]; omega
              · obtain ⟨r, hr⟩ : ∃ r, q = r + 1 := ⟨q - 1, by omega⟩
                obtain ⟨p2, hp2⟩ : ∃ p2, (Fd xs j s)[r]? = some p2 := ⟨_, List.getElem?_eq_getElem (by rw [← HF.out]; omega)⟩
                have hpp := fd_lt (show r < q by omega) hp2 HP.out
                have hcr := HC1.out r p2 hp2
                have hrq : (q : Int) - 1 = (r : Int) := by omega
                have hrF : (r : Int) < (F : Int) := by omega
                have q3 : decide (0 < q) = true := by simp; omega
                have q4 : decide (0 < (q : Int)) = true := by simp; omega
                have q5 : decide ((p : Int) ≤ (p2 : Int)) = false := by simp; omega
                have q6 : decide (p ≤ p2) = false := by simp; omega
                have HPP := Lib.hid hpp
                clear hq0 hr hp2 hpp
                go_wp2_with fail
                go_quiet (fail)
                go_wp2_with fail
                go_roundw
                case rel => exact ⟨q + 1, by omega, by go_num, Lib.hid (by rw [← cq_next HP.out]; exact once_set (HQ.out.drew nq) (cq_len _ _ _ _) p 1)⟩
                case measure => simp [intOf]; omega
            · obtain rfl : q = F := by omega
              have HR := Lib.hid (show OnceSt w wr b gf j (s + 1) (Rem xs j (s + 1)) (Cq xs j (s + 1) 0) by
                have := HQ.out.st
                rw [HF.out, cq_end] at this
                exact this)
              have hmo2 := HMO.out
              clear HQ
              go_wp2_with fail
              go_roundw
              case rel => exact ⟨s + 1, by omega, by go_num, HR⟩
              case measure => simp [intOf]; omega
        · obtain rfl : s = mo := by omega
          clear hl2
          rw [rem_end xs j s (fun i hi => (HD.out i hi).2.1)] at HR
          have hle : decide ((s : Int) + 1 ≤ (s : Int)) = false := by simp; omega
          go_wp2_with fail
          go_loopw [13] (fun u wr => ∃ q : Nat, q ≤ j ∧ u = .int .i64 (q : Int) ∧ Hid (OnceSt w wr b gf j s [] (Cq xs j s 0))) (fun u _ => j - (intOf u).toNat)
          case atStart => exact ⟨0, by omega, rfl, HR⟩
          case round =>
            obtain ⟨q, hq, rfl, HQ⟩ := hrel
            clear HR
            by_cases hl3 : q < j
            · have hqj : (q : Int) < (j : Int) := by omega
              have hcf : wr.cell? ⟨gf, q, none⟩ = some (.int .i64 1) := by
                obtain ⟨fp, _, _, _, h4, _⟩ := HQ.out
                obtain ⟨gv2, cap2, e2, _, e3, e4⟩ := h4.1.at_ q 1 (cq_final xs j s q (fun i hi => (HD.out i hi).2.1) hl3)
                simp only [Value.slice.injEq] at e2
                obtain ⟨e2, _, _⟩ := e2
                injection e2 with e2
                rw [show gf = gv2 by injection e2]
                exact e3
              go_wp2_with fail
              go_roundw
              case rel => exact ⟨q + 1, by omega, by go_num, HQ⟩
              case measure => simp [intOf]; omega
            · obtain rfl : q = j := by omega
              have HE : Hid (Mine w wr b 64 s []) := by
                obtain ⟨fp, h1, h2, h3, _⟩ := HQ.out
                exact Lib.hid ⟨fp, h1, h2, h3⟩
              clear HQ
              go_wp2_with fail
              (with_reducible refine (mine_free HE.out 64 rfl).mono ?_)
              rintro e w9 ⟨rfl, hm⟩
              have HM := Lib.hid hm.below
              clear hm
              go_wp2_with fail
              go_ret
              exact ⟨rfl, HM.out⟩
set_option maxRecDepth 10000 in
theorem once_long (v : Value) (xs : List Int) (w : World) (hs : Sl (Value.int .i64) w v xs) (hl : 64 < xs.length) :
    Calls Tryd.prog 5 #[v] w fun e w' => e = .returned (.bool true) ∧ Below w.heap.size w w' := by
  obtain ⟨a0, c0, rfl⟩ := hs.len
  obtain ⟨n, hn⟩ : ∃ n, n = xs.length := ⟨_, rfl⟩
  rw [← hn] at hl ⊢
  have q1 : decide (64 < (n : Int)) = true := by simp; omega
  clear hs hn
  go_enter Tryd.func5, Tryd.ntmps5
  go_wp2_with fail
  (with_reducible refine (small_true w).mono ?_)
  rintro e w1 ⟨rfl, hb⟩
  have HB := Lib.hid hb
  clear hb
  go_wp2_with fail
  (with_reducible refine (mine_new 64 64 (by decide) HB.out).mono ?_)
  rintro e w2 ⟨b, rfl, hm⟩
  have HM := Lib.hid hm.below
  clear hm HB
  go_wp2_with fail
  go_ret
  exact ⟨rfl, HM.out⟩
theorem once_any (v : Value) (xs : List Int) (w : World) (hs : Sl (Value.int .i64) w v xs) (hw : ∀ n ∈ xs, (Lit.int .i64 n).wf = true) :
    Calls Tryd.prog 5 #[v] w fun e w' => e = .returned (.bool true) ∧ Below w.heap.size w w' := by
  by_cases h : xs.length ≤ 64
  · exact once_main v xs w hs hw h
  · exact once_long v xs w hs (by omega)
end Go.Proofs.YtaonnkocopngaaaDoor
