/-
  The walk of crossbucklaw19.DemandHolds: true, whatever it is given.
-/
import Derived.Test.YtoedecngemkblaaSmall
import Derived.Lib.QuietBelow
import Derived.BigQuiet
import Derived.Deep.CutRange
import Derived.Deep.DeepCutAuto
namespace Go.Proofs.Ytoedecngemkblaa
open Go.RowKit

def dopen (t : Tk) : Bool := !t.cl
def dcall (t : Tk) : Bool := t.c
theorem dany_ask1 (ls : List Tk) : dany (dask true) ls = dany dcall ls := by
  unfold dany
  rw [show dask true = dcall from funext fun t => by simp [dask, dcall]]
theorem dany_ask0 (ls : List Tk) : dany (dask false) ls = (dany dcall ls || dany dopen ls) := by
  unfold dany
  induction ls with
  | nil => rfl
  | cons t ls ih =>
    simp only [List.any_cons, ih]
    simp only [dask, dcall, dopen]
    cases t.c <;> cases t.cl <;> simp
set_option maxHeartbeats 1000000 in
theorem holds_out (a b c d s l o : Bool) (m : Int) (mn ba : Bool) (r : Int) (tv : Value) (a0 : Option Addr) (K c0 : Nat) (lk : Bool) (w : World) (h : 100 < K) : Calls Try.prog 4 #[.agg #[.bool a, .bool b, .bool c, .bool d, .bool s, .bool l, .bool o, .int .i64 m, .bool mn, .bool ba, .int .i64 r, tv], .slice a0 K c0, .bool lk] w fun e w' => e = .returned (.bool true) ∧ Below w.heap.size w w' := by
  have HB0 := Lib.hid (below_alloc (Below.refl _ w) (.cells #[.bool a, .bool b, .bool c, .bool d, .bool s, .bool l, .bool o, .int .i64 m, .bool mn, .bool ba, .int .i64 r, tv] 26))
  have h1 : 100 < (K : Int) := by omega
  clear h
  go_enter Try.func4, Try.ntmps4
  go_wp2_with fail
  (with_reducible refine (small_true _).mono ?_)
  rintro e w1 ⟨rfl, hb⟩
  have HB1 := Lib.hid (below_call HB0.out hb)
  clear hb
  go_wp2_with fail
  go_ret
  exact ⟨rfl, HB1.out⟩
set_option maxHeartbeats 4000000 in
set_option maxRecDepth 10000 in
theorem holds_main (a b c d s l o : Bool) (m : Int) (mn ba : Bool) (r : Int) (tv : Value) (a0 : Option Addr) (K c0 : Nat) (ls : List Tk) (lk : Bool) (w : World) (hv : Els RTk 11 w (.slice a0 K c0) ls) (hK : K = ls.length) (h : K ≤ 100) : Calls Try.prog 4 #[.agg #[.bool a, .bool b, .bool c, .bool d, .bool s, .bool l, .bool o, .int .i64 m, .bool mn, .bool ba, .int .i64 r, tv], .slice a0 K c0, .bool lk] w fun e w' => e = .returned (.bool true) ∧ Below w.heap.size w w' := by
  have HB0 := Lib.hid (below_alloc (Below.refl _ w) (.cells #[.bool a, .bool b, .bool c, .bool d, .bool s, .bool l, .bool o, .int .i64 m, .bool mn, .bool ba, .int .i64 r, tv] 26))
  have HX0 := Lib.hid (box12 a b c d s l o m mn ba r tv w)
  have HV := Lib.hid hv
  have HM := Lib.hid (show ls.length ≤ maxLen by unfold maxLen; omega)
  have h1 : ¬ 100 < (K : Int) := by omega
  obtain ⟨u, hu⟩ : ∃ u, (!dgood m mn l ls) = u := ⟨_, rfl⟩
  obtain ⟨rn, hrn⟩ : ∃ b, (r != 0) = b := ⟨_, rfl⟩
  obtain ⟨qc, hqc⟩ : ∃ z, dshut u r ls lk false = z := ⟨_, rfl⟩
  obtain ⟨qo, hqo⟩ : ∃ z, dshut u r ls lk true = z := ⟨_, rfl⟩
  have HE := Lib.hid (fun (W : World) (hW : Below w.heap.size w W) => And.intro (of_to a b c d s l o m mn ba r tv _ ls W (HV.out.below (fun _ _ _ h => h.below hW)) HM.out lk false u qc hu hqc) (And.intro (of_to a b c d s l o m mn ba r tv _ ls W (HV.out.below (fun _ _ _ h => h.below hW)) HM.out lk true u qo hu hqo) (good_to a b c d s l o m mn ba r tv _ ls W (HV.out.below (fun _ _ _ h => h.below hW)) HM.out (!u) (by rw [← hu, Bool.not_not]))))
  unfold dshut at hqc hqo
  rw [hrn, dany_ask0] at hqc
  rw [hrn, dany_ask1] at hqo
  have HQC := Lib.hid hqc
  have HQO := Lib.hid hqo
  have HRN := Lib.hid hrn
  have HK := Lib.hid h
  have HN := Lib.hid hK
  clear hv hK h hu hqc hqo hrn
  go_enter Try.func4, Try.ntmps4
  go_wp2_with fail
  (with_reducible refine (small_true _).mono ?_)
  rintro e w1 ⟨rfl, hb⟩
  have HB := Lib.hid (below_call HB0.out hb)
  have HX := Lib.hid (HX0.out.below hb)
  clear hb HB0 HX0
  obtain ⟨x0, x1, x2, x3, x4, x5, x6, x7, x8, x9, x10, x11⟩ := cells12 HX.out
  have H1 := Lib.hid (HE.out w1 HB.out).1
  go_wp2_with fail
  (with_reducible refine (H1.out).mono ?_)
  rintro e w2 ⟨rfl, hb⟩
  replace HB := Lib.hid (below_alloc (below_call HB.out hb) (.cells #[.bool qc, .bool u] 31))
  replace HX := Lib.hid ((HX.out.below hb).below (below_alloc (Below.refl _ w2) (.cells #[.bool qc, .bool u] 31)))
  have HC := Lib.hid (blk_new w2 #[.bool qc, .bool u] 31)
  have H2 := Lib.hid (HE.out (w2.alloc (.cells #[.bool qc, .bool u] 31)) HB.out).2.1
  clear hb H1 x0 x1 x2 x3 x4 x5 x6 x7 x8 x9 x10 x11
  obtain ⟨x0, x1, x2, x3, x4, x5, x6, x7, x8, x9, x10, x11⟩ := cells12 HX.out
  go_wp2_with fail
  (with_reducible refine (H2.out).mono ?_)
  rintro e w4 ⟨rfl, hb⟩
  replace HB := Lib.hid (below_alloc (below_call HB.out hb) (.cells #[.bool qo, .bool u] 31))
  replace HX := Lib.hid ((HX.out.below hb).below (below_alloc (Below.refl _ w4) (.cells #[.bool qo, .bool u] 31)))
  replace HC := Lib.hid ((HC.out.below hb).below (below_alloc (Below.refl _ w4) (.cells #[.bool qo, .bool u] 31)))
  have HO := Lib.hid (blk_new w4 #[.bool qo, .bool u] 31)
  have HG := Lib.hid (fun (W : World) (hW : Below w.heap.size w W) => (HE.out W hW).2.2)
  clear hb H2 HE x0 x1 x2 x3 x4 x5 x6 x7 x8 x9 x10 x11
  go_wp2_with fail
  generalize w4.alloc (.cells #[.bool qo, .bool u] 31) = w5 at *
  go_loopw [10, 11, 12] (fun x y z wr => ∃ (k : Nat) (cl ca : Bool), k ≤ K ∧ x = .bool cl ∧ y = .bool ca ∧ z = .int .i64 (k : Int) ∧ Hid (cl = !dany dopen (ls.take k)) ∧ Hid (ca = dany dcall (ls.take k)) ∧ wr = w5) (fun _ _ z _ => K - (intOf z).toNat)
  case atStart => exact ⟨0, true, false, by omega, rfl, rfl, rfl, Lib.hid (by rw [dany_nil]; rfl), Lib.hid (by rw [dany_nil]), rfl⟩
  case round =>
    obtain ⟨k, cl, ca, hk, rfl, rfl, rfl, HCL, HCA, rfl⟩ := hrel
    by_cases hlt : k < K
    · have hltI : (k : Int) < (K : Int) := by omega
      obtain ⟨y, hy⟩ : ∃ y, ls[k]? = some y := ⟨_, List.getElem?_eq_getElem (by rw [← HN.out]; exact hlt)⟩
      obtain ⟨g2, o2, ea, hr⟩ := HV.out.at_ hy
      subst ea
      have hx := dany_take dopen ls k y hy
      have hz := dany_take dcall ls k y hy
      obtain ⟨th, ti, tz, tg, tl, ts, tj, tc, tn, tf, tk⟩ := y
      obtain ⟨r0, r1, r2, r3, r4, r5, r6, r7, r8, r9, r10⟩ := hr.below HB.out
      dsimp only at r0 r1 r2 r3 r4 r5 r6 r7 r8 r9 r10
      have hc := HCL.out
      have hd := HCA.out
      have HP := Lib.hid (show (cl && tc) = !dany dopen (ls.take (k + 1)) by rw [hx, hc]; simp [dopen])
      have HS := Lib.hid (show (ca || tk) = dany dcall (ls.take (k + 1)) by rw [hz, hd]; rfl)
      clear hy hr hx hz hc hd HCL HCA
      cases cl
      all_goals
        cases ca
        all_goals
          go_wp2_with fail
          go_roundw
          case rel => exact ⟨k + 1, _, _, by omega, rfl, rfl, by go_num, Lib.hid (by rw [← HP.out]; simp), Lib.hid (by rw [← HS.out]; simp), trivial⟩
          case measure => have := HK.out; simp [intOf]; omega
    · have hltI : ¬ (k : Int) < (K : Int) := by omega
      have hkK : k = K := by omega
      have hx := HCL.out
      rw [hkK, HN.out, List.take_length] at hx
      have hy := HCA.out
      rw [hkK, HN.out, List.take_length] at hy
      have hc := HQC.out
      have ho := HQO.out
      rw [← hy] at hc ho
      rw [show dany dopen ls = !cl by rw [hx, Bool.not_not]] at hc
      replace HQC := Lib.hid hc
      replace HQO := Lib.hid ho
      clear hx hy hc ho HCL HCA hkK
      obtain ⟨x0, x1, x2, x3, x4, x5, x6, x7, x8, x9, x10, x11⟩ := cells12 HX.out
      obtain ⟨s0, s1⟩ := two_cells HC.out
      obtain ⟨t0, t1⟩ := two_cells HO.out
      go_upto_region 13 with fail
      go_cut [78] (fun z wx => z = .bool false ∧ wx = wr)
      case first =>
        have hc := HQC.out
        have ho := HQO.out
        have hn := HRN.out
        have uu : (u != u) = false := by simp
        clear HQC HQO HRN HG HB HX HC HO HV HM HN HK hk hlt hltI h1
        cases cl
        · obtain rfl : qc = true := by rw [← hc]; simp
          clear hc ho hn
          cases qo
          all_goals
            go_wp2_with fail
            go_meet
            exact ⟨rfl, rfl⟩
        · cases lk
          · cases rn
            · cases qo
              · clear hc ho
                go_wp2_with fail
                go_meet
                exact ⟨rfl, rfl⟩
              · obtain rfl : qc = true := by rw [← hc]; simpa using ho
                clear hc ho
                go_wp2_with fail
                go_meet
                exact ⟨rfl, rfl⟩
            · obtain rfl : qc = true := by rw [← hc]; simp
              obtain rfl : qo = true := by rw [← ho]; simp
              clear hc ho
              go_wp2_with fail
              go_meet
              exact ⟨rfl, rfl⟩
          · obtain rfl : qc = true := by rw [← hc]; simp
            obtain rfl : qo = true := by rw [← ho]; simp
            clear hc ho hn
            go_wp2_with fail
            go_meet
            exact ⟨rfl, rfl⟩
      case rest =>
        obtain ⟨rfl, rfl⟩ := hcut
        have H1 := Lib.hid (fun (d' : Nat) (os : Array Obj) => HG.out (Go.Sort.grow (redrawn wc d') os) (HB.out.trans ((below_regrown wc d' os).mono HB.out.size)))
        have ho := HQO.out
        have hn := HRN.out
        clear s0 s1 HQC HQO HRN HG HX HC HO HV HM HN HK hk hlt hltI h1
        replace t0 := cell_regrown t0
        replace t1 := cell_regrown t1
        replace x0 := cell_regrown x0
        replace x1 := cell_regrown x1
        replace x2 := cell_regrown x2
        replace x3 := cell_regrown x3
        replace x4 := cell_regrown x4
        replace x5 := cell_regrown x5
        replace x6 := cell_regrown x6
        replace x7 := cell_regrown x7
        replace x8 := cell_regrown x8
        replace x9 := cell_regrown x9
        replace x10 := cell_regrown x10
        replace x11 := cell_regrown x11
        have hcs : (ca = true ∧ qo = true) ∨ (ca = false ∧ lk = true ∧ qo = true) ∨ (ca = false ∧ lk = false ∧ rn = true ∧ qo = true) ∨ (ca = false ∧ lk = false ∧ rn = false ∧ u = qo) := by
          rw [← ho]
          cases ca <;> cases lk <;> cases rn <;> cases u <;> simp
        clear ho
        rcases hcs with ⟨rfl, rfl⟩ | ⟨rfl, rfl, rfl⟩ | ⟨rfl, rfl, rfl, rfl⟩ | ⟨rfl, rfl, rfl, rfl⟩
        all_goals
          cases u
          all_goals as_aux_lemma =>
            go_wp2_with fail
            refine wp_region_quiet_below (by kernel_rfl) (by kernel_rfl) ?_
            repeat (go_big_quiet_step ((with_reducible exact Calls.regrown_of (H1.out _ _))))
            refine wpQuiet_nil ?_
            intro _ hw'
            obtain ⟨⟨dq, osq⟩, hw''⟩ := hw'
            subst hw''
            clear t0 t1 x0 x1 x2 x3 x4 x5 x6 x7 x8 x9 x10 x11
            go_wp2_with fail
            go_ret
            exact ⟨rfl, below_call HB.out (below_regrown _ dq osq)⟩
theorem holds_any (a b c d s l o : Bool) (m : Int) (mn ba : Bool) (r : Int) (tv : Value) (v : Value) (ls : List Tk) (lk : Bool) (w : World) (hv : Els RTk 11 w v ls) : Calls Try.prog 4 #[.agg #[.bool a, .bool b, .bool c, .bool d, .bool s, .bool l, .bool o, .int .i64 m, .bool mn, .bool ba, .int .i64 r, tv], v, .bool lk] w fun e w' => e = .returned (.bool true) ∧ Below w.heap.size w w' := by
  obtain ⟨a0, c0, rfl⟩ := hv.len
  obtain ⟨K, hK⟩ : ∃ n, n = ls.length := ⟨_, rfl⟩
  rw [← hK] at hv ⊢
  by_cases h : 100 < K
  · exact holds_out a b c d s l o m mn ba r tv a0 K c0 lk w h
  · exact holds_main a b c d s l o m mn ba r tv a0 K c0 ls lk w hv hK (by omega)
end Go.Proofs.Ytoedecngemkblaa
