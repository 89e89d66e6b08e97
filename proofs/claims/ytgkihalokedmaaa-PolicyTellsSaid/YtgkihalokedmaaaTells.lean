/-
  The walk of crossbucklaw23.PolicyTells: true, whatever it is given.
-/
import Derived.Test.YtgkihalokedmaaaSmall
import Derived.Test.YtgkihalokedmaaaPoRef
import Derived.Test.YtgkihalokedmaaaPoRrest
import Derived.Test.YtgkihalokedmaaaPoSame
import Derived.Lib.QuietBelow
import Derived.BigQuiet
namespace Go.Proofs.Ytgkihalokedmaaa
open Go.RowKit

set_option maxHeartbeats 4000000 in
set_option maxRecDepth 10000 in
theorem tells_out (a b c d s l o : Bool) (m : Int) (mn ba : Bool) (r : Int) (tv : Value) (a0 : Option Addr) (K c0 : Nat) (p sn : Int) (pv : Bool) (rp rw rj : Int) (had : Bool) (n : Int) (w : World) (h : 100 < K) : Calls Try.prog 3 #[.agg #[.bool a, .bool b, .bool c, .bool d, .bool s, .bool l, .bool o, .int .i64 m, .bool mn, .bool ba, .int .i64 r, tv], .slice a0 K c0, .agg #[.int .i64 p, .int .i64 sn], .bool pv, .agg #[.int .i64 rp, .int .i64 rw, .int .i64 rj], .bool had, .int .i64 n] w fun e w' => e = .returned (.bool true) ∧ Below w.heap.size w w' := by
  have HB0 := Lib.hid (below_alloc (below_alloc (below_alloc (Below.refl _ w) (.cells #[.bool a, .bool b, .bool c, .bool d, .bool s, .bool l, .bool o, .int .i64 m, .bool mn, .bool ba, .int .i64 r, tv] 26)) (.cells #[.int .i64 p, .int .i64 sn] 29)) (.cells #[.int .i64 rp, .int .i64 rw, .int .i64 rj] 31))
  have h1 : 100 < (K : Int) := by omega
  clear h
  go_enter Try.func3, Try.ntmps3
  go_wp2_with fail
  (with_reducible refine (small_true _).mono ?_)
  rintro e w1 ⟨rfl, hb⟩
  have HB1 := Lib.hid (below_call HB0.out hb)
  clear hb
  go_wp2_with fail
  go_ret
  exact ⟨rfl, HB1.out⟩
set_option maxHeartbeats 4000000 in
set_option maxRecDepth 10000 in
theorem tells_main (a b c d s l o : Bool) (m : Int) (mn ba : Bool) (r : Int) (tv : Value) (a0 : Option Addr) (K c0 : Nat) (p sn : Int) (pv : Bool) (rp rw rj : Int) (had : Bool) (n : Int) (ls : List Tk) (w : World) (hv : Els RTk 11 w (.slice a0 K c0) ls) (hr : r ≤ 9223372036854775807) (h : K ≤ 100) (hK : K = ls.length) : Calls Try.prog 3 #[.agg #[.bool a, .bool b, .bool c, .bool d, .bool s, .bool l, .bool o, .int .i64 m, .bool mn, .bool ba, .int .i64 r, tv], .slice a0 K c0, .agg #[.int .i64 p, .int .i64 sn], .bool pv, .agg #[.int .i64 rp, .int .i64 rw, .int .i64 rj], .bool had, .int .i64 n] w fun e w' => e = .returned (.bool true) ∧ Below w.heap.size w w' := by
  have hs := (((Blks.nil w).new #[.bool a, .bool b, .bool c, .bool d, .bool s, .bool l, .bool o, .int .i64 m, .bool mn, .bool ba, .int .i64 r, tv] 26).new #[.int .i64 p, .int .i64 sn] 29).new #[.int .i64 rp, .int .i64 rw, .int .i64 rj] 31
  simp only [World.size_alloc] at hs
  have HS := Lib.hid hs
  have HB := Lib.hid (below_alloc (below_alloc (below_alloc (Below.refl _ w) (.cells #[.bool a, .bool b, .bool c, .bool d, .bool s, .bool l, .bool o, .int .i64 m, .bool mn, .bool ba, .int .i64 r, tv] 26)) (.cells #[.int .i64 p, .int .i64 sn] 29)) (.cells #[.int .i64 rp, .int .i64 rw, .int .i64 rj] 31))
  have HV := Lib.hid hv
  have HM := Lib.hid (show ls.length ≤ maxLen by unfold maxLen; omega)
  have h1 : ¬ 100 < (K : Int) := by omega
  obtain ⟨q, hq⟩ : ∃ q, posig p pv m (dgood m mn l ls) r ls.length = q := ⟨_, rfl⟩
  obtain ⟨ph, hp⟩ : ∃ ph, poph ⟨rp, rw, rj⟩ had = ph := ⟨_, rfl⟩
  have HE := Lib.hid (fun (W : World) (hW : Below w.heap.size w W) => And.intro (posig_to a b c d s l o m mn ba r tv _ ls p sn pv W (HV.out.below (fun _ _ _ h => h.below hW)) HM.out hr q hq) (rposig_to a b c d s l o m mn ba r tv _ ls p sn pv W (HV.out.below (fun _ _ _ h => h.below hW)) HM.out hr q hq))
  have HT1 := Lib.hid (restart_to ⟨rp, rw, rj⟩ had n ph hp)
  have HT2 := Lib.hid (rrestart_to ⟨rp, rw, rj⟩ had n ph hp)
  have HP := Lib.hid (show (potks ⟨rp, rw, rj⟩ had n).length = pon n from potks_len _ _ _)
  have HN := Lib.hid (pon_le n)
  obtain ⟨ts, hts⟩ : ∃ ts, potks ⟨rp, rw, rj⟩ had n = ts := ⟨_, rfl⟩
  obtain ⟨N, hN⟩ : ∃ N, pon n = N := ⟨_, rfl⟩
  rw [hts] at HT1 HT2 HP
  rw [hN] at HT1 HT2 HP HN
  clear hs hv hK h hq hp hts hN hr
  go_enter Try.func3, Try.ntmps3
  go_wp2_with fail
  (with_reducible refine (small_true _).mono ?_)
  rintro e w1 ⟨rfl, hb⟩
  replace HB := Lib.hid (below_call HB.out hb)
  replace HS := Lib.hid (HS.out.below hb)
  clear hb
  obtain ⟨r0, r1, r2⟩ := (HS.out.at_ 0 rfl).three
  go_wp2_with fail
  (with_reducible refine (HT1.out _).mono ?_)
  rintro e w2 ⟨g1, rfl, ht, hg, hb⟩
  replace HB := Lib.hid (below_alloc (below_call HB.out hb) (.cells #[.int .i64 ph, .int .i64 1] 29))
  replace HS := Lib.hid ((HS.out.below hb).new #[.int .i64 ph, .int .i64 1] 29)
  have HX := Lib.hid ((ht.els N N HP.out).below (fun _ _ _ h => h.below (below_alloc (Below.refl _ w2) (.cells #[.int .i64 ph, .int .i64 1] 29))))
  clear hb ht hg HT1 r0 r1 r2
  obtain ⟨r0, r1, r2⟩ := (HS.out.at_ 1 rfl).three
  go_wp2_with fail
  (with_reducible refine (HT2.out _).mono ?_)
  rintro e w3 ⟨av, cv, rfl, ht, hb⟩
  replace HB := Lib.hid (below_alloc (below_call HB.out hb) (.cells #[.int .i64 ph, .int .i64 1] 29))
  replace HS := Lib.hid ((HS.out.below hb).new #[.int .i64 ph, .int .i64 1] 29)
  replace HX := Lib.hid ((HX.out.below (fun _ _ _ h => h.below hb)).below (fun _ _ _ h => h.below (below_alloc (Below.refl _ w3) (.cells #[.int .i64 ph, .int .i64 1] 29))))
  have HY := Lib.hid (ht.below (fun _ _ _ h => h.below (below_alloc (Below.refl _ w3) (.cells #[.int .i64 ph, .int .i64 1] 29))))
  clear hb ht HT2 r0 r1 r2
  go_wp2_with fail
  generalize w3.alloc (.cells #[.int .i64 ph, .int .i64 1] 29) = w4 at *
  generalize w3.heap.size = gy at *
  generalize w2.heap.size = gx at *
  obtain ⟨y0, y1⟩ := box2 (HS.out.at_ 0 rfl)
  obtain ⟨z0, z1⟩ := box2 (HS.out.at_ 1 rfl)
  obtain ⟨p0, p1⟩ := box2 (HS.out.at_ 3 rfl)
  obtain ⟨x0, x1, x2, x3, x4, x5, x6, x7, x8, x9, x10, x11⟩ := cells12 (HS.out.at_ 4 rfl)
  have H1 := Lib.hid (fun (d' : Nat) (os : Array Obj) => (HE.out (Go.Sort.grow (redrawn w4 d') os) (HB.out.trans ((below_regrown w4 d' os).mono HB.out.size))).1)
  have H2 := Lib.hid (fun (d' : Nat) (os : Array Obj) => (HE.out (Go.Sort.grow (redrawn w4 d') os) (HB.out.trans ((below_regrown w4 d' os).mono HB.out.size))).2)
  have H3 := Lib.hid (fun (d' : Nat) (os : Array Obj) => posame_to _ _ ts (Go.Sort.grow (redrawn w4 d') os) (HX.out.below (fun _ _ _ h => h.below (below_regrown w4 d' os))) (HY.out.below (fun _ _ _ h => h.below (below_regrown w4 d' os))) (by rw [HP.out]; unfold maxLen; have := HN.out; omega))
  have E1 : (q == q) = true := by simp
  have E2 := eql_rd ph 1 ph 1 true (by simp)
  clear HE HV HM HX HY HS HP HN
  replace x0 := cell_regrown x0
  replace x1 := cell_regrown x1
  replace x2 := cell_regrown x2
  replace x3 := cell_regrown x3
  replace x4 := cell_regrown x4
  replace x5 := cell_regrown x5
  replace x6 := cell_regrown x6
  replace x7 := cell_regrown x7
  replace x8 := cell_regrown x8
  replace x9 := cell_regrown x9
  replace x10 := cell_regrown x10
  replace x11 := cell_regrown x11
  replace y0 := cell_regrown y0
  replace y1 := cell_regrown y1
  replace z0 := cell_regrown z0
  replace z1 := cell_regrown z1
  replace p0 := cell_regrown p0
  replace p1 := cell_regrown p1
  refine wp_region_quiet_below (by kernel_rfl) (by kernel_rfl) ?_
  repeat (go_big_quiet_step (first | (with_reducible exact Calls.regrown_of (H1.out _ _)) | (with_reducible exact Calls.regrown_of (H2.out _ _)) | (with_reducible exact Calls.regrown_of (H3.out _ _))))
  refine wpQuiet_nil ?_
  intro _ hw'
  obtain ⟨⟨dq, osq⟩, hw''⟩ := hw'
  subst hw''
  clear x0 x1 x2 x3 x4 x5 x6 x7 x8 x9 x10 x11 y0 y1 z0 z1 p0 p1
  go_wp2_with fail
  go_ret
  exact ⟨rfl, below_call HB.out (below_regrown _ dq osq)⟩
theorem tells_any (a b c d s l o : Bool) (m : Int) (mn ba : Bool) (r : Int) (tv : Value) (v : Value) (ls : List Tk) (p sn : Int) (pv : Bool) (rp rw rj : Int) (had : Bool) (n : Int) (w : World) (hv : Els RTk 11 w v ls) (hr : r ≤ 9223372036854775807) : Calls Try.prog 3 #[.agg #[.bool a, .bool b, .bool c, .bool d, .bool s, .bool l, .bool o, .int .i64 m, .bool mn, .bool ba, .int .i64 r, tv], v, .agg #[.int .i64 p, .int .i64 sn], .bool pv, .agg #[.int .i64 rp, .int .i64 rw, .int .i64 rj], .bool had, .int .i64 n] w fun e w' => e = .returned (.bool true) ∧ Below w.heap.size w w' := by
  obtain ⟨a0, c0, rfl⟩ := hv.len
  obtain ⟨K, hK⟩ : ∃ n, n = ls.length := ⟨_, rfl⟩
  rw [← hK] at hv ⊢
  by_cases h : 100 < K
  · exact tells_out a b c d s l o m mn ba r tv a0 K c0 p sn pv rp rw rj had n w h
  · exact tells_main a b c d s l o m mn ba r tv a0 K c0 p sn pv rp rw rj had n ls w hv hr (by omega) hK
end Go.Proofs.Ytgkihalokedmaaa
