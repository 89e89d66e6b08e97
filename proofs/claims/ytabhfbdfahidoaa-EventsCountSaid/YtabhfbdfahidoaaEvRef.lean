/-
  The document's log of events by contracts: New, Add, Lost, All; Same of two rows that are the same.
-/
import Derived.Test.YtabhfbdfahidoaaEvAdd
import Derived.Lib.QuietBelow
namespace Go.Proofs.Ytabhfbdfahidoaa
open Go.RowKit

/-- The document's log at block b: its room r, and all the events xs. -/
def RLg (w : World) (B b r : Nat) (v : Value) (xs : List Ev) : Prop := Blk w b #[.int .i64 (r : Int), v] 41 ∧ OwnEv w B v xs ∧ B ≤ b ∧ 1 ≤ r ∧ r ≤ 1024
theorem evrlog_ne : 41 ≠ 31 := by decide
theorem evrlog_log : 41 ≠ 39 := by decide
section
variable {B b r : Nat} {w w' : World} {v : Value} {xs : List Ev}
theorem RLg.keep {F : Nat → Prop} (h : RLg w B b r v xs) (hk : Keep F w w') (hb : ¬ F b) (hn : ∀ g, v.ownBlock = some g → ¬ F g) : RLg w' B b r v xs := ⟨h.1.keep hk hb, h.2.1.keep hk hn, h.2.2⟩
theorem RLg.below (h : RLg w B b r v xs) (hb : Below w.heap.size w w') : RLg w' B b r v xs := h.keep (F := fun _ => False) (Keep.of_below hb) (fun h => h) (fun _ _ h => h)
theorem RLg.lt (h : RLg w B b r v xs) : B ≤ b ∧ b < w.heap.size := ⟨h.2.2.1, h.1.lt⟩
theorem RLg.own (h : RLg w B b r v xs) {g : Nat} (hg : v.ownBlock = some g) : B ≤ g ∧ g < w.heap.size ∧ g ≠ b := ⟨(h.2.1.lt hg).1, (h.2.1.lt hg).2, fun e => h.2.1.ne h.1 evrlog_ne (by rw [hg, e])⟩
theorem rlg_new (w : World) (B r : Nat) (hB : B ≤ w.heap.size) (h1 : 1 ≤ r) (h2 : r ≤ 1024) : RLg (w.alloc (.cells #[.int .i64 (r : Int), .slice none 0 0] 41)) B w.heap.size r (.slice none 0 0) [] :=
  ⟨blk_new w _ _, ownEv_nil _ _, hB, h1, h2⟩
theorem evrnew_to (n : Int) (r : Nat) (hr : (n < 1 ∧ r = 1) ∨ (1 ≤ n ∧ n ≤ 1024 ∧ n = (r : Int)) ∨ (1024 < n ∧ r = 1024)) (w : World) :
    Calls Try.prog 9 #[.int .i64 n] w fun e w' => e = .returned (.pointer (some ⟨w.heap.size, 0, none⟩)) ∧ w' = w.alloc (.cells #[.int .i64 (r : Int), .slice none 0 0] 41) := by
  rcases hr with ⟨h1, rfl⟩ | ⟨h1, h2, rfl⟩ | ⟨h1, rfl⟩
  · go_enter Try.func9, Try.ntmps9
    go_wp2_with fail
    go_ret
    simp
  · have q1 : ¬ ((r : Int) < 1) := by omega
    have q2 : ¬ ((1024 : Int) < (r : Int)) := by omega
    go_enter Try.func9, Try.ntmps9
    go_wp2_with fail
    all_goals
      go_ret
      simp
      try omega
  · have q1 : ¬ (n < 1) := by omega
    go_enter Try.func9, Try.ntmps9
    go_wp2_with fail
    all_goals
      go_ret
      simp
      try omega
theorem evrset1 (r : Nat) (v u : Value) : (#[Value.int .i64 (r : Int), v] : Array Value).setIfInBounds 1 u = #[.int .i64 (r : Int), u] := rfl
/-- What a call of Add leaves behind. -/
def RAdded (w w' : World) (B b r : Nat) (v : Value) (xs : List Ev) : Prop :=
  ∃ v', RLg w' B b r v' xs ∧ Keep (fun k => k = b ∨ v.ownBlock = some k) w w' ∧ (v'.ownBlock = v.ownBlock ∨ ∃ g, v'.ownBlock = some g ∧ w.heap.size ≤ g)
set_option maxHeartbeats 2000000 in
theorem evradd_to (h : RLg w B b r v xs) (hB : B ≤ w.heap.size) (hm : xs.length ≤ 900000) (e : Ev) :
    Calls Try.prog 11 #[.pointer (some ⟨b, 0, none⟩), .agg #[.int .u64 e.t, .int .i64 e.c, .int .i64 e.a]] w fun x w' => x = .returned (.tuple #[]) ∧ RAdded w w' B b r v (xs ++ [e]) := by
  obtain ⟨hb, ho, hBb, h1, h2⟩ := h
  obtain ⟨a0, c, rfl, hc⟩ := ho.len
  obtain ⟨n, hn⟩ : ∃ n, xs.length = n := ⟨_, rfl⟩
  obtain ⟨et, ec, ea⟩ := e
  dsimp only
  have hne := ho.ne hb evrlog_ne
  rw [hn] at hb hc hne hm ⊢
  have hX := blk_new w #[.int .u64 et, .int .i64 ec, .int .i64 ea] 31
  have HB1 := Lib.hid (below_alloc (Below.refl _ w) (.cells #[.int .u64 et, .int .i64 ec, .int .i64 ea] 31))
  have HBK1 := Lib.hid (hb.below HB1.out)
  have HXK1 := Lib.hid hX
  have HO1 := Lib.hid (ho.below HB1.out)
  have HN := Lib.hid hn
  have HNE := Lib.hid hne
  have HHB := Lib.hid (show B ≤ w.heap.size ∧ B ≤ b ∧ 1 ≤ r ∧ r ≤ 1024 ∧ n ≤ 900000 from ⟨hB, hBb, h1, h2, hm⟩)
  clear ho hn hne hb hX hB hBb h1 h2 hc hm
  go_enter Try.func11, Try.ntmps11
  go_wp2_with fail
  generalize w.alloc (.cells #[.int .u64 et, .int .i64 ec, .int .i64 ea] 31) = W1 at *
  obtain ⟨c0, c1⟩ := box2 HBK1.out
  obtain ⟨x0, x1, x2⟩ := HXK1.out.three
  clear c0
  have HL := Lib.hid (below_alloc (Below.refl _ W1) (.cells #[.int .u64 et, .int .i64 ec, .int .i64 ea] 31))
  obtain ⟨v3, W3, hrun, ho3, hg3, hv3⟩ := run_appEv (w := (W1.alloc (.cells #[.int .u64 et, .int .i64 ec, .int .i64 ea] 31)).drew) 22 ((HO1.out.below HL.out).below (bel_drew _)) ((evone W1 ⟨et, ec, ea⟩ 31).below fun g o y h => h.below (bel_drew _)) (by rw [HN.out]; have := HHB.out; simp; omega) (by have := HHB.out; have := HB1.out.size; have := (below_call HL.out (bel_drew _)).size; omega)
  rw [HN.out] at hrun
  obtain ⟨a3, c3, e3, _⟩ := ho3.len
  obtain ⟨n3, hn3⟩ : ∃ n3, (xs ++ [⟨et, ec, ea⟩] : List Ev).length = n3 := ⟨_, rfl⟩
  rw [hn3] at e3
  subst e3
  have HB3 := Lib.hid (((HBK1.out.below HL.out).below (bel_drew _)).keep (Keep.grown (F := fun k => (Value.slice a0 n c).ownBlock = some k) hg3 (fun g hg => by rw [← HN.out]; exact hg)) HNE.out)
  have f1 := HB3.out.frz 1
  obtain ⟨d0, d1⟩ := box2 HB3.out
  clear d0
  have HFIN : Hid (RAdded w (W3.setCell ⟨b, 1, none⟩ (.slice a3 n3 c3)) B b r (.slice a0 n c) (xs ++ [⟨et, ec, ea⟩])) := by
    have hs := HB3.out.set_ 1 (.slice a3 n3 c3)
    rw [evrset1] at hs
    refine Lib.hid ⟨_, ⟨hs, ho3.keep (Keep.set_ (F := fun x => x = b) W3 b 1 _ rfl) (fun g hg e => ho3.ne HB3.out evrlog_ne (by rw [hg, e])), HHB.out.2.1, HHB.out.2.2.1, HHB.out.2.2.2.1⟩, ?_, ?_⟩
    · refine Keep.trans (w1 := W3) ?_ (Keep.set_ (F := fun x => x = b) W3 b 1 _ rfl) (fun g h => .inl (.inl h))
      refine Keep.trans (F := fun x => x = b ∨ (Value.slice a0 n c).ownBlock = some x) (Keep.of_below (below_call HB1.out (below_call HL.out (bel_drew _)))) (Keep.grown (F := fun k => (Value.slice a0 n c).ownBlock = some k) hg3 (fun g hg => by rw [← HN.out]; exact hg)) (fun g h => .inl (.inr h))
    · rcases hv3 with h | h
      · exact .inl (by rw [h, HN.out])
      · exact .inr ⟨_, h, (below_call HB1.out (below_call HL.out (bel_drew _))).size⟩
  have y1 := below_cell HL.out c1
  clear ho3 hg3 hv3 hn3
  go_region_law (refine step_runEv rfl _ _ _ rfl rfl rfl hrun ?_)
  all_goals
    go_wp2_with fail
    go_end0
    exact ⟨rfl, HFIN.out⟩
theorem evrlost_to (h : RLg w B b r v xs) (hm : xs.length ≤ 900000) :
    Calls Try.prog 16 #[.pointer (some ⟨b, 0, none⟩)] w fun e w' => e = .returned (.int .i64 ((xs.length - r : Nat) : Int)) ∧ Below w.heap.size w w' := by
  obtain ⟨hb, ho, _, h1, h2⟩ := h
  obtain ⟨a0, c, rfl, _⟩ := ho.len
  obtain ⟨n, hn⟩ : ∃ n, xs.length = n := ⟨_, rfl⟩
  rw [hn] at hb hm ⊢
  obtain ⟨c0, c1⟩ := box2 hb
  obtain ⟨k, hk⟩ : ∃ k, n - r = k := ⟨_, rfl⟩
  rw [hk]
  have HK := Lib.hid hk
  obtain ⟨z, hz⟩ : ∃ z : Int, (n : Int) - (r : Int) = z := ⟨_, rfl⟩
  have q0 : wrap64 ((n : Int) - (r : Int)) = z := by rw [IntWalk.wrap64_in _ (by omega), hz]
  rcases (show (0 < z ∧ z = (k : Int)) ∨ (¬ 0 < z ∧ z ≤ 0 ∧ k = 0) by omega) with ⟨h5, rfl⟩ | ⟨h5, h6, rfl⟩
  · clear ho h1 h2 hn hk hz hm
    go_enter Try.func16, Try.ntmps16
    go_wp2_with fail
    go_quiet (fail)
    go_wp2_with fail
    go_ret
    exact ⟨rfl, bel_drewN _ _⟩
  · clear ho h1 h2 hn hk hz hm
    go_enter Try.func16, Try.ntmps16
    go_wp2_with fail
    go_quiet (fail)
    go_wp2_with fail
    go_ret
    exact ⟨rfl, bel_drewN _ _⟩
set_option maxHeartbeats 2000000 in
theorem evrall_to (h : RLg w B b r v xs) (hm : xs.length ≤ 900000) :
    Calls Try.prog 14 #[.pointer (some ⟨b, 0, none⟩)] w fun e w' => ∃ v', e = .returned v' ∧ Els REv 3 w v' (xs.drop (xs.length - r)) ∧ Below w.heap.size w w' := by
  have HL := Lib.hid fun W (hW : Below w.heap.size w W) => evrlost_to (h.below hW) hm
  obtain ⟨hb, ho, _, h1, h2⟩ := h
  obtain ⟨a0, c, rfl, hc⟩ := ho.len
  have HE := Lib.hid ho.els
  obtain ⟨n, hn⟩ : ∃ n, xs.length = n := ⟨_, rfl⟩
  rw [hn] at hb hm hc HE HL ⊢
  obtain ⟨k, hk⟩ : ∃ k, n - r = k := ⟨_, rfl⟩
  rw [hk] at HL ⊢
  obtain ⟨a1, hs1, hd1⟩ := evcut_from (a0 := a0) hc k (by omega)
  have HD1 := Lib.hid hd1
  obtain ⟨c0, c1⟩ := box2 hb
  clear ho h1 h2 hn hk hm hb c0 hc hd1
  go_enter Try.func14, Try.ntmps14
  go_wp2_with fail
  replace c1 := cell_regrown c1
  refine wp_region_quiet_below (by kernel_rfl) (by kernel_rfl) ?_
  repeat (go_big_quiet_step (first | (with_reducible exact Calls.regrown_of (HL.out _ (below_regrown _ _ _)))))
  refine wpQuiet_nil ?_
  intro _ hw'
  obtain ⟨⟨dq, osq⟩, hw''⟩ := hw'
  subst hw''
  have HB := Lib.hid (below_regrown w dq osq)
  go_wp2_with fail
  go_ret
  exact ⟨_, rfl, HD1.out _ _ HE.out, HB.out⟩
end
set_option maxHeartbeats 2000000 in
theorem evsame_to (v u : Value) (ls : List Ev) (w : World) (hv : Els REv 3 w v ls) (hu : Els REv 3 w u ls) (hm : ls.length ≤ maxLen) : Calls Try.prog 13 #[v, u] w fun e w' => e = .returned (.bool true) ∧ Below w.heap.size w w' := by
  have HV := Lib.hid hv
  have HU := Lib.hid hu
  obtain ⟨av, cv, ev⟩ := hv.len
  obtain ⟨au, cu, eu⟩ := hu.len
  obtain ⟨K, hn⟩ : ∃ n, n = ls.length := ⟨_, rfl⟩
  rw [← hn] at ev eu hm
  subst ev eu
  have HN := Lib.hid hn
  have HM := Lib.hid hm
  clear hv hu hn hm
  go_enter Try.func13, Try.ntmps13
  go_wp2_with fail
  go_loopw [5] (fun x wr => ∃ k : Nat, k ≤ K ∧ x = .int .i64 (k : Int) ∧ Hid (Below w.heap.size w wr)) (fun x _ => K - (intOf x).toNat)
  case atStart => exact ⟨0, by omega, rfl, Lib.hid (Below.refl _ _)⟩
  case round =>
    obtain ⟨k, hk, rfl, HB⟩ := hrel
    by_cases hlt : k < K
    · have hltI : (k : Int) < (K : Int) := by omega
      have hkw : wrap64 ((k : Int) + 1) = (k : Int) + 1 := IntWalk.wrap64_in _ (by have := HM.out; unfold maxLen at this; omega)
      obtain ⟨y, hy⟩ : ∃ y, ls[k]? = some y := ⟨_, List.getElem?_eq_getElem (by rw [← HN.out]; exact hlt)⟩
      obtain ⟨g1, o1, e1, hr1⟩ := HV.out.at_ hy
      obtain ⟨g2, o2, e2, hr2⟩ := HU.out.at_ hy
      subst e1 e2
      obtain ⟨et, ec, ea⟩ := y
      have E := neq_ev et ec ea
      obtain ⟨a0, a1, a2⟩ := hr1.below HB.out
      obtain ⟨b0, b1, b2⟩ := hr2.below HB.out
      dsimp only at a0 a1 a2 b0 b1 b2
      clear hy hr1 hr2
      go_wp2_with fail
      go_quiet (fail)
      go_wp2_with fail
      go_roundw
      case rel => exact ⟨k + 1, by omega, by go_num, Lib.hid (below_call HB.out (bel_drewN _ _))⟩
      case measure => rw [hkw]; clear hkw; simp [intOf]; omega
    · have hltI : ¬ (k : Int) < (K : Int) := by omega
      go_wp2_with fail
      go_ret
      exact ⟨rfl, HB.out⟩
end Go.Proofs.Ytabhfbdfahidoaa
