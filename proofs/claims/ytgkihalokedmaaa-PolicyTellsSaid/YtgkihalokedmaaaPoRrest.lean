/-
  The document's Restart by a contract.
-/
import Derived.Test.YtgkihalokedmaaaPoRef
import Derived.Test.YtgkihalokedmaaaPoMade
namespace Go.Proofs.Ytgkihalokedmaaa
open Go.RowKit

set_option maxHeartbeats 4000000 in
theorem rrestart_to (r : Rc) (had : Bool) (n : Int) (ph : Int) (hp : poph r had = ph) (w : World) : Calls Try.prog 10 #[.agg #[.int .i64 r.p, .int .i64 r.w, .int .i64 r.j], .bool had, .int .i64 n] w fun e w' => ∃ av cv, e = .returned (.tuple #[.agg #[.int .i64 ph, .int .i64 1], .slice av (pon n) cv]) ∧ Els RTk 11 w' (.slice av (pon n) cv) (potks r had n) ∧ Below w.heap.size w w' := by
  obtain ⟨f, hf⟩ : ∃ f, porow r had = f := ⟨_, rfl⟩
  obtain ⟨K, hK⟩ : ∃ K, pon n = K := ⟨_, rfl⟩
  have HL := Lib.hid (show potks r had n = (List.range K).map f by unfold potks; rw [hf, hK])
  obtain ⟨a, ha⟩ : ∃ a, min n 8 = a := ⟨_, rfl⟩
  have hKa : K ≤ 8 ∧ (a ≤ 0 → K = 0) ∧ (0 ≤ a → (K : Int) = a) := by unfold pon at hK; omega
  have m2 : ∀ (ts : Array TypeId) (t : TypeId) (w : World), (Builtin.min_ ts t #[.int .i64 n, .int .i64 8]).run Try.prog w = .ok (.int .i64 a) w := fun ts t w => by
    rw [run_min_int2, show (if (8 : Int) < n then (8 : Int) else n) = a by split <;> omega]
  rw [hK]
  clear hK ha
  obtain ⟨rp, rw, rj⟩ := r
  have HB := Lib.hid (below_alloc (below_alloc (Below.refl _ w) (.cells #[.int .i64 rp, .int .i64 rw, .int .i64 rj] 31)) (.cells #[.int .i64 0, .int .i64 0] 29))
  have HX := Lib.hid ((blk_new w #[.int .i64 rp, .int .i64 rw, .int .i64 rj] 31).below (below_alloc (Below.refl _ (w.alloc (.cells #[.int .i64 rp, .int .i64 rw, .int .i64 rj] 31))) (.cells #[.int .i64 0, .int .i64 0] 29)))
  have hr0 := blk_new (w.alloc (.cells #[.int .i64 rp, .int .i64 rw, .int .i64 rj] 31)) #[.int .i64 0, .int .i64 0] 29
  simp only [World.size_alloc] at hr0
  have HR := Lib.hid hr0
  clear hr0
  cases had
  · have HW := Lib.hid (show ph = 3 by rw [← hp]; unfold poph; simp)
    have HFF := Lib.hid (show ∀ k, f k = potk false false from fun k => by rw [← hf]; rfl)
    clear hf hp
    go_enter Try.func10, Try.ntmps10
    go_wp2_with fail
    go_loopw [8, 9] (fun x y wr => ∃ (k : Nat) (av : Option Addr) (cv : Nat), k ≤ K ∧ x = .slice av k cv ∧ y = .int .i64 (k : Int) ∧ Hid (OwnK wr (w.heap.size + 2) (.slice av k cv) ((List.range k).map f)) ∧ Hid (Blk wr w.heap.size #[.int .i64 rp, .int .i64 rw, .int .i64 rj] 31) ∧ Hid (Blk wr (w.heap.size + 1) #[.int .i64 0, .int .i64 0] 29) ∧ Hid (Below w.heap.size w wr)) (fun _ y _ => K - (intOf y).toNat)
    case atStart => exact ⟨0, none, 0, by omega, rfl, rfl, Lib.hid (ownK_nil _ _), HX, HR, HB⟩
    case round =>
      obtain ⟨k, av, cv, hk, rfl, rfl, HOk, HXk, HRk, HBk⟩ := hrel
      clear HB HX HR
      obtain ⟨x0, x1, x2⟩ := HXk.out.three
      have hlr := HRk.out.lt
      by_cases hlt : k < K
      · have hltI : (k : Int) < a := by omega
        have hkw : wrap64 ((k : Int) + 1) = (k : Int) + 1 := IntWalk.wrap64_in _ (by omega)
        have HF := Lib.hid (show f k = potk false false from HFF.out k)
        have HKt := Lib.hid (below_alloc (Below.refl _ wr) (.cells #[.bool false, .int .i64 0, .int .i64 0, .bool false, .int .i64 0, .int .i64 0, .bool false, .bool false, .int .i64 0, .bool false, .bool false] 43))
        have HK9 := Lib.hid (below_alloc (Below.refl _ (wr.alloc (.cells #[.bool false, .int .i64 0, .int .i64 0, .bool false, .int .i64 0, .int .i64 0, .bool false, .bool false, .int .i64 0, .bool false, .bool false] 43))) (.cells #[.bool false, .int .i64 0, .int .i64 0, .bool false, .int .i64 0, .int .i64 0, .bool false, .bool false, .int .i64 0, .bool false, .bool false] 43))
        have HU := Lib.hid (show Els RTk 11 ((wr.alloc (.cells #[.bool false, .int .i64 0, .int .i64 0, .bool false, .int .i64 0, .int .i64 0, .bool false, .bool false, .int .i64 0, .bool false, .bool false] 43)).alloc (.cells #[.bool false, .int .i64 0, .int .i64 0, .bool false, .int .i64 0, .int .i64 0, .bool false, .bool false, .int .i64 0, .bool false, .bool false] 43)) (.slice (some ⟨(wr.alloc (.cells #[.bool false, .int .i64 0, .int .i64 0, .bool false, .int .i64 0, .int .i64 0, .bool false, .bool false, .int .i64 0, .bool false, .bool false] 43)).heap.size, 0, none⟩) 1 1) [potk false false] from elsK_one (potk false false) _ (blk_new _ _ _))
        have HO10 := Lib.hid ((HOk.out.below HKt.out).below HK9.out)
        have hsz : w.heap.size + 2 ≤ ((wr.alloc (.cells #[.bool false, .int .i64 0, .int .i64 0, .bool false, .int .i64 0, .int .i64 0, .bool false, .bool false, .int .i64 0, .bool false, .bool false] 43)).alloc (.cells #[.bool false, .int .i64 0, .int .i64 0, .bool false, .int .i64 0, .int .i64 0, .bool false, .bool false, .int .i64 0, .bool false, .bool false] 43)).heap.size := by simp; omega
        have HBB := Lib.hid (show Below (w.heap.size + 2) wr ((wr.alloc (.cells #[.bool false, .int .i64 0, .int .i64 0, .bool false, .int .i64 0, .int .i64 0, .bool false, .bool false, .int .i64 0, .bool false, .bool false] 43)).alloc (.cells #[.bool false, .int .i64 0, .int .i64 0, .bool false, .int .i64 0, .int .i64 0, .bool false, .bool false, .int .i64 0, .bool false, .bool false] 43)) from (HKt.out.mono (by omega)).trans (HK9.out.mono (by simp; omega)))
        simp only [World.size_alloc] at HU
        go_wp2_with (at_builtin; refine wpList_appK rfl _ _ rfl (w.heap.size + 2) (.slice av k cv) k ((List.range k).map f) rfl (by simp) HO10.out (wr.heap.size + 1) 0 1 1 [potk false false] rfl rfl HU.out (by decide) (by omega) hsz ?_; intro g5 cap5 w10 hown hb; have HO11 := Lib.hid hown; have HB11 := Lib.hid (HBB.out.trans hb); clear hown hb HO10 HU HK9 HKt HBB hsz)
        go_roundw
        case rel =>
          refine ⟨k + 1, some ⟨g5, 0, none⟩, cap5, by omega, rfl, by go_num, Lib.hid ?_, Lib.hid ?_, Lib.hid ?_, Lib.hid ?_⟩
          · have h := HO11.out
            rw [← HF.out] at h
            rw [List.range_succ, List.map_append]
            exact h
          · exact HXk.out.low HB11.out (by omega)
          · exact HRk.out.low HB11.out (by omega)
          · exact HBk.out.trans (HB11.out.mono (by omega))
        case measure => simp [intOf]; omega
      · obtain rfl : k = K := by omega
        have hltI : ¬ (k : Int) < a := by omega
        have hw := HW.out
        subst hw
        go_wp2_with fail
        (with_reducible refine (renter_to 3 3 (by rw [if_pos (by omega)]) _).mono ?_)
        rintro e w2 ⟨rfl, hb⟩
        have HB2 := Lib.hid (below_call HBk.out hb)
        have HR2 := Lib.hid (HRk.out.below hb)
        have HT2 := Lib.hid (HOk.out.below hb)
        clear hb
        obtain ⟨y0, y1⟩ := box2 HR2.out
        have f0 := HR2.out.frz 0
        have f1 := HR2.out.frz 1
        go_wp2_with fail
        (try simp only [Exit.inBlock, Exit.then])
        refine bodyPost_ret (v := .tuple #[.agg #[.int .i64 3, .int .i64 1], .slice av k cv]) ?_ rfl ⟨av, cv, rfl, ?_, bel_set2 HB2.out (by omega) _ _⟩
        · rw [results_cell_tmp rfl]
          go_simp
        · rw [HL.out]
          have hkp := Keep.trans (Keep.set_ (F := fun z => z = w.heap.size + 1) w2 (w.heap.size + 1) 0 (.int .i64 3) rfl) (Keep.set_ (F := fun z => z = w.heap.size + 1) _ (w.heap.size + 1) 1 (.int .i64 1) rfl) (fun _ h => .inl h)
          exact OwnK.els (HT2.out.keep hkp (fun g hg e => by have := HT2.out.lt hg; omega))
  · have HW := Lib.hid (show (rp < 0 ∧ ph = 3) ∨ (¬ rp < 0 ∧ 6 < rp ∧ ph = 3) ∨ (rp = 0 ∧ ph = 6) ∨ (¬ rp < 0 ∧ ¬ 6 < rp ∧ ¬ rp = 0 ∧ rp = ph) by unfold poph at hp; simp at hp; split at hp <;> (try split at hp) <;> omega)
    have HFF := Lib.hid (show ∀ k, f k = potk (pobit rw k) (pobit rj k) from fun k => by rw [← hf]; rfl)
    clear hf hp
    go_enter Try.func10, Try.ntmps10
    go_wp2_with fail
    go_loopw [8, 9] (fun x y wr => ∃ (k : Nat) (av : Option Addr) (cv : Nat), k ≤ K ∧ x = .slice av k cv ∧ y = .int .i64 (k : Int) ∧ Hid (OwnK wr (w.heap.size + 2) (.slice av k cv) ((List.range k).map f)) ∧ Hid (Blk wr w.heap.size #[.int .i64 rp, .int .i64 rw, .int .i64 rj] 31) ∧ Hid (Blk wr (w.heap.size + 1) #[.int .i64 0, .int .i64 0] 29) ∧ Hid (Below w.heap.size w wr)) (fun _ y _ => K - (intOf y).toNat)
    case atStart => exact ⟨0, none, 0, by omega, rfl, rfl, Lib.hid (ownK_nil _ _), HX, HR, HB⟩
    case round =>
      obtain ⟨k, av, cv, hk, rfl, rfl, HOk, HXk, HRk, HBk⟩ := hrel
      clear HB HX HR
      obtain ⟨x0, x1, x2⟩ := HXk.out.three
      have hlr := HRk.out.lt
      by_cases hlt : k < K
      · have hltI : (k : Int) < a := by omega
        have hkw : wrap64 ((k : Int) + 1) = (k : Int) + 1 := IntWalk.wrap64_in _ (by omega)
        have x1c : ∀ C : Array Value, (wr.alloc (.cells C 43)).cell? ⟨w.heap.size, 1, none⟩ = some (.int .i64 rw) := fun C => below_cell (below_alloc (Below.refl _ wr) _) x1
        have x2c : ∀ C : Array Value, (wr.alloc (.cells C 43)).cell? ⟨w.heap.size, 2, none⟩ = some (.int .i64 rj) := fun C => below_cell (below_alloc (Below.refl _ wr) _) x2
        have hcv : IntKind.u64.wrap (k : Int) = (k : Int) := by rw [IntKind.wrap_u64]; omega
        obtain ⟨q1, hq1⟩ : ∃ q : Bool, (bits .and .i64 (rw / 2 ^ k) 1 == 1) = q := ⟨_, rfl⟩
        obtain ⟨q2, hq2⟩ : ∃ q : Bool, (bits .and .i64 (rj / 2 ^ k) 1 == 1) = q := ⟨_, rfl⟩
        have HF := Lib.hid (show f k = potk q1 q2 by rw [HFF.out k]; unfold pobit; rw [← hq1, ← hq2, po_one, po_one]; rfl)
        have HKt := Lib.hid (below_alloc (Below.refl _ wr) (.cells #[.bool false, .int .i64 0, .int .i64 0, .bool q1, .int .i64 0, .int .i64 0, .bool q2, .bool false, .int .i64 0, .bool false, .bool false] 43))
        have HK9 := Lib.hid (below_alloc (Below.refl _ (wr.alloc (.cells #[.bool false, .int .i64 0, .int .i64 0, .bool q1, .int .i64 0, .int .i64 0, .bool q2, .bool false, .int .i64 0, .bool false, .bool false] 43))) (.cells #[.bool false, .int .i64 0, .int .i64 0, .bool q1, .int .i64 0, .int .i64 0, .bool q2, .bool false, .int .i64 0, .bool false, .bool false] 43))
        have HU := Lib.hid (show Els RTk 11 ((wr.alloc (.cells #[.bool false, .int .i64 0, .int .i64 0, .bool q1, .int .i64 0, .int .i64 0, .bool q2, .bool false, .int .i64 0, .bool false, .bool false] 43)).alloc (.cells #[.bool false, .int .i64 0, .int .i64 0, .bool q1, .int .i64 0, .int .i64 0, .bool q2, .bool false, .int .i64 0, .bool false, .bool false] 43)) (.slice (some ⟨(wr.alloc (.cells #[.bool false, .int .i64 0, .int .i64 0, .bool q1, .int .i64 0, .int .i64 0, .bool q2, .bool false, .int .i64 0, .bool false, .bool false] 43)).heap.size, 0, none⟩) 1 1) [potk q1 q2] from elsK_one (potk q1 q2) _ (blk_new _ _ _))
        have HO10 := Lib.hid ((HOk.out.below HKt.out).below HK9.out)
        have hsz : w.heap.size + 2 ≤ ((wr.alloc (.cells #[.bool false, .int .i64 0, .int .i64 0, .bool q1, .int .i64 0, .int .i64 0, .bool q2, .bool false, .int .i64 0, .bool false, .bool false] 43)).alloc (.cells #[.bool false, .int .i64 0, .int .i64 0, .bool q1, .int .i64 0, .int .i64 0, .bool q2, .bool false, .int .i64 0, .bool false, .bool false] 43)).heap.size := by simp; omega
        have HBB := Lib.hid (show Below (w.heap.size + 2) wr ((wr.alloc (.cells #[.bool false, .int .i64 0, .int .i64 0, .bool q1, .int .i64 0, .int .i64 0, .bool q2, .bool false, .int .i64 0, .bool false, .bool false] 43)).alloc (.cells #[.bool false, .int .i64 0, .int .i64 0, .bool q1, .int .i64 0, .int .i64 0, .bool q2, .bool false, .int .i64 0, .bool false, .bool false] 43)) from (HKt.out.mono (by omega)).trans (HK9.out.mono (by simp; omega)))
        simp only [World.size_alloc] at HU
        go_wp2_with (at_builtin; refine wpList_appK rfl _ _ rfl (w.heap.size + 2) (.slice av k cv) k ((List.range k).map f) rfl (by simp) HO10.out (wr.heap.size + 1) 0 1 1 [potk q1 q2] rfl rfl HU.out (by decide) (by omega) hsz ?_; intro g5 cap5 w10 hown hb; have HO11 := Lib.hid hown; have HB11 := Lib.hid (HBB.out.trans hb); clear hown hb HO10 HU HK9 HKt HBB hsz)
        go_roundw
        case rel =>
          refine ⟨k + 1, some ⟨g5, 0, none⟩, cap5, by omega, rfl, by go_num, Lib.hid ?_, Lib.hid ?_, Lib.hid ?_, Lib.hid ?_⟩
          · have h := HO11.out
            rw [← HF.out] at h
            rw [List.range_succ, List.map_append]
            exact h
          · exact HXk.out.low HB11.out (by omega)
          · exact HRk.out.low HB11.out (by omega)
          · exact HBk.out.trans (HB11.out.mono (by omega))
        case measure => simp [intOf]; omega
      · obtain rfl : k = K := by omega
        have hltI : ¬ (k : Int) < a := by omega
        rcases HW.out with ⟨h1, h2⟩ | ⟨h1, h2, h3⟩ | ⟨h1, h2⟩ | ⟨h1, h2, h3, h4⟩
        · subst h2
          go_wp2_with fail
          (with_reducible refine (renter_to 3 3 (by rw [if_pos (by omega)]) _).mono ?_)
          rintro e w2 ⟨rfl, hb⟩
          have HB2 := Lib.hid (below_call HBk.out hb)
          have HR2 := Lib.hid (HRk.out.below hb)
          have HT2 := Lib.hid (HOk.out.below hb)
          clear hb
          obtain ⟨y0, y1⟩ := box2 HR2.out
          have f0 := HR2.out.frz 0
          have f1 := HR2.out.frz 1
          go_wp2_with fail
          (try simp only [Exit.inBlock, Exit.then])
          refine bodyPost_ret (v := .tuple #[.agg #[.int .i64 3, .int .i64 1], .slice av k cv]) ?_ rfl ⟨av, cv, rfl, ?_, bel_set2 HB2.out (by omega) _ _⟩
          · rw [results_cell_tmp rfl]
            go_simp
          · rw [HL.out]
            have hkp := Keep.trans (Keep.set_ (F := fun z => z = w.heap.size + 1) w2 (w.heap.size + 1) 0 (.int .i64 3) rfl) (Keep.set_ (F := fun z => z = w.heap.size + 1) _ (w.heap.size + 1) 1 (.int .i64 1) rfl) (fun _ h => .inl h)
            exact OwnK.els (HT2.out.keep hkp (fun g hg e => by have := HT2.out.lt hg; omega))
        · subst h3
          go_wp2_with fail
          (with_reducible refine (renter_to 3 3 (by rw [if_pos (by omega)]) _).mono ?_)
          rintro e w2 ⟨rfl, hb⟩
          have HB2 := Lib.hid (below_call HBk.out hb)
          have HR2 := Lib.hid (HRk.out.below hb)
          have HT2 := Lib.hid (HOk.out.below hb)
          clear hb
          obtain ⟨y0, y1⟩ := box2 HR2.out
          have f0 := HR2.out.frz 0
          have f1 := HR2.out.frz 1
          go_wp2_with fail
          (try simp only [Exit.inBlock, Exit.then])
          refine bodyPost_ret (v := .tuple #[.agg #[.int .i64 3, .int .i64 1], .slice av k cv]) ?_ rfl ⟨av, cv, rfl, ?_, bel_set2 HB2.out (by omega) _ _⟩
          · rw [results_cell_tmp rfl]
            go_simp
          · rw [HL.out]
            have hkp := Keep.trans (Keep.set_ (F := fun z => z = w.heap.size + 1) w2 (w.heap.size + 1) 0 (.int .i64 3) rfl) (Keep.set_ (F := fun z => z = w.heap.size + 1) _ (w.heap.size + 1) 1 (.int .i64 1) rfl) (fun _ h => .inl h)
            exact OwnK.els (HT2.out.keep hkp (fun g hg e => by have := HT2.out.lt hg; omega))
        · subst h1 h2
          go_wp2_with fail
          (with_reducible refine (renter_to 6 6 (by rw [if_pos (by omega)]) _).mono ?_)
          rintro e w2 ⟨rfl, hb⟩
          have HB2 := Lib.hid (below_call HBk.out hb)
          have HR2 := Lib.hid (HRk.out.below hb)
          have HT2 := Lib.hid (HOk.out.below hb)
          clear hb
          obtain ⟨y0, y1⟩ := box2 HR2.out
          have f0 := HR2.out.frz 0
          have f1 := HR2.out.frz 1
          go_wp2_with fail
          (try simp only [Exit.inBlock, Exit.then])
          refine bodyPost_ret (v := .tuple #[.agg #[.int .i64 6, .int .i64 1], .slice av k cv]) ?_ rfl ⟨av, cv, rfl, ?_, bel_set2 HB2.out (by omega) _ _⟩
          · rw [results_cell_tmp rfl]
            go_simp
          · rw [HL.out]
            have hkp := Keep.trans (Keep.set_ (F := fun z => z = w.heap.size + 1) w2 (w.heap.size + 1) 0 (.int .i64 6) rfl) (Keep.set_ (F := fun z => z = w.heap.size + 1) _ (w.heap.size + 1) 1 (.int .i64 1) rfl) (fun _ h => .inl h)
            exact OwnK.els (HT2.out.keep hkp (fun g hg e => by have := HT2.out.lt hg; omega))
        · have e0 : (rp == 0) = false := by simpa using h3
          subst h4
          go_wp2_with fail
          (with_reducible refine (renter_to rp rp (by rw [if_pos (by omega)]) _).mono ?_)
          rintro e w2 ⟨rfl, hb⟩
          have HB2 := Lib.hid (below_call HBk.out hb)
          have HR2 := Lib.hid (HRk.out.below hb)
          have HT2 := Lib.hid (HOk.out.below hb)
          clear hb
          obtain ⟨y0, y1⟩ := box2 HR2.out
          have f0 := HR2.out.frz 0
          have f1 := HR2.out.frz 1
          go_wp2_with fail
          (try simp only [Exit.inBlock, Exit.then])
          refine bodyPost_ret (v := .tuple #[.agg #[.int .i64 rp, .int .i64 1], .slice av k cv]) ?_ rfl ⟨av, cv, rfl, ?_, bel_set2 HB2.out (by omega) _ _⟩
          · rw [results_cell_tmp rfl]
            go_simp
          · rw [HL.out]
            have hkp := Keep.trans (Keep.set_ (F := fun z => z = w.heap.size + 1) w2 (w.heap.size + 1) 0 (.int .i64 rp) rfl) (Keep.set_ (F := fun z => z = w.heap.size + 1) _ (w.heap.size + 1) 1 (.int .i64 1) rfl) (fun _ h => .inl h)
            exact OwnK.els (HT2.out.keep hkp (fun g hg e => by have := HT2.out.lt hg; omega))
end Go.Proofs.Ytgkihalokedmaaa
