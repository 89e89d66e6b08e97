/-
  link's Tick by contract.
-/
import Derived.Test.YtmfgfjkpijmgoaaDoorLkD
import Derived.Deep.MidRow
import Derived.Deep.RegionHeld3
namespace Go.Proofs.YtmfgfjkpijmgoaaDoor
open Go.RowKit

variable {w w' : World} {b F : Nat} {f : Nat → Ch} {v : Nat → Value} {D : Nat → Prop}
theorem extract4 {C : Array Value} {i : Nat} {a0 a1 a2 a3 : Value} (h0 : C[i]? = some a0) (h1 : C[i + 1]? = some a1) (h2 : C[i + 2]? = some a2) (h3 : C[i + 3]? = some a3) : C.extract i (i + 4) = #[a0, a1, a2, a3] := by
  have hl : i + 3 < C.size := (Array.getElem?_eq_some_iff.1 h3).1
  apply Array.ext_getElem?
  intro j
  rw [Array.getElem?_extract]
  match j with
  | 0 => rw [if_pos (by omega)]; simpa using h0
  | 1 => rw [if_pos (by omega)]; simpa using h1
  | 2 => rw [if_pos (by omega)]; simpa using h2
  | 3 => rw [if_pos (by omega)]; simpa using h3
  | j + 4 => rw [if_neg (by omega)]; simp
theorem aggLk (w : World) : (isAgg 43).run Tryd.prog w = .ok true w := by kernel_rfl
theorem sizeLk (w : World) : (sizeOf 43).run Tryd.prog w = .ok 4 w := by kernel_rfl
theorem index_lk (C : Array Value) (k : Nat) (hk : k < 16) {a0 a1 a2 a3 : Value} (h0 : C[k * 4]? = some a0) (h1 : C[k * 4 + 1]? = some a1) (h2 : C[k * 4 + 2]? = some a2) (h3 : C[k * 4 + 3]? = some a3) (w : World) :
    (Instr.index 53 (.agg C) (.int .i64 (k : Int))).run Tryd.prog w = .ok (.agg #[a0, a1, a2, a3]) w := by
  have hp : (0 : Int) ≤ (k : Int) ∧ (k : Int) < 16 := by omega
  simp [Instr.index, run_underlying Tryd.underlying53, asIntOf, hp, go_sem]
  rw [if_pos (by omega)]
  simp [extract4 h0 h1 h2 h3]
theorem sizeLkA : (Tryd.prog.info? 53).map (·.size) = some 64 := by kernel_rfl
/-- The channels as one value. -/
theorem Lk.all (h : Lk true w 55 b F f v D) : ∃ cs : List Value, cs.length = 64 ∧ w.rangeAt b 1 cs ∧ ∀ k, k < 16 → cs.toArray[k * 4]? = some (.bool (f k).had) ∧ cs.toArray[k * 4 + 1]? = some (.int .i64 (f k).seq) ∧ cs.toArray[k * 4 + 2]? = some (.int .i64 ((f k).age : Int)) ∧ cs.toArray[k * 4 + 3]? = some (v k) := by
  obtain ⟨C, h1, h2, _, h4⟩ := h.row
  refine ⟨(C.extract 1 65).toList, by simp [h2], World.rangeAt_of_block h1 1 64, fun k hk => ?_⟩
  obtain ⟨a0, a1, a2, a3⟩ := h4 k hk
  refine ⟨?_, ?_, ?_, ?_⟩ <;> (rw [Array.toArray_toList, Array.getElem?_extract, if_pos (by omega)]; first | exact a0 | (rw [← Nat.add_assoc]; assumption))
set_option maxHeartbeats 2000000 in
theorem tick_any (h : Lk true w 55 b F f v D) :
    Calls Tryd.prog 12 #[.pointer (some ⟨b, 0, none⟩)] w fun e w' => e = .returned (.tuple #[]) ∧ LkAfter w w' b F (fun k => older F (f k)) D := by
  obtain ⟨cs, hl, hr, hc⟩ := h.all
  have HR := Lib.hid hr
  have HC := Lib.hid hc
  have HZ := Lib.hid (show (Tryd.prog.info? 53).map (·.size) = some cs.length by rw [hl]; exact sizeLkA)
  have HL := Lib.hid h
  have hblt := h.blt
  clear h hl hr hc
  go_enter Tryd.func12, Tryd.ntmps12
  go_wp2_with (with_reducible refine wpList_load_mid rfl _ _ rfl b 1 rfl cs _ HR.out Tryd.underlying53 rfl HZ.out ?_)
  go_loopw [8] (fun u8 wr => ∃ (k : Nat) (v' : Nat → Value), k ≤ 16 ∧ u8 = .int .i64 (k : Int) ∧ Hid (Lk true wr 55 b F (fun j => if j < k then older F (f j) else f j) v' D) ∧ Hid (Keep (fun g => g = b) w wr)) (fun u8 _ => 16 - (intOf u8).toNat)
  case atStart => exact ⟨0, v, by omega, rfl, Lib.hid (by simpa using HL.out), Lib.hid (Keep.refl _ _)⟩
  case round =>
    obtain ⟨k, v', hk, rfl, HLr, HKr⟩ := hrel
    by_cases hlt : k < 16
    · have hlz : (k : Int) < 16 := by omega
      have hk0 : (0 : Int) ≤ (k : Int) := by omega
      obtain ⟨i0, i1, i2, i3⟩ := HC.out k hlt
      have hix := index_lk cs.toArray k hlt i0 i1 i2 i3
      clear i0 i1 i2 i3
      obtain ⟨va, vn, vc, ev⟩ := HL.out.sl k hlt
      rw [ev] at hix
      obtain ⟨ua, un, uc, hu, ho⟩ := older_any F (f k) va vn vc
      have HU := Lib.hid hu
      have HB0 := Lib.hid (below_call (below_alloc (Below.refl _ wr) (.cells #[.bool (f k).had, .int .i64 (f k).seq, .int .i64 ((f k).age : Int), .slice va vn vc] 43)) (bel_drew _))
      have HO := Lib.hid (ho true _ b _ _ _ (HLr.out.below HB0.out))
      have HX := Lib.hid ((blk_new wr #[.bool (f k).had, .int .i64 (f k).seq, .int .i64 ((f k).age : Int), .slice va vn vc] 43).below (bel_drew _))
      obtain ⟨x0, x1, x2, x3⟩ := (blk_new wr #[.bool (f k).had, .int .i64 (f k).seq, .int .i64 ((f k).age : Int), .slice va vn vc] 43).four
      obtain ⟨c', HC'⟩ : ∃ c', Hid (c' = older F (f k)) := ⟨_, Lib.hid rfl⟩
      rw [← HC'.out] at HO HU
      have hbw : b < wr.heap.size := HLr.out.blt
      have HEV := Lib.hid ev
      clear hu ho ev
      go_wp2_with fail
      go_region_held3 (fun w' => w'.cell? ⟨wr.heap.size, 0, none⟩ = some (.bool (f k).had) ∧ w'.cell? ⟨wr.heap.size, 1, none⟩ = some (.int .i64 (f k).seq) ∧ w'.cell? ⟨wr.heap.size, 2, none⟩ = some (.int .i64 ((f k).age : Int)) ∧ w'.cell? ⟨wr.heap.size, 3, none⟩ = some (.slice va vn vc))
        (first | exact ⟨x0, x1, x2, x3⟩ | exact HK.out | exact HKS.out)
        (first
          | (go_at_call 23; (with_reducible refine HO.out.mono ?_); rintro e w3 ⟨rfl, hb⟩
             have HB3 := Lib.hid (below_call HB0.out hb); have HX3 := HX.out.below hb; have HK := Lib.hid HX3.four; have HL3 := Lib.hid (HLr.out.below HB3.out)
             obtain ⟨d0, d1, d2, d3⟩ := HL3.out.at_ k hlt
             have z0 := HL3.out.frz (1 + k * 4); have z1 := HL3.out.frz (1 + k * 4 + 1); have z2 := HL3.out.frz (1 + k * 4 + 2); have z3 := HL3.out.frz (1 + k * 4 + 3)
             have HKS := Lib.hid (((((HX3.far b (1 + k * 4) (.bool c'.had) (by omega)).far b (1 + k * 4 + 1) (.int .i64 c'.seq) (by omega)).far b (1 + k * 4 + 2) (.int .i64 (c'.age : Int)) (by omega)).far b (1 + k * 4 + 3) (.slice ua un uc) (by omega)).four)
             clear hb HX3))
      go_wp2_with fail
      go_roundw
      case rel =>
        have hK3 : Keep (fun g => g = b) w w3 := HKr.out.trans (Keep.of_below (F := fun _ => False) HB3.out) (fun _ h => h.elim)
        have hD : ∀ a n cp, Value.slice va vn vc = .slice (some a) n cp → n = 0 ∨ D a.block := by rw [← HEV.out]; exact HL.out.inD k hlt
        refine ⟨k + 1, upd v' k (.slice ua un uc), by omega, by go_num, Lib.hid ?_, Lib.hid (hK3.trans (keep_put _ b _ _ _ _ _) (fun g h => .inl h))⟩
        refine (HL3.out.put k hlt c' (.slice ua un uc) (by rw [HC'.out]; exact ok_older (HL.out.ok k hlt)) ?_ ?_).ext fun j hj => ?_
        · rcases HU.out with ⟨rfl, rfl, rfl, e⟩ | ⟨rfl, rfl, rfl, e⟩
          · rw [e]
            have := HL.out.dat k hlt (.inl rfl)
            rw [HEV.out] at this
            exact this.keep hK3 fun a n cp e => (hD a n cp e).imp id fun h1 h2 => (HL.out.lt _ h1).2 h2
          · rw [e]; exact byts_nil _
        · rcases HU.out with ⟨rfl, rfl, rfl, e⟩ | ⟨rfl, rfl, rfl, e⟩
          · exact hD
          · intro a n cp e; cases e
        · by_cases e : j = k
          · subst e; rw [upd_same, if_pos (by omega)]; exact HC'.out
          · rw [upd_other _ _ _ e]
            by_cases e2 : j < k
            · rw [if_pos e2, if_pos (by omega)]
            · rw [if_neg e2, if_neg (by omega)]
      case measure => simp [intOf]; omega
    · obtain rfl : k = 16 := by omega
      clear hk hlt
      go_wp2
      go_end0
      refine ⟨rfl, v', D, ?_, fun g hg => .inl hg, HKr.out⟩
      have := HLr.out
      exact this.ext fun j hj => by rw [if_pos hj]
end Go.Proofs.YtmfgfjkpijmgoaaDoor
