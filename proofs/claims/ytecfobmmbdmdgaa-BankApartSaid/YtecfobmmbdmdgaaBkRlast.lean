/-
  The document's own Last and Same, by contract.
-/
import Derived.Test.YtecfobmmbdmdgaaBkRnotes
import Derived.Test.YtecfobmmbdmdgaaTxt
namespace Go.Proofs.Ytecfobmmbdmdgaa
open Go.RowKit

set_option maxHeartbeats 1000000 in
theorem rlast_any (v : Value) (xs : List (BitVec 8)) (w : World) (hv : Byts w v xs) (hl : xs.length ≤ 100000) :
    Calls Try.prog 18 #[v] w fun e w' => ∃ s a k c p ok, e = .returned (.tuple #[.agg #[.int .u32 s, .slice a k c, .int .i64 p], .bool ok]) ∧ LastT (bnotes xs).getLast? w.heap.size w' s a k c p ok ∧ Below w.heap.size w w' := by
  have HB := Lib.hid (below_alloc (Below.refl _ w) (.cells #[.int .u32 0, .slice none 0 0, .int .i64 0] 33))
  have HX := Lib.hid (blk_new w #[.int .u32 0, .slice none 0 0, .int .i64 0] 33)
  have HN := Lib.hid (rnotes_any v xs _ (hv.below HB.out) hl)
  clear hv
  go_enter Try.func18, Try.ntmps18
  go_wp2_with fail
  (with_reducible refine HN.out.mono ?_)
  rintro e w1 ⟨r, ys, rfl, hys, hrow, hdat, hb⟩
  have HX1 := Lib.hid (HX.out.below hb)
  have HB1 := Lib.hid (below_call HB.out hb)
  have hsz : w.heap.size < (w.alloc (.cells #[.int .u32 0, .slice none 0 0, .int .i64 0] 33)).heap.size := by simp
  obtain ⟨c0, c1, c2⟩ := HX1.out.three
  have f0 := HX1.out.frz 0
  have f1 := HX1.out.frz 1
  have f2 := HX1.out.frz 2
  rcases List.eq_nil_or_concat ys with rfl | ⟨p, y, hy⟩
  · obtain ⟨ra, rc, er⟩ := hrow.len
    have HL := Lib.hid (show (bnotes xs).getLast? = none by rw [← hys]; rfl)
    clear hys hrow hdat hb
    subst er
    go_wp2_with fail
    (try simp only [Exit.inBlock, Exit.then])
    refine bodyPost_ret (v := .tuple #[.agg #[.int .u32 0, .slice none 0 0, .int .i64 0], .bool false]) ?_ rfl ⟨_, _, _, _, _, _, rfl, .inl ⟨HL.out, rfl, rfl, rfl, rfl, rfl, rfl⟩, bel_set3 HB1.out (Nat.le_refl _) _ _ _⟩
    rw [results_cell_tmp rfl]
    go_simp
  · rw [List.concat_eq_append] at hy
    subst hy
    obtain ⟨g0, k0, er, _, _, a0, a1, a2⟩ := hrow.at_ (j := p.length) (y := y) (by simp)
    obtain ⟨K, hK⟩ : ∃ K, K = (p ++ [y]).length := ⟨_, rfl⟩
    rw [← hK] at er
    subst er
    have hKj : K = p.length + 1 := by rw [hK]; simp
    have hKs : p.length ≤ 1000000 := by
      have h1 := bnotes_len xs
      rw [← hys] at h1
      simp at h1
      omega
    have hK1 : IntKind.i64.wrap ((K : Int) - 1) = (p.length : Int) := by rw [IntWalk.i64_in _ (by omega)]; omega
    have q1 : ((K : Int) == 0) = false := by simp; omega
    have q3 : (p.length : Int) < (K : Int) := by omega
    have q4 : (0 : Int) ≤ (p.length : Int) := by omega
    have HL := Lib.hid (show (bnotes xs).getLast? = some y.nt by rw [← hys]; simp)
    have HO := Lib.hid ((hdat.1 y (by simp)).mono (show w.heap.size + 1 ≤ _ by omega))
    have a1' : w1.cell? ⟨g0, p.length * 3 + 1, none⟩ = some (.slice (some ⟨y.g, 0, none⟩) y.d.length y.c) := a1
    clear hys hrow hdat hb hK hKj a1
    go_wp2_with fail
    (try simp only [Exit.inBlock, Exit.then])
    refine bodyPost_ret (v := .tuple #[.agg #[.int .u32 (y.s : Int), .slice (some ⟨y.g, 0, none⟩) y.d.length y.c, .int .i64 (y.e : Int)], .bool true]) ?_ rfl ⟨_, _, _, _, _, _, rfl, .inr ⟨rfl, y, HL.out, rfl, rfl, rfl, (own_set3 HO.out (by omega) _ _ _).mono (by omega)⟩, bel_set3 HB1.out (Nat.le_refl _) _ _ _⟩
    rw [results_cell_tmp rfl]
    go_simp

set_option maxHeartbeats 1000000 in
theorem same_yes (s e : Int) (v u : Value) (xs : List (BitVec 8)) (w : World) (hv : Byts w v xs) (hu : Byts w u xs) :
    Calls Try.prog 16 #[.agg #[.int .u32 s, v, .int .i64 e], .agg #[.int .u32 s, u, .int .i64 e]] w fun e' w' => e' = .returned (.bool true) ∧ Below w.heap.size w w' := by
  obtain ⟨av, cv, ev⟩ := hv.len
  obtain ⟨au, cu, eu⟩ := hu.len
  subst ev eu
  have hB := bel_two w (.cells #[.int .u32 s, .slice av xs.length cv, .int .i64 e] 33) (.cells #[.int .u32 s, .slice au xs.length cu, .int .i64 e] 33)
  have h1 := txt_run _ _ _ (hv.below hB)
  have h2 := txt_run _ _ _ (hu.below hB)
  have hq := txt_same xs
  have q1 : (s == s) = true := by simp
  have q2 : (e == e) = true := by simp
  have HB := Lib.hid hB
  clear hv hu hB
  go_enter Try.func16, Try.ntmps16
  go_wp2_with fail
  go_ret
  exact ⟨rfl, HB.out⟩
end Go.Proofs.Ytecfobmmbdmdgaa
