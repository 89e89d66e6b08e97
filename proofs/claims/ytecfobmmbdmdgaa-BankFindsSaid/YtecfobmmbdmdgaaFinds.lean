/-
  The walk of crossbucklaw16.BankFinds: true, whatever it is given.
-/
import Derived.Test.YtecfobmmbdmdgaaSmall
import Derived.Deep.RegionHeld3
namespace Go.Proofs.Ytecfobmmbdmdgaa
open Go.RowKit

/-- What does not change: two lists that tell the same, the first one's data apart from all else. -/
structure St (B : Nat) (v vl vm : Value) (ys zs : List NV) : Prop where
  same : ys.map NV.nt = zs.map NV.nt
  pair : ys.Pairwise (fun a b => a.g < b.g)
  two : ∀ y ∈ ys, ∀ z ∈ zs, y.g < z.g
  rowl : ∀ g, vl.ownBlock = some g → ∀ y ∈ ys, g ≠ y.g
  rowm : ∀ g, vm.ownBlock = some g → ∀ y ∈ ys, g ≠ y.g
  low : ∀ y ∈ ys, B ≤ y.g
  far : ∀ a k c, v = .slice (some a) k c → k = 0 ∨ a.block < B
/-- The world where the notes ahead of i have been compared and written over. -/
def FInv (w : World) (v vl vm : Value) (xs : List (BitVec 8)) (ys zs : List NV) (i : Nat) (wr : World) : Prop :=
  OwnN wr w.heap.size vl ys ∧ OwnN wr w.heap.size vm zs ∧ Dat wr w.heap.size zs ∧ (∀ (j : Nat) (y : NV), i ≤ j → ys[j]? = some y → Own wr w.heap.size y.v y.d) ∧ Byts wr v xs ∧ Below w.heap.size w wr
theorem FInv.below {w wr wr' : World} {v vl vm : Value} {xs : List (BitVec 8)} {ys zs : List NV} {i : Nat} (h : FInv w v vl vm xs ys zs i wr) (hb : Below wr.heap.size wr wr') : FInv w v vl vm xs ys zs i wr' :=
  ⟨h.1.below hb, h.2.1.below hb, h.2.2.1.below hb, fun j y hj hy => (h.2.2.2.1 j y hj hy).below hb, h.2.2.2.2.1.below hb, below_call h.2.2.2.2.2 hb⟩
theorem FInv.next {w wr wr' : World} {v vl vm : Value} {xs : List (BitVec 8)} {ys zs : List NV} {i : Nat} {y : NV} (h : FInv w v vl vm xs ys zs i wr) (hs : St w.heap.size v vl vm ys zs) (hy : ys[i]? = some y) (hk : Keep (fun k => k = y.g) wr wr') : FInv w v vl vm xs ys zs (i + 1) wr' := by
  have hym : y ∈ ys := List.mem_of_getElem? hy
  have hlow := hs.low y hym
  refine ⟨h.1.keep hk fun g hg e => hs.rowl g hg y hym e, h.2.1.keep hk fun g hg e => hs.rowm g hg y hym e, h.2.2.1.keep hk fun z hz e => ?_, fun j u hj hu => ?_, h.2.2.2.2.1.keep hk fun a n c e => (hs.far a n c e).imp id fun h1 h2 => ?_, below_keep h.2.2.2.2.2 hk fun g e => by have e : g = y.g := e; omega⟩
  · have := hs.two y hym z hz
    have e : z.g = y.g := e
    omega
  · refine (h.2.2.2.1 j u (by omega) hu).keepB hk fun g hg e => ?_
    simp only [NV.v, Value.ownBlock, Option.some.injEq] at hg
    obtain ⟨hi, rfl⟩ := List.getElem?_eq_some_iff.1 hy
    obtain ⟨hj', rfl⟩ := List.getElem?_eq_some_iff.1 hu
    have := List.pairwise_iff_getElem.1 hs.pair i j hi hj' (by omega)
    have e : g = ys[i].g := e
    omega
  · have h2 : a.block = y.g := h2
    omega
theorem rel_at {ys zs : List NV} (h : ys.map NV.nt = zs.map NV.nt) {i : Nat} {y : NV} (hy : ys[i]? = some y) : ∃ z, zs[i]? = some z ∧ z.s = y.s ∧ z.d = y.d ∧ z.e = y.e := by
  have h1 : (zs.map NV.nt)[i]? = some y.nt := by rw [← h, List.getElem?_map, hy]; rfl
  rw [List.getElem?_map] at h1
  cases hz : zs[i]? with
  | none => rw [hz] at h1; cases h1
  | some z =>
    rw [hz] at h1
    simp only [Option.map_some, Option.some.injEq, NV.nt, Nt.mk.injEq] at h1
    exact ⟨z, rfl, h1.1, h1.2.1, h1.2.2⟩
/-- Two answers of Last for the same bytes tell the same. -/
theorem last_same {m : Option Nt} {B B' : Nat} {w : World} {s s' : Int} {a a' : Option Addr} {k k' c c' : Nat} {e e' : Int} {ok ok' : Bool} (h : LastT m B w s a k c e ok) (h' : LastT m B' w s' a' k' c' e' ok') :
    s' = s ∧ e' = e ∧ ok' = ok ∧ ∃ xs, Byts w (.slice a k c) xs ∧ Byts w (.slice a' k' c') xs := by
  rcases h with ⟨rfl, rfl, rfl, rfl, rfl, rfl, rfl⟩ | ⟨rfl, y, rfl, rfl, h3, rfl, h5⟩
  · rcases h' with ⟨_, rfl, rfl, rfl, rfl, rfl, rfl⟩ | ⟨_, y', h2, _⟩
    · exact ⟨rfl, rfl, rfl, [], byts_nil w, byts_nil w⟩
    · cases h2
  · rcases h' with ⟨h2, _⟩ | ⟨rfl, y', h2, rfl, h3', rfl, h5'⟩
    · cases h2
    · simp only [Option.some.injEq, NV.nt, Nt.mk.injEq] at h2
      obtain ⟨e1, e2, e3⟩ := h2
      exact ⟨by rw [e1], by rw [e3], rfl, y.d, by rw [h3]; exact h5.byts, by rw [h3', e2]; exact h5'.byts⟩
/-- Two lists of two calls, one behind the other. -/
theorem st_mk {w w1 w2 w3 : World} {v vl vm : Value} {ys zs : List NV} {xs : List (BitVec 8)} (h1 : OwnN w2 w1.heap.size vl ys) (d1 : Dat w2 w1.heap.size ys) (h2 : OwnN w3 w2.heap.size vm zs) (d2 : Dat w3 w2.heap.size zs) (_ : Below w2.heap.size w2 w3)
    (hm : ys.map NV.nt = zs.map NV.nt) (hw : w.heap.size ≤ w1.heap.size) (hv : Byts w v xs) : St w.heap.size v vl vm ys zs :=
  ⟨hm, d1.2, fun y hy z hz => Nat.lt_of_lt_of_le (d1.lt hy) (NV.own_block (d2.1 z hz)).choose_spec.2, fun g hg y hy => d1.ne h1 hy g hg,
    fun g hg y hy => by have h3 := (World.ownsRow.lt h2 g hg).1; have h4 := d1.lt hy; omega, fun y hy => Nat.le_trans hw (NV.own_block (d1.1 y hy)).choose_spec.2, far_of hv⟩

set_option maxRecDepth 10000 in
set_option maxHeartbeats 4000000 in
theorem finds_any (v : Value) (xs : List (BitVec 8)) (w : World) (hv : Byts w v xs) :
    Calls Try.prog 4 #[v] w fun e w' => e = .returned (.bool true) ∧ Below w.heap.size w w' := by
  obtain ⟨av, cv, ev⟩ := hv.len
  have HV := Lib.hid hv
  clear hv
  subst ev
  go_enter Try.func4, Try.ntmps4
  go_wp2_with fail
  (with_reducible refine (small_true _).mono ?_)
  rintro e w1 ⟨rfl, hb⟩
  have HB1 := Lib.hid hb
  have HV1 := Lib.hid (HV.out.below hb)
  clear hb
  by_cases h1 : 1000 < xs.length
  · have q1 : decide ((1000 : Int) < (xs.length : Int)) = true := by simp; omega
    clear h1
    go_wp2_with fail
    go_ret
    exact ⟨rfl, HB1.out⟩
  have q1 : decide ((1000 : Int) < (xs.length : Int)) = false := by simp; omega
  have HL := Lib.hid (show xs.length ≤ 100000 by omega)
  have HN := Lib.hid (notes_any _ xs w1 HV1.out HL.out)
  clear h1
  go_wp2_with fail
  (with_reducible refine HN.out.mono ?_)
  rintro e w2 ⟨vl, ys, rfl, hys, hl, hd, hb⟩
  have HN3 := Lib.hid (rnotes_any _ xs w2 (HV1.out.below hb) HL.out)
  have HYS := Lib.hid hys
  have HLL := Lib.hid hl
  have HLD := Lib.hid hd
  have HB2 := Lib.hid (below_call HB1.out hb)
  have HV2 := Lib.hid (HV1.out.below hb)
  clear hys hl hd hb HN HV1
  go_wp2_with fail
  (with_reducible refine HN3.out.mono ?_)
  rintro e w3 ⟨vm, zs, rfl, hzs, hm, hd, hb⟩
  have HST := Lib.hid (st_mk (w := w) HLL.out HLD.out hm hd hb (HYS.out.trans hzs.symm) HB1.out.size HV.out)
  have HF0 : Hid (FInv w (.slice av xs.length cv) vl vm xs ys zs 0 w3) := Lib.hid ⟨(HLL.out.below hb).mono HB1.out.size, hm.mono HB2.out.size, ⟨fun z hz => (hd.1 z hz).mono HB2.out.size, hd.2⟩, fun j y _ hy => ((HLD.out.1 y (List.mem_of_getElem? hy)).below hb).mono HB1.out.size, HV2.out.below hb, below_call HB2.out hb⟩
  obtain ⟨al, cl, el⟩ := HLL.out.len
  obtain ⟨am, cm, em⟩ := hm.len
  have hlen : zs.length = ys.length := by have := congrArg List.length (HYS.out.trans hzs.symm); simpa using this.symm
  obtain ⟨n, hn⟩ : ∃ n, n = ys.length := ⟨_, rfl⟩
  rw [hlen, ← hn] at em
  rw [← hn] at el
  subst el em
  have hns : n ≤ 100001 := by
    have h2 := bnotes_len xs
    rw [← HYS.out] at h2
    have := HL.out
    simp at h2
    omega
  have HNN := Lib.hid hn
  have q2 : ((n : Int) != (n : Int)) = false := by simp
  clear hzs hm hd hb HN3 HLL HLD HB2 HV2 hlen hn HB1 HV
  go_wp2_with fail
  go_loopw [6] (fun i wr => ∃ k : Nat, k ≤ n ∧ i = .int .i64 k ∧ FInv w (.slice av xs.length cv) (.slice al n cl) (.slice am n cm) xs ys zs k wr) (fun i _ => n - (intOf i).toNat)
  case atStart => exact ⟨0, by omega, rfl, HF0.out⟩
  case round =>
    clear HF0
    obtain ⟨k, hk, rfl, hfi⟩ := hrel
    by_cases hlt : k < n
    · obtain ⟨y, hy⟩ : ∃ y, ys[k]? = some y := ⟨_, List.getElem?_eq_getElem (by rw [← HNN.out]; exact hlt)⟩
      obtain ⟨z, hz, hzs, hzd, hze⟩ := rel_at HST.out.same hy
      obtain ⟨gl, kl, el, _, _, a0, a1, a2⟩ := hfi.1.at_ hy
      obtain ⟨gm, km, em, _, _, b0, b1, b2⟩ := hfi.2.1.at_ hz
      simp only [Value.slice.injEq] at el em
      obtain ⟨rfl, -, rfl⟩ := el
      obtain ⟨rfl, -, rfl⟩ := em
      rw [hzs] at b0
      rw [hze] at b2
      have HSM := Lib.hid (fun wz hb => same_yes (y.s : Int) (y.e : Int) y.v z.v y.d wz ((hfi.2.2.2.1 k y (Nat.le_refl _) hy).byts.below hb) (by have h := (hfi.2.2.1.1 z (List.mem_of_getElem? hz)).byts.below hb; rwa [hzd] at h))
      have hzv : z.v = .slice (some ⟨z.g, 0, none⟩) y.d.length z.c := by unfold NV.v; rw [hzd]
      rw [hzv] at b1 HSM
      unfold NV.v at a1 HSM
      have HA0 := Lib.hid a0
      have HA1 := Lib.hid a1
      have HA2 := Lib.hid a2
      have HB0 := Lib.hid b0
      have HB1 := Lib.hid b1
      have HB2 := Lib.hid b2
      have HFI := Lib.hid hfi
      have HY := Lib.hid hy
      have hki : (k : Int) < (n : Int) := by omega
      have hk0 : (0 : Int) ≤ (k : Int) := by omega
      have hyl : y.d.length ≤ 40 := (nv_fit HYS.out hy).2.1
      clear hy hz hzs hzd hze a0 a1 a2 b0 b1 b2 hfi hzv
      go_wp2_with fail
      refine wp_region_held_drew (S := fun w' => Below wr.heap.size wr w') (by kernel_rfl) (bel_drew wr) (fun hHeld => ?_)
      refine wpAnyH_take (i := 0) (oi := ?_) (v := ?_) ?_ (by kernel_rfl) (by kernel_rfl) (by kernel_rfl) ?_ (Or.inl ⟨?_, ?_⟩) hHeld ?_
      rotate_left 2
      · (simp only [List.getElem?_toArray, List.getElem?_cons_zero]; rfl)
      · exact (fun _ _ _ h => h)
      · rfl
      · (intro w hSw; (try dsimp only at hSw); go_simp; try with_reducible rfl)
      (try simp only [Act.put, List.setIfInBounds_toArray, List.set_cons_zero, List.set_cons_succ])
      refine wpAnyH_take (i := 1) (oi := ?_) (v := ?_) ?_ (by kernel_rfl) (by kernel_rfl) (by kernel_rfl) ?_ (Or.inl ⟨?_, ?_⟩) hHeld ?_
      rotate_left 2
      · (simp only [List.getElem?_toArray, List.getElem?_cons_zero, List.getElem?_cons_succ]; rfl)
      · exact (fun _ _ _ h => h)
      · rfl
      · (intro w hSw; (try dsimp only at hSw); go_simp; try with_reducible rfl)
      (try simp only [Act.put, List.setIfInBounds_toArray, List.set_cons_zero, List.set_cons_succ])
      refine wpAnyH_take (i := 2) (oi := ?_) (v := ?_) ?_ (by kernel_rfl) (by kernel_rfl) (by kernel_rfl) ?_ (Or.inl ⟨?_, ?_⟩) hHeld ?_
      rotate_left 2
      · (simp only [List.getElem?_toArray, List.getElem?_cons_zero, List.getElem?_cons_succ]; rfl)
      · exact (fun _ _ _ h => h)
      · rfl
      · (intro w hSw; (try dsimp only at hSw); go_simp; try with_reducible rfl)
      (try simp only [Act.put, List.setIfInBounds_toArray, List.set_cons_zero, List.set_cons_succ])
      refine wpAnyH_take (i := 3) (oi := ?_) (v := ?_) ?_ (by kernel_rfl) (by kernel_rfl) (by kernel_rfl) ?_ (Or.inl ⟨?_, ?_⟩) hHeld ?_
      rotate_left 2
      · (simp only [List.getElem?_toArray, List.getElem?_cons_zero, List.getElem?_cons_succ]; rfl)
      · exact (fun _ _ _ h => h)
      · rfl
      · (intro w hSw; (try dsimp only at hSw); have q0 := below_cell hSw HA0.out; have q1 := below_cell hSw HA1.out; have q2 := below_cell hSw HA2.out; go_simp; try with_reducible rfl)
      (try simp only [Act.put, List.setIfInBounds_toArray, List.set_cons_zero, List.set_cons_succ])
      refine wpAnyH_take (i := 4) (oi := ?_) (v := ?_) ?_ (by kernel_rfl) (by kernel_rfl) (by kernel_rfl) ?_ (Or.inl ⟨?_, ?_⟩) hHeld ?_
      rotate_left 2
      · (simp only [List.getElem?_toArray, List.getElem?_cons_zero, List.getElem?_cons_succ]; rfl)
      · exact (fun _ _ _ h => h)
      · rfl
      · (intro w hSw; (try dsimp only at hSw); go_simp; try with_reducible rfl)
      (try simp only [Act.put, List.setIfInBounds_toArray, List.set_cons_zero, List.set_cons_succ])
      refine wpAnyH_take (i := 5) (oi := ?_) (v := ?_) ?_ (by kernel_rfl) (by kernel_rfl) (by kernel_rfl) ?_ (Or.inl ⟨?_, ?_⟩) hHeld ?_
      rotate_left 2
      · (simp only [List.getElem?_toArray, List.getElem?_cons_zero, List.getElem?_cons_succ]; rfl)
      · exact (fun _ _ _ h => h)
      · rfl
      · (intro w hSw; (try dsimp only at hSw); go_simp; try with_reducible rfl)
      (try simp only [Act.put, List.setIfInBounds_toArray, List.set_cons_zero, List.set_cons_succ])
      refine wpAnyH_take (i := 6) (oi := ?_) (v := ?_) ?_ (by kernel_rfl) (by kernel_rfl) (by kernel_rfl) ?_ (Or.inl ⟨?_, ?_⟩) hHeld ?_
      rotate_left 2
      · (simp only [List.getElem?_toArray, List.getElem?_cons_zero, List.getElem?_cons_succ]; rfl)
      · exact (fun _ _ _ h => h)
      · rfl
      · (intro w hSw; (try dsimp only at hSw); go_simp; try with_reducible rfl)
      (try simp only [Act.put, List.setIfInBounds_toArray, List.set_cons_zero, List.set_cons_succ])
      refine wpAnyH_take (i := 7) (oi := ?_) (v := ?_) ?_ (by kernel_rfl) (by kernel_rfl) (by kernel_rfl) ?_ (Or.inl ⟨?_, ?_⟩) hHeld ?_
      rotate_left 2
      · (simp only [List.getElem?_toArray, List.getElem?_cons_zero, List.getElem?_cons_succ]; rfl)
      · exact (fun _ _ _ h => h)
      · rfl
      · (intro w hSw; (try dsimp only at hSw); have q0 := below_cell hSw HB0.out; have q1 := below_cell hSw HB1.out; have q2 := below_cell hSw HB2.out; go_simp; try with_reducible rfl)
      (try simp only [Act.put, List.setIfInBounds_toArray, List.set_cons_zero, List.set_cons_succ])
      refine wpAnyH_ready (rs := [8]) (by kernel_rfl) (by simp) ?_
      refine AllReadyH.cons (o := ?_) ?_ (fun K hK => ?_) AllReadyH.nil
      rotate_left
      · (simp only [List.getElem?_toArray, List.getElem?_cons_zero, List.getElem?_cons_succ]; rfl)
      go_simp
      (with_reducible refine (HSM.out _ hHeld).mono ?_)
      rintro e wz ⟨rfl, hb⟩
      have HBz := Lib.hid (below_call hHeld hb)
      clear hb
      go_wp2_with fail
      refine hK.out _ _ HBz.out (fun hHeld => ?_)
      clear hK K
      (try simp only [Act.put, List.setIfInBounds_toArray, List.set_cons_zero, List.set_cons_succ])
      refine wpAnyH_take (i := 9) (oi := ?_) (v := ?_) ?_ (by kernel_rfl) (by kernel_rfl) (by kernel_rfl) ?_ (Or.inl ⟨?_, ?_⟩) hHeld ?_
      rotate_left 2
      · (simp only [List.getElem?_toArray, List.getElem?_cons_zero, List.getElem?_cons_succ]; rfl)
      · exact (fun _ _ _ h => h)
      · rfl
      · (intro w hSw; (try dsimp only at hSw); go_simp; try with_reducible rfl)
      (try simp only [Act.put, List.setIfInBounds_toArray, List.set_cons_zero, List.set_cons_succ])
      refine wpAnyH_done (by kernel_rfl) ?_ _
      have HFZ := Lib.hid (HFI.out.below hHeld)
      clear hHeld HBz HFI HA0 HA1 HA2 HB0 HB1 HB2 HSM
      go_wp2_with fail
      go_loopw [7] (fun q wq => ∃ m : Nat, m ≤ y.d.length ∧ q = .int .i64 m ∧ ∃ ds : List (BitVec 8), ds.length = y.d.length ∧ Own wq w.heap.size y.v ds ∧ Keep (fun g => g = y.g) wz wq) (fun q _ => y.d.length - (intOf q).toNat)
      case atStart => exact ⟨0, by omega, rfl, y.d, rfl, HFZ.out.2.2.2.1 k y (Nat.le_refl _) HY.out, Keep.refl _ _⟩
      case round =>
        obtain ⟨m, hm, rfl, ds, hds, ho, hkp⟩ := hrel
        obtain ⟨gl', kl', el, _, _, a0, a1, a2⟩ := (HFZ.out.1.keep hkp fun g hg e => HST.out.rowl g hg y (List.mem_of_getElem? HY.out) e).at_ HY.out
        simp only [Value.slice.injEq, Option.some.injEq, Addr.mk.injEq] at el
        obtain ⟨⟨rfl, -⟩, -⟩ := el
        have HKP := Lib.hid hkp
        have HO := Lib.hid ho
        have HDS := Lib.hid hds
        unfold NV.v at a1 ho
        by_cases hml : m < y.d.length
        · obtain ⟨x, hx⟩ : ∃ x, ds[m]? = some x := ⟨_, List.getElem?_eq_getElem (by omega)⟩
          have hcell := ho.cell hds.symm m x hx
          have hfrz := ho.frozen hds.symm m
          have hset := ho.set_ hds.symm m 7#8
          rw [show ((7#8 : BitVec 8).toNat : Int) = 7 from rfl] at hset
          have HSET := Lib.hid hset
          have hmi : (m : Int) < (y.d.length : Int) := by omega
          have hm0 : (0 : Int) ≤ (m : Int) := by omega
          clear hkp hds ho hset hx a0 a2
          go_wp2_with fail
          go_roundw
          case rel => exact ⟨m + 1, by omega, by go_num, ds.set m 7#8, by rw [List.length_set]; exact HDS.out, HSET.out, HKP.out.store _ m _ rfl⟩
          case measure => simp [intOf]; omega
        · have HN := Lib.hid (HFZ.out.next HST.out HY.out hkp)
          have hne : decide ((m : Int) < (y.d.length : Int)) = false := by simp; omega
          clear hkp hds ho a0 a2
          go_wp2_with fail
          go_roundw
          case rel => exact ⟨k + 1, by omega, by go_num, HN.out⟩
          case measure => simp [intOf]; omega
    · have HLA := Lib.hid (last_any _ xs wr hfi.2.2.2.2.1 HL.out)
      have HV := Lib.hid hfi.2.2.2.2.1
      have HB := Lib.hid hfi.2.2.2.2.2
      have hnk : decide ((k : Int) < (n : Int)) = false := by simp; omega
      clear hfi
      go_wp2_with fail
      (with_reducible refine HLA.out.mono ?_)
      rintro e w4 ⟨s, a, c, d, p, ok, rfl, ht, hb⟩
      have HLB := Lib.hid (rlast_any _ xs _ ((HV.out.below hb).below (below_alloc (Below.refl _ w4) (.cells #[.int .u32 s, .slice a c d, .int .i64 p] 33))) HL.out)
      have HX := Lib.hid (blk_new w4 #[.int .u32 s, .slice a c d, .int .i64 p] 33)
      have HT := Lib.hid (ht.below (below_alloc (Below.refl _ w4) (.cells #[.int .u32 s, .slice a c d, .int .i64 p] 33)))
      have HB4 := Lib.hid (below_alloc (below_call HB.out hb) (.cells #[.int .u32 s, .slice a c d, .int .i64 p] 33))
      clear ht hb HLA HB HV
      go_wp2_with fail
      (with_reducible refine HLB.out.mono ?_)
      rintro e w5 ⟨s', a', c', d', p', ok', rfl, ht, hb⟩
      have HX5 := Lib.hid ((HX.out.below hb).below (below_alloc (Below.refl _ w5) (.cells #[.int .u32 s', .slice a' c' d', .int .i64 p'] 33)))
      have HY5 := Lib.hid (blk_new w5 #[.int .u32 s', .slice a' c' d', .int .i64 p'] 33)
      have HT5 := Lib.hid ((HT.out.below hb).below (below_alloc (Below.refl _ w5) (.cells #[.int .u32 s', .slice a' c' d', .int .i64 p'] 33)))
      have HU5 := Lib.hid (ht.below (below_alloc (Below.refl _ w5) (.cells #[.int .u32 s', .slice a' c' d', .int .i64 p'] 33)))
      have HB5 := Lib.hid (below_alloc (below_call HB4.out hb) (.cells #[.int .u32 s', .slice a' c' d', .int .i64 p'] 33))
      obtain ⟨hs, hp, hok, xs', hv1, hv2⟩ := last_same HT5.out HU5.out
      subst hs hp hok
      have HS := Lib.hid (same_yes s' p' _ _ xs' _ hv1 hv2)
      have hee : (ok' == ok') = true := by simp
      clear ht hb HLB HX HT HB4 HT5 HU5 hv1 hv2
      obtain ⟨c0, c1, c2⟩ := HX5.out.three
      obtain ⟨d0, d1, d2⟩ := HY5.out.three
      go_wp2_with fail
      (with_reducible refine HS.out.mono ?_)
      rintro e w6 ⟨rfl, hb⟩
      have HB6 := Lib.hid (below_call HB5.out hb)
      clear hb c0 c1 c2 d0 d1 d2
      go_wp2_with fail
      go_ret
      exact ⟨rfl, HB6.out⟩
end Go.Proofs.Ytecfobmmbdmdgaa
