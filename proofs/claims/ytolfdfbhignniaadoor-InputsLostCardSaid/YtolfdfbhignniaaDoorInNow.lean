/-
  inputs.Now, by a contract. (gen_innow.py writes this text.)
-/
import Derived.Deep.RegionHeld3
import Derived.Deep.DeepCutAuto
import Derived.Test.YtolfdfbhignniaaDoorInNowA
import Derived.Test.YtolfdfbhignniaaDoorSnBar

namespace Go.Proofs.YtolfdfbhignniaaDoor
open Go.RowKit

variable {w wr w2 : World} {b x F t : Nat} {I : World → (Nat → Ch) → Prop} {f : Nat → Ch}
theorem Cnts.mono {lo lo' : Nat} {v : Value} {ls : List Ct} (h : Cnts w lo v ls) (hl : lo' ≤ lo) : Cnts w lo' v ls := ⟨h.1, fun a n c e => Nat.le_trans hl (h.2 a n c e)⟩
section
variable {g : Nat} {T : TypeId} {c0 c1 c2 c3 c4 c5 c6 c7 c8 c9 c10 c11 : Value}
theorem cells12 (h : Blk w g #[c0, c1, c2, c3, c4, c5, c6, c7, c8, c9, c10, c11] T) : w.cell? ⟨g, 0, none⟩ = some c0 ∧ w.cell? ⟨g, 1, none⟩ = some c1 ∧ w.cell? ⟨g, 2, none⟩ = some c2 ∧ w.cell? ⟨g, 3, none⟩ = some c3 ∧ w.cell? ⟨g, 4, none⟩ = some c4 ∧ w.cell? ⟨g, 5, none⟩ = some c5 ∧
    w.cell? ⟨g, 6, none⟩ = some c6 ∧ w.cell? ⟨g, 7, none⟩ = some c7 ∧ w.cell? ⟨g, 8, none⟩ = some c8 ∧ w.cell? ⟨g, 9, none⟩ = some c9 ∧ w.cell? ⟨g, 10, none⟩ = some c10 ∧ w.cell? ⟨g, 11, none⟩ = some c11 :=
  ⟨h.cell 0 rfl, h.cell 1 rfl, h.cell 2 rfl, h.cell 3 rfl, h.cell 4 rfl, h.cell 5 rfl, h.cell 6 rfl, h.cell 7 rfl, h.cell 8 rfl, h.cell 9 rfl, h.cell 10 rfl, h.cell 11 rfl⟩
theorem frz12 {C : Array Value} (h : Blk w g C T) : w.frozen? ⟨g, 0, none⟩ = false ∧ w.frozen? ⟨g, 1, none⟩ = false ∧ w.frozen? ⟨g, 2, none⟩ = false ∧ w.frozen? ⟨g, 3, none⟩ = false ∧ w.frozen? ⟨g, 4, none⟩ = false ∧ w.frozen? ⟨g, 5, none⟩ = false ∧
    w.frozen? ⟨g, 6, none⟩ = false ∧ w.frozen? ⟨g, 7, none⟩ = false ∧ w.frozen? ⟨g, 8, none⟩ = false ∧ w.frozen? ⟨g, 9, none⟩ = false ∧ w.frozen? ⟨g, 10, none⟩ = false ∧ w.frozen? ⟨g, 11, none⟩ = false :=
  ⟨h.frz 0, h.frz 1, h.frz 2, h.frz 3, h.frz 4, h.frz 5, h.frz 6, h.frz 7, h.frz 8, h.frz 9, h.frz 10, h.frz 11⟩
/-- Twelve cells stored at once. -/
def put12 (w : World) (g : Nat) (c0 c1 c2 c3 c4 c5 c6 c7 c8 c9 c10 c11 : Value) : World :=
  (((((((((((w.setCell ⟨g, 0, none⟩ c0).setCell ⟨g, 1, none⟩ c1).setCell ⟨g, 2, none⟩ c2).setCell ⟨g, 3, none⟩ c3).setCell ⟨g, 4, none⟩ c4).setCell ⟨g, 5, none⟩ c5).setCell ⟨g, 6, none⟩ c6).setCell ⟨g, 7, none⟩ c7).setCell ⟨g, 8, none⟩ c8).setCell ⟨g, 9, none⟩ c9).setCell ⟨g, 10, none⟩ c10).setCell ⟨g, 11, none⟩ c11
theorem set12 {d0 d1 d2 d3 d4 d5 d6 d7 d8 d9 d10 d11 : Value} (h : Blk w g #[d0, d1, d2, d3, d4, d5, d6, d7, d8, d9, d10, d11] T) (c0 c1 c2 c3 c4 c5 c6 c7 c8 c9 c10 c11 : Value) : Blk (put12 w g c0 c1 c2 c3 c4 c5 c6 c7 c8 c9 c10 c11) g #[c0, c1, c2, c3, c4, c5, c6, c7, c8, c9, c10, c11] T := by
  have h := (((((((((((h.set_ 0 c0).set_ 1 c1).set_ 2 c2).set_ 3 c3).set_ 4 c4).set_ 5 c5).set_ 6 c6).set_ 7 c7).set_ 8 c8).set_ 9 c9).set_ 10 c10).set_ 11 c11
  simp only [List.setIfInBounds_toArray, List.set_cons_zero, List.set_cons_succ] at h
  exact h
theorem keep12 {G : Nat → Prop} (hg : G g) (c0 c1 c2 c3 c4 c5 c6 c7 c8 c9 c10 c11 : Value) : Keep G w (put12 w g c0 c1 c2 c3 c4 c5 c6 c7 c8 c9 c10 c11) :=
  (((((((((((((Keep.refl G w).store g 0 c0 hg).store g 1 c1 hg).store g 2 c2 hg).store g 3 c3 hg).store g 4 c4 hg).store g 5 c5 hg).store g 6 c6 hg).store g 7 c7 hg).store g 8 c8 hg).store g 9 c9 hg).store g 10 c10 hg).store g 11 c11 hg)
theorem bel12 {w0 : World} (h : Below w0.heap.size w0 w) (hg : w0.heap.size ≤ g) (c0 c1 c2 c3 c4 c5 c6 c7 c8 c9 c10 c11 : Value) : Below w0.heap.size w0 (put12 w g c0 c1 c2 c3 c4 c5 c6 c7 c8 c9 c10 c11) :=
  below_keep h (keep12 (G := fun z => z = g) rfl c0 c1 c2 c3 c4 c5 c6 c7 c8 c9 c10 c11) (fun z hz => by rw [hz]; exact hg)
end
theorem Cnts.apart {lo g n c : Nat} {a : Option Addr} {ls : List Ct} (h : Cnts w lo (.slice a n c) ls) (hk : Keep (fun z => z = g) w w2) (hn : ∀ p, a = some p → p.block ≠ g) : Cnts w2 lo (.slice a n c) ls := by
  obtain ⟨⟨a', c', e, h1⟩, h2⟩ := h
  cases e
  refine ⟨⟨a, c, rfl, fun j y hy => ?_⟩, h2⟩
  obtain ⟨g', o, ea, hr⟩ := h1 j y hy
  exact ⟨g', o, ea, hr.keep hk (hn _ ea)⟩
theorem Cnts.blt {lo n c : Nat} {a : Option Addr} {ls : List Ct} (h : Cnts w lo (.slice a n c) ls) (h0 : 0 < ls.length) : ∀ p, a = some p → p.block < w.heap.size := by
  rintro p rfl
  obtain ⟨y, hy⟩ : ∃ y, ls[0]? = some y := ⟨_, List.getElem?_eq_getElem h0⟩
  obtain ⟨g', o, ea, hr⟩ := h.1.at_ hy
  cases ea
  exact lt_of_cell hr.1
theorem Cnts.ne {W : World} {g n c : Nat} {C : Array Value} {T : TypeId} {a : Option Addr} {ls : List Ct} (hg : Blk W g C T) (h : Cnts w W.heap.size (.slice a n c) ls) : ∀ p, a = some p → p.block ≠ g := by
  rintro p rfl he
  have h1 := h.2 p n c rfl
  have h2 := hg.lt
  omega
theorem made_in {w1 W : World} (h : Below w1.heap.size w1 W) : ∃ wn, wn = W.alloc (.cells #[.bool false, .bool false, .bool false, .bool false, .bool false, .bool false, .bool false, .int .i64 0, .bool false, .bool false, .int .i64 0, .slice none 0 0] 36) ∧ w1.heap.size ≤ W.heap.size ∧ Below w1.heap.size w1 wn ∧ Blk wn W.heap.size #[.bool false, .bool false, .bool false, .bool false, .bool false, .bool false, .bool false, .int .i64 0, .bool false, .bool false, .int .i64 0, .slice none 0 0] 36 :=
  ⟨_, rfl, h.size, below_alloc h _, blk_new _ _ _⟩
set_option maxHeartbeats 16000000 in
set_option maxRecDepth 10000 in
theorem in_now (C : Chs true 98 58 w b x F t I) (h : I wr f) (a b' c d s l o : Bool) (m : Int) (mn bt : Bool) (r : Int) (ts : List Ct) (hD : tells F t f = ⟨a, b', c, d, s, l, o, m, mn, bt, r, ts⟩) :
    Calls Tryd.prog 16 #[.pointer (some ⟨x, 0, none⟩)] wr fun e w' => ∃ v, e = .returned (.agg #[.bool a, .bool b', .bool c, .bool d, .bool s, .bool l, .bool o, .int .i64 m, .bool mn, .bool bt, .int .i64 r, v]) ∧ Cnts w' wr.heap.size v ts ∧ Below wr.heap.size wr w' := by
  have hTS : (tells F t f).ts = ts := by rw [hD]
  unfold tells at hD
  simp only [Dat.mk.injEq] at hD
  obtain ⟨hb0, hb1, hb2, hb3, hsu, hla, hob, hmo, hmn, hbt, hro, _⟩ := hD
  obtain ⟨ok0, hok0⟩ : ∃ ok, isF F (f 0) = ok := ⟨_, rfl⟩
  obtain ⟨ok1, hok1⟩ : ∃ ok, isF F (f 1) = ok := ⟨_, rfl⟩
  obtain ⟨ok2, hok2⟩ : ∃ ok, isF F (f 2) = ok := ⟨_, rfl⟩
  obtain ⟨ok3, hok3⟩ : ∃ ok, isF F (f 3) = ok := ⟨_, rfl⟩
  obtain ⟨ok4, hok4⟩ : ∃ ok, isF F (f 4) = ok := ⟨_, rfl⟩
  have hk0 : sone ok0 (f 0).xs = sy F f 0 := by rw [← hok0]; rfl
  have hk1 : sone ok1 (f 1).xs = sy F f 1 := by rw [← hok1]; rfl
  have hk2 : sone ok2 (f 2).xs = sy F f 2 := by rw [← hok2]; rfl
  have hk3 : sone ok3 (f 3).xs = sy F f 3 := by rw [← hok3]; rfl
  have hk4 : sone ok4 (f 4).xs = sy F f 4 := by rw [← hok4]; rfl
  have HC := Lib.hid C
  have HTL := Lib.hid (show 0 < ts.length by rw [← hTS]; have := C.tlim.1; simp [tells]; omega)
  obtain ⟨wz, hwz⟩ : ∃ wz, wz = wr.alloc (.cells #[.bool false, .bool false, .bool false, .bool false, .bool false, .bool false, .bool false, .int .i64 0, .bool false, .bool false, .int .i64 0, .slice none 0 0] 36) := ⟨_, rfl⟩
  have HW := Lib.hid (show Below wr.heap.size wr wz by rw [hwz]; exact below_alloc (Below.refl _ wr) _)
  have HR := Lib.hid (show Blk wz wr.heap.size #[.bool false, .bool false, .bool false, .bool false, .bool false, .bool false, .bool false, .int .i64 0, .bool false, .bool false, .int .i64 0, .slice none 0 0] 36 by rw [hwz]; exact blk_new _ _ _)
  have H1 := Lib.hid (fun W (hW : Below wz.heap.size wz W) => C.still h (below_call HW.out hW))
  have HF0 := Lib.hid (fun W (hW : Below wz.heap.size wz W) => C.fresh (H1.out W hW) 0 (f 0) (peek_in f (k := 0) rfl (by omega)).symm ok0 hok0)
  have HF1 := Lib.hid (fun W (hW : Below wz.heap.size wz W) => C.fresh (H1.out W hW) 1 (f 1) (peek_in f (k := 1) rfl (by omega)).symm ok1 hok1)
  have HF2 := Lib.hid (fun W (hW : Below wz.heap.size wz W) => C.fresh (H1.out W hW) 2 (f 2) (peek_in f (k := 2) rfl (by omega)).symm ok2 hok2)
  have HF3 := Lib.hid (fun W (hW : Below wz.heap.size wz W) => C.fresh (H1.out W hW) 3 (f 3) (peek_in f (k := 3) rfl (by omega)).symm ok3 hok3)
  have HF4 := Lib.hid (fun W (hW : Below wz.heap.size wz W) => C.fresh (H1.out W hW) 4 (f 4) (peek_in f (k := 4) rfl (by omega)).symm ok4 hok4)
  have HSU := Lib.hid (fun W (hW : Below wz.heap.size wz W) => in_sure C (H1.out W hW) s hsu)
  have HRO := Lib.hid (fun W (hW : Below wz.heap.size wz W) => in_routes C (H1.out W hW) r hro)
  have HCO := Lib.hid (fun W (hW : Below wz.heap.size wz W) => in_counts C (H1.out W hW) ts hTS)
  have HS0 := Lib.hid (fun v W (hv : Byts W v (f 0).xs) => barrier_to ok0 (f 0).xs v _ hk0 a b' c d ⟨hb0, hb1, hb2, hb3⟩ W hv)
  have HS1 := Lib.hid (fun v W (hv : Byts W v (f 1).xs) => lamps_to ok1 (f 1).xs v _ hk1 W l hla hv)
  have HS2 := Lib.hid (fun v W (hv : Byts W v (f 2).xs) => obst_to ok2 (f 2).xs v _ hk2 W o hob hv)
  have HS3 := Lib.hid (fun v W (hv : Byts W v (f 3).xs) => mode_to ok3 (f 3).xs v _ hk3 W m hmo hv)
  have HS4 := Lib.hid (fun v W (hv : Byts W v (f 4).xs) => power_to ok4 (f 4).xs v _ hk4 W mn bt hmn hbt hv)
  have HX := Lib.hid (fun W (hW : Below wz.heap.size wz W) => C.two (H1.out W hW))
  have hm : ∀ w : World, (Instr.makeFunc (.func 27) #[.pointer (some ⟨b, 0, none⟩)] #[]).run Tryd.prog w = .ok (.func (.func 27) #[.pointer (some ⟨b, 0, none⟩)] #[]) w := fun _ => rfl
  obtain ⟨x0, x1⟩ := HX.out wz (Below.refl _ _)
  rw [hwz] at x0 x1
  clear C h hTS hb0 hb1 hb2 hb3 hsu hla hob hmo hmn hbt hro hk0 hk1 hk2 hk3 hk4 hok0 hok1 hok2 hok3 hok4
  have HWZ := Lib.hid hwz
  clear hwz
  go_enter Tryd.func16, Tryd.ntmps16
  (try dsimp only [List.append])
  go_upto_region 2 with fail
  rw [← HWZ.out]
  obtain ⟨g2, HG2⟩ : ∃ g2, Hid (g2 = wr.heap.size) := ⟨_, Lib.hid rfl⟩
  rw [← HG2.out] at HR ⊢
  clear HWZ x0 x1
  go_cut [4] (fun s4 wx => ∃ (g : Nat) (av : Option Addr) (n cv : Nat), s4 = .pointer (some ⟨g, 0, none⟩) ∧ Hid (wz.heap.size ≤ g) ∧ Hid (Below wz.heap.size wz wx) ∧ Hid (Blk wx g #[.bool a, .bool b', .bool c, .bool d, .bool s, .bool l, .bool o, .int .i64 m, .bool false, .bool false, .int .i64 r, .slice av n cv] 36) ∧ Hid (Cnts wx wz.heap.size (.slice av n cv) ts) ∧ Hid (∀ p, av = some p → p.block ≠ g))
  case first =>
    refine wp_region_held_drew (S := (fun w' => w'.cell? ⟨x, 1, none⟩ = some (.int .i64 (t : Int)))) (by kernel_rfl) (HX.out _ (bel_drew wz)).2 (fun hHeld => ?_)
    have HB := Lib.hid (bel_drew wz)
    generalize wz.drew = wd at *
    refine wpAnyH_take (i := 0) (oi := ?_) (v := ?_) ?_ (by kernel_rfl) (by kernel_rfl) (by kernel_rfl) ?_ (Or.inl ⟨?_, ?_⟩) hHeld ?_
    rotate_left 2
    · (simp only [List.getElem?_toArray, List.getElem?_cons_zero]; rfl)
    · exact (fun _ _ _ h => h)
    · rfl
    · (intro w hSw; (try dsimp only at hSw); go_simp; try with_reducible rfl)
    (try simp only [Act.put, List.setIfInBounds_toArray, List.set_cons_zero, List.set_cons_succ])
    refine wpAnyH_take (i := 5) (oi := ?_) (v := ?_) ?_ (by kernel_rfl) (by kernel_rfl) (by kernel_rfl) ?_ (Or.inl ⟨?_, ?_⟩) hHeld ?_
    rotate_left 2
    · (simp only [List.getElem?_toArray, List.getElem?_cons_zero, List.getElem?_cons_succ]; rfl)
    · exact (fun _ _ _ h => h)
    · rfl
    · (intro w hSw; (try dsimp only at hSw); go_simp; try with_reducible rfl)
    (try simp only [Act.put, List.setIfInBounds_toArray, List.set_cons_zero, List.set_cons_succ])
    refine wpAnyH_take (i := 7) (oi := ?_) (v := ?_) ?_ (by kernel_rfl) (by kernel_rfl) (by kernel_rfl) ?_ (Or.inl ⟨?_, ?_⟩) hHeld ?_
    rotate_left 2
    · (simp only [List.getElem?_toArray, List.getElem?_cons_zero, List.getElem?_cons_succ]; rfl)
    · exact (fun _ _ _ h => h)
    · rfl
    · (intro w hSw; (try dsimp only at hSw); go_simp; try with_reducible rfl)
    (try simp only [Act.put, List.setIfInBounds_toArray, List.set_cons_zero, List.set_cons_succ])
    refine wpAnyH_take (i := 12) (oi := ?_) (v := ?_) ?_ (by kernel_rfl) (by kernel_rfl) (by kernel_rfl) ?_ (Or.inl ⟨?_, ?_⟩) hHeld ?_
    rotate_left 2
    · (simp only [List.getElem?_toArray, List.getElem?_cons_zero, List.getElem?_cons_succ]; rfl)
    · exact (fun _ _ _ h => h)
    · rfl
    · (intro w hSw; (try dsimp only at hSw); go_simp; try with_reducible rfl)
    (try simp only [Act.put, List.setIfInBounds_toArray, List.set_cons_zero, List.set_cons_succ])
    refine wpAnyH_take (i := 17) (oi := ?_) (v := ?_) ?_ (by kernel_rfl) (by kernel_rfl) (by kernel_rfl) ?_ (Or.inl ⟨?_, ?_⟩) hHeld ?_
    rotate_left 2
    · (simp only [List.getElem?_toArray, List.getElem?_cons_zero, List.getElem?_cons_succ]; rfl)
    · exact (fun _ _ _ h => h)
    · rfl
    · (intro w hSw; (try dsimp only at hSw); go_simp; try with_reducible rfl)
    (try simp only [Act.put, List.setIfInBounds_toArray, List.set_cons_zero, List.set_cons_succ])
    refine wpAnyH_take (i := 22) (oi := ?_) (v := ?_) ?_ (by kernel_rfl) (by kernel_rfl) (by kernel_rfl) ?_ (Or.inl ⟨?_, ?_⟩) hHeld ?_
    rotate_left 2
    · (simp only [List.getElem?_toArray, List.getElem?_cons_zero, List.getElem?_cons_succ]; rfl)
    · exact (fun _ _ _ h => h)
    · rfl
    · (intro w hSw; (try dsimp only at hSw); go_simp; try with_reducible rfl)
    (try simp only [Act.put, List.setIfInBounds_toArray, List.set_cons_zero, List.set_cons_succ])
    refine wpAnyH_take (i := 23) (oi := ?_) (v := ?_) ?_ (by kernel_rfl) (by kernel_rfl) (by kernel_rfl) ?_ (Or.inl ⟨?_, ?_⟩) hHeld ?_
    rotate_left 2
    · (simp only [List.getElem?_toArray, List.getElem?_cons_zero, List.getElem?_cons_succ]; rfl)
    · exact (fun _ _ _ h => h)
    · rfl
    · (intro w hSw; (try dsimp only at hSw); go_simp; try with_reducible rfl)
    (try simp only [Act.put, List.setIfInBounds_toArray, List.set_cons_zero, List.set_cons_succ])
    refine wpAnyH_take (i := 24) (oi := ?_) (v := ?_) ?_ (by kernel_rfl) (by kernel_rfl) (by kernel_rfl) ?_ (Or.inl ⟨?_, ?_⟩) hHeld ?_
    rotate_left 2
    · (simp only [List.getElem?_toArray, List.getElem?_cons_zero, List.getElem?_cons_succ]; rfl)
    · exact (fun _ _ _ h => h)
    · rfl
    · (intro w hSw; (try dsimp only at hSw); go_simp; try with_reducible rfl)
    (try simp only [Act.put, List.setIfInBounds_toArray, List.set_cons_zero, List.set_cons_succ])
    refine wpAnyH_take (i := 25) (oi := ?_) (v := ?_) ?_ (by kernel_rfl) (by kernel_rfl) (by kernel_rfl) ?_ (Or.inl ⟨?_, ?_⟩) hHeld ?_
    rotate_left 2
    · (simp only [List.getElem?_toArray, List.getElem?_cons_zero, List.getElem?_cons_succ]; rfl)
    · exact (fun _ _ _ h => h)
    · rfl
    · (intro w hSw; (try dsimp only at hSw); go_simp; try with_reducible rfl)
    (try simp only [Act.put, List.setIfInBounds_toArray, List.set_cons_zero, List.set_cons_succ])
    refine wpAnyH_take (i := 26) (oi := ?_) (v := ?_) ?_ (by kernel_rfl) (by kernel_rfl) (by kernel_rfl) ?_ (Or.inl ⟨?_, ?_⟩) hHeld ?_
    rotate_left 2
    · (simp only [List.getElem?_toArray, List.getElem?_cons_zero, List.getElem?_cons_succ]; rfl)
    · exact (fun _ _ _ h => h)
    · rfl
    · (intro w hSw; (try dsimp only at hSw); go_simp; try with_reducible rfl)
    (try simp only [Act.put, List.setIfInBounds_toArray, List.set_cons_zero, List.set_cons_succ])
    refine wpAnyH_take (i := 28) (oi := ?_) (v := ?_) ?_ (by kernel_rfl) (by kernel_rfl) (by kernel_rfl) ?_ (Or.inl ⟨?_, ?_⟩) hHeld ?_
    rotate_left 2
    · (simp only [List.getElem?_toArray, List.getElem?_cons_zero, List.getElem?_cons_succ]; rfl)
    · exact (fun _ _ _ h => h)
    · rfl
    · (intro w hSw; (try dsimp only at hSw); go_simp; try with_reducible rfl)
    (try simp only [Act.put, List.setIfInBounds_toArray, List.set_cons_zero, List.set_cons_succ])
    refine wpAnyH_take (i := 29) (oi := ?_) (v := ?_) ?_ (by kernel_rfl) (by kernel_rfl) (by kernel_rfl) ?_ (Or.inl ⟨?_, ?_⟩) hHeld ?_
    rotate_left 2
    · (simp only [List.getElem?_toArray, List.getElem?_cons_zero, List.getElem?_cons_succ]; rfl)
    · exact (fun _ _ _ h => h)
    · rfl
    · (intro w hSw; (try dsimp only at hSw); go_simp; try with_reducible rfl)
    (try simp only [Act.put, List.setIfInBounds_toArray, List.set_cons_zero, List.set_cons_succ])
    refine wpAnyH_take (i := 30) (oi := ?_) (v := ?_) ?_ (by kernel_rfl) (by kernel_rfl) (by kernel_rfl) ?_ (Or.inl ⟨?_, ?_⟩) hHeld ?_
    rotate_left 2
    · (simp only [List.getElem?_toArray, List.getElem?_cons_zero, List.getElem?_cons_succ]; rfl)
    · exact (fun _ _ _ h => h)
    · rfl
    · (intro w hSw; (try dsimp only at hSw); go_simp; try with_reducible rfl)
    (try simp only [Act.put, List.setIfInBounds_toArray, List.set_cons_zero, List.set_cons_succ])
    refine wpAnyH_take (i := 31) (oi := ?_) (v := ?_) ?_ (by kernel_rfl) (by kernel_rfl) (by kernel_rfl) ?_ (Or.inl ⟨?_, ?_⟩) hHeld ?_
    rotate_left 2
    · (simp only [List.getElem?_toArray, List.getElem?_cons_zero, List.getElem?_cons_succ]; rfl)
    · exact (fun _ _ _ h => h)
    · rfl
    · (intro w hSw; (try dsimp only at hSw); go_simp; try with_reducible rfl)
    (try simp only [Act.put, List.setIfInBounds_toArray, List.set_cons_zero, List.set_cons_succ])
    refine wpAnyH_take (i := 32) (oi := ?_) (v := ?_) ?_ (by kernel_rfl) (by kernel_rfl) (by kernel_rfl) ?_ (Or.inl ⟨?_, ?_⟩) hHeld ?_
    rotate_left 2
    · (simp only [List.getElem?_toArray, List.getElem?_cons_zero, List.getElem?_cons_succ]; rfl)
    · exact (fun _ _ _ h => h)
    · rfl
    · (intro w hSw; (try dsimp only at hSw); go_simp; try with_reducible rfl)
    (try simp only [Act.put, List.setIfInBounds_toArray, List.set_cons_zero, List.set_cons_succ])
    refine wpAnyH_ready (rs := [1, 35]) (by kernel_rfl) (by simp) ?_
    refine AllReadyH.cons (o := ?_) ?_ (fun K hK => ?_) ?_
    rotate_left
    · (simp only [List.getElem?_toArray, List.getElem?_cons_zero, List.getElem?_cons_succ]; rfl)
    rotate_left
    · refine AllReadyH.cons (o := ?_) ?_ (fun K hK => ?_) AllReadyH.nil
      rotate_left
      · (simp only [List.getElem?_toArray, List.getElem?_cons_zero, List.getElem?_cons_succ]; rfl)
      go_simp
      obtain ⟨wn, hwn, hsz, hbel, hblk⟩ := made_in HB.out
      rw [← hwn]
      have HGL := Lib.hid hsz
      have HG := Lib.hid hblk
      clear HB
      have HB := Lib.hid hbel
      clear hwn hsz hbel hblk
      refine hK.out _ _ (HX.out _ HB.out).2 (fun hHeld => ?_)
      clear hK K
      (try simp only [Act.put, List.setIfInBounds_toArray, List.set_cons_zero, List.set_cons_succ])
      refine wpAnyH_ready (rs := [1]) (by kernel_rfl) (by simp) ?_
      refine AllReadyH.cons (o := ?_) ?_ (fun K hK => ?_) AllReadyH.nil
      rotate_left
      · (simp only [List.getElem?_toArray, List.getElem?_cons_zero, List.getElem?_cons_succ]; rfl)
      go_simp
      (with_reducible refine (HF0.out _ HB.out).mono ?_)
      rintro e w3 ⟨v0, rfl, hv, hb⟩
      have HV := Lib.hid hv
      have HB2 := Lib.hid (below_call HB.out hb)
      have HG2 := Lib.hid (HG.out.below hb)
      clear hb HB HG hv
      have HB := HB2
      clear HB2
      have HG := HG2
      clear HG2
      go_wp2_with fail
      refine hK.out _ _ (HX.out _ HB.out).2 (fun hHeld => ?_)
      clear hK K
      (try simp only [Act.put, List.setIfInBounds_toArray, List.set_cons_zero, List.set_cons_succ])
      refine wpAnyH_take (i := 2) (oi := ?_) (v := ?_) ?_ (by kernel_rfl) (by kernel_rfl) (by kernel_rfl) ?_ (Or.inl ⟨?_, ?_⟩) hHeld ?_
      rotate_left 2
      · (simp only [List.getElem?_toArray, List.getElem?_cons_zero, List.getElem?_cons_succ]; rfl)
      · exact (fun _ _ _ h => h)
      · rfl
      · (intro w hSw; (try dsimp only at hSw); go_simp; try with_reducible rfl)
      (try simp only [Act.put, List.setIfInBounds_toArray, List.set_cons_zero, List.set_cons_succ])
      refine wpAnyH_take (i := 3) (oi := ?_) (v := ?_) ?_ (by kernel_rfl) (by kernel_rfl) (by kernel_rfl) ?_ (Or.inl ⟨?_, ?_⟩) hHeld ?_
      rotate_left 2
      · (simp only [List.getElem?_toArray, List.getElem?_cons_zero, List.getElem?_cons_succ]; rfl)
      · exact (fun _ _ _ h => h)
      · rfl
      · (intro w hSw; (try dsimp only at hSw); go_simp; try with_reducible rfl)
      (try simp only [Act.put, List.setIfInBounds_toArray, List.set_cons_zero, List.set_cons_succ])
      refine wpAnyH_ready (rs := [4]) (by kernel_rfl) (by simp) ?_
      refine AllReadyH.cons (o := ?_) ?_ (fun K hK => ?_) AllReadyH.nil
      rotate_left
      · (simp only [List.getElem?_toArray, List.getElem?_cons_zero, List.getElem?_cons_succ]; rfl)
      go_simp
      (with_reducible refine (HS0.out _ _ HV.out).mono ?_)
      rintro e w3 ⟨rfl, hb⟩
      have HB2 := Lib.hid (below_call HB.out hb)
      have HG2 := Lib.hid (HG.out.below hb)
      clear hb HB HG HV
      have HB := HB2
      clear HB2
      have HG := HG2
      clear HG2
      go_wp2_with fail
      refine hK.out _ _ (HX.out _ HB.out).2 (fun hHeld => ?_)
      clear hK K
      (try simp only [Act.put, List.setIfInBounds_toArray, List.set_cons_zero, List.set_cons_succ])
      refine wpAnyH_ready (rs := [6]) (by kernel_rfl) (by simp) ?_
      refine AllReadyH.cons (o := ?_) ?_ (fun K hK => ?_) AllReadyH.nil
      rotate_left
      · (simp only [List.getElem?_toArray, List.getElem?_cons_zero, List.getElem?_cons_succ]; rfl)
      go_simp
      (with_reducible refine (HSU.out _ HB.out).mono ?_)
      rintro e w3 ⟨rfl, hb⟩
      have HB2 := Lib.hid (below_call HB.out hb)
      have HG2 := Lib.hid (HG.out.below hb)
      clear hb HB HG
      have HB := HB2
      clear HB2
      have HG := HG2
      clear HG2
      go_wp2_with fail
      refine hK.out _ _ (HX.out _ HB.out).2 (fun hHeld => ?_)
      clear hK K
      (try simp only [Act.put, List.setIfInBounds_toArray, List.set_cons_zero, List.set_cons_succ])
      refine wpAnyH_ready (rs := [8]) (by kernel_rfl) (by simp) ?_
      refine AllReadyH.cons (o := ?_) ?_ (fun K hK => ?_) AllReadyH.nil
      rotate_left
      · (simp only [List.getElem?_toArray, List.getElem?_cons_zero, List.getElem?_cons_succ]; rfl)
      go_simp
      (with_reducible refine (HF1.out _ HB.out).mono ?_)
      rintro e w3 ⟨v1, rfl, hv, hb⟩
      have HV := Lib.hid hv
      have HB2 := Lib.hid (below_call HB.out hb)
      have HG2 := Lib.hid (HG.out.below hb)
      clear hb HB HG hv
      have HB := HB2
      clear HB2
      have HG := HG2
      clear HG2
      go_wp2_with fail
      refine hK.out _ _ (HX.out _ HB.out).2 (fun hHeld => ?_)
      clear hK K
      (try simp only [Act.put, List.setIfInBounds_toArray, List.set_cons_zero, List.set_cons_succ])
      refine wpAnyH_take (i := 9) (oi := ?_) (v := ?_) ?_ (by kernel_rfl) (by kernel_rfl) (by kernel_rfl) ?_ (Or.inl ⟨?_, ?_⟩) hHeld ?_
      rotate_left 2
      · (simp only [List.getElem?_toArray, List.getElem?_cons_zero, List.getElem?_cons_succ]; rfl)
      · exact (fun _ _ _ h => h)
      · rfl
      · (intro w hSw; (try dsimp only at hSw); go_simp; try with_reducible rfl)
      (try simp only [Act.put, List.setIfInBounds_toArray, List.set_cons_zero, List.set_cons_succ])
      refine wpAnyH_take (i := 10) (oi := ?_) (v := ?_) ?_ (by kernel_rfl) (by kernel_rfl) (by kernel_rfl) ?_ (Or.inl ⟨?_, ?_⟩) hHeld ?_
      rotate_left 2
      · (simp only [List.getElem?_toArray, List.getElem?_cons_zero, List.getElem?_cons_succ]; rfl)
      · exact (fun _ _ _ h => h)
      · rfl
      · (intro w hSw; (try dsimp only at hSw); go_simp; try with_reducible rfl)
      (try simp only [Act.put, List.setIfInBounds_toArray, List.set_cons_zero, List.set_cons_succ])
      refine wpAnyH_ready (rs := [11]) (by kernel_rfl) (by simp) ?_
      refine AllReadyH.cons (o := ?_) ?_ (fun K hK => ?_) AllReadyH.nil
      rotate_left
      · (simp only [List.getElem?_toArray, List.getElem?_cons_zero, List.getElem?_cons_succ]; rfl)
      go_simp
      (with_reducible refine (HS1.out _ _ HV.out).mono ?_)
      rintro e w3 ⟨rfl, hw3⟩
      cases hw3
      clear HV
      go_wp2_with fail
      refine hK.out _ _ (HX.out _ HB.out).2 (fun hHeld => ?_)
      clear hK K
      (try simp only [Act.put, List.setIfInBounds_toArray, List.set_cons_zero, List.set_cons_succ])
      refine wpAnyH_ready (rs := [13]) (by kernel_rfl) (by simp) ?_
      refine AllReadyH.cons (o := ?_) ?_ (fun K hK => ?_) AllReadyH.nil
      rotate_left
      · (simp only [List.getElem?_toArray, List.getElem?_cons_zero, List.getElem?_cons_succ]; rfl)
      go_simp
      (with_reducible refine (HF2.out _ HB.out).mono ?_)
      rintro e w3 ⟨v2, rfl, hv, hb⟩
      have HV := Lib.hid hv
      have HB2 := Lib.hid (below_call HB.out hb)
      have HG2 := Lib.hid (HG.out.below hb)
      clear hb HB HG hv
      have HB := HB2
      clear HB2
      have HG := HG2
      clear HG2
      go_wp2_with fail
      refine hK.out _ _ (HX.out _ HB.out).2 (fun hHeld => ?_)
      clear hK K
      (try simp only [Act.put, List.setIfInBounds_toArray, List.set_cons_zero, List.set_cons_succ])
      refine wpAnyH_take (i := 14) (oi := ?_) (v := ?_) ?_ (by kernel_rfl) (by kernel_rfl) (by kernel_rfl) ?_ (Or.inl ⟨?_, ?_⟩) hHeld ?_
      rotate_left 2
      · (simp only [List.getElem?_toArray, List.getElem?_cons_zero, List.getElem?_cons_succ]; rfl)
      · exact (fun _ _ _ h => h)
      · rfl
      · (intro w hSw; (try dsimp only at hSw); go_simp; try with_reducible rfl)
      (try simp only [Act.put, List.setIfInBounds_toArray, List.set_cons_zero, List.set_cons_succ])
      refine wpAnyH_take (i := 15) (oi := ?_) (v := ?_) ?_ (by kernel_rfl) (by kernel_rfl) (by kernel_rfl) ?_ (Or.inl ⟨?_, ?_⟩) hHeld ?_
      rotate_left 2
      · (simp only [List.getElem?_toArray, List.getElem?_cons_zero, List.getElem?_cons_succ]; rfl)
      · exact (fun _ _ _ h => h)
      · rfl
      · (intro w hSw; (try dsimp only at hSw); go_simp; try with_reducible rfl)
      (try simp only [Act.put, List.setIfInBounds_toArray, List.set_cons_zero, List.set_cons_succ])
      refine wpAnyH_ready (rs := [16]) (by kernel_rfl) (by simp) ?_
      refine AllReadyH.cons (o := ?_) ?_ (fun K hK => ?_) AllReadyH.nil
      rotate_left
      · (simp only [List.getElem?_toArray, List.getElem?_cons_zero, List.getElem?_cons_succ]; rfl)
      go_simp
      (with_reducible refine (HS2.out _ _ HV.out).mono ?_)
      rintro e w3 ⟨rfl, hw3⟩
      cases hw3
      clear HV
      go_wp2_with fail
      refine hK.out _ _ (HX.out _ HB.out).2 (fun hHeld => ?_)
      clear hK K
      (try simp only [Act.put, List.setIfInBounds_toArray, List.set_cons_zero, List.set_cons_succ])
      refine wpAnyH_ready (rs := [18]) (by kernel_rfl) (by simp) ?_
      refine AllReadyH.cons (o := ?_) ?_ (fun K hK => ?_) AllReadyH.nil
      rotate_left
      · (simp only [List.getElem?_toArray, List.getElem?_cons_zero, List.getElem?_cons_succ]; rfl)
      go_simp
      (with_reducible refine (HF3.out _ HB.out).mono ?_)
      rintro e w3 ⟨v3, rfl, hv, hb⟩
      have HV := Lib.hid hv
      have HB2 := Lib.hid (below_call HB.out hb)
      have HG2 := Lib.hid (HG.out.below hb)
      clear hb HB HG hv
      have HB := HB2
      clear HB2
      have HG := HG2
      clear HG2
      go_wp2_with fail
      refine hK.out _ _ (HX.out _ HB.out).2 (fun hHeld => ?_)
      clear hK K
      (try simp only [Act.put, List.setIfInBounds_toArray, List.set_cons_zero, List.set_cons_succ])
      refine wpAnyH_take (i := 19) (oi := ?_) (v := ?_) ?_ (by kernel_rfl) (by kernel_rfl) (by kernel_rfl) ?_ (Or.inl ⟨?_, ?_⟩) hHeld ?_
      rotate_left 2
      · (simp only [List.getElem?_toArray, List.getElem?_cons_zero, List.getElem?_cons_succ]; rfl)
      · exact (fun _ _ _ h => h)
      · rfl
      · (intro w hSw; (try dsimp only at hSw); go_simp; try with_reducible rfl)
      (try simp only [Act.put, List.setIfInBounds_toArray, List.set_cons_zero, List.set_cons_succ])
      refine wpAnyH_take (i := 20) (oi := ?_) (v := ?_) ?_ (by kernel_rfl) (by kernel_rfl) (by kernel_rfl) ?_ (Or.inl ⟨?_, ?_⟩) hHeld ?_
      rotate_left 2
      · (simp only [List.getElem?_toArray, List.getElem?_cons_zero, List.getElem?_cons_succ]; rfl)
      · exact (fun _ _ _ h => h)
      · rfl
      · (intro w hSw; (try dsimp only at hSw); go_simp; try with_reducible rfl)
      (try simp only [Act.put, List.setIfInBounds_toArray, List.set_cons_zero, List.set_cons_succ])
      refine wpAnyH_ready (rs := [21]) (by kernel_rfl) (by simp) ?_
      refine AllReadyH.cons (o := ?_) ?_ (fun K hK => ?_) AllReadyH.nil
      rotate_left
      · (simp only [List.getElem?_toArray, List.getElem?_cons_zero, List.getElem?_cons_succ]; rfl)
      go_simp
      (with_reducible refine (HS3.out _ _ HV.out).mono ?_)
      rintro e w3 ⟨rfl, hw3⟩
      cases hw3
      clear HV
      go_wp2_with fail
      refine hK.out _ _ (HX.out _ HB.out).2 (fun hHeld => ?_)
      clear hK K
      (try simp only [Act.put, List.setIfInBounds_toArray, List.set_cons_zero, List.set_cons_succ])
      refine wpAnyH_ready (rs := [27]) (by kernel_rfl) (by simp) ?_
      refine AllReadyH.cons (o := ?_) ?_ (fun K hK => ?_) AllReadyH.nil
      rotate_left
      · (simp only [List.getElem?_toArray, List.getElem?_cons_zero, List.getElem?_cons_succ]; rfl)
      go_simp
      (with_reducible refine (HRO.out _ HB.out).mono ?_)
      rintro e w3 ⟨rfl, hb⟩
      have HB2 := Lib.hid (below_call HB.out hb)
      have HG2 := Lib.hid (HG.out.below hb)
      clear hb HB HG
      have HB := HB2
      clear HB2
      have HG := HG2
      clear HG2
      go_wp2_with fail
      refine hK.out _ _ (HX.out _ HB.out).2 (fun hHeld => ?_)
      clear hK K
      (try simp only [Act.put, List.setIfInBounds_toArray, List.set_cons_zero, List.set_cons_succ])
      refine wpAnyH_ready (rs := [33]) (by kernel_rfl) (by simp) ?_
      refine AllReadyH.cons (o := ?_) ?_ (fun K hK => ?_) AllReadyH.nil
      rotate_left
      · (simp only [List.getElem?_toArray, List.getElem?_cons_zero, List.getElem?_cons_succ]; rfl)
      go_simp
      (with_reducible refine (HCO.out _ HB.out).mono ?_)
      rintro e w3 ⟨vv, rfl, hc, hb⟩
      obtain ⟨av, cv, ev⟩ := hc.1.len
      have HT := Lib.hid (hc.mono HB.out.size)
      obtain ⟨n, HN⟩ : ∃ n, Hid (n = ts.length) := ⟨_, Lib.hid rfl⟩
      rw [← HN.out] at ev
      subst ev
      have HNE := Lib.hid (Cnts.ne HG.out hc)
      have HB2 := Lib.hid (below_call HB.out hb)
      have HG2 := Lib.hid (HG.out.below hb)
      clear hb HB HG hc HN
      have HB := HB2
      clear HB2
      have HG := HG2
      clear HG2
      go_wp2_with fail
      refine hK.out _ _ (HX.out _ HB.out).2 (fun hHeld => ?_)
      clear hK K
      (try simp only [Act.put, List.setIfInBounds_toArray, List.set_cons_zero, List.set_cons_succ])
      refine wpAnyH_take (i := 34) (oi := ?_) (v := ?_) ?_ (by kernel_rfl) (by kernel_rfl) (by kernel_rfl) ?_ (Or.inl ⟨?_, ?_⟩) hHeld ?_
      rotate_left 2
      · (simp only [List.getElem?_toArray, List.getElem?_cons_zero, List.getElem?_cons_succ]; rfl)
      · exact (fun _ _ _ h => h)
      · rfl
      · (intro w hSw; (try dsimp only at hSw); go_simp; try with_reducible rfl)
      (try simp only [Act.put, List.setIfInBounds_toArray, List.set_cons_zero, List.set_cons_succ])
      refine wpAnyH_ready (rs := [36]) (by kernel_rfl) (by simp) ?_
      refine AllReadyH.cons (o := ?_) ?_ (fun K hK => ?_) AllReadyH.nil
      rotate_left
      · (simp only [List.getElem?_toArray, List.getElem?_cons_zero, List.getElem?_cons_succ]; rfl)
      obtain ⟨d0, d1, d2, d3, d4, d5, d6, d7, d8, d9, d10, d11⟩ := cells12 HG.out
      obtain ⟨f0, f1, f2, f3, f4, f5, f6, f7, f8, f9, f10, f11⟩ := frz12 HG.out
      go_simp
      have HB2 := Lib.hid (bel12 HB.out HGL.out (.bool a) (.bool b') (.bool c) (.bool d) (.bool s) (.bool l) (.bool o) (.int .i64 m) (.bool false) (.bool false) (.int .i64 r) (.slice av n cv))
      have HG2 := Lib.hid (set12 HG.out (.bool a) (.bool b') (.bool c) (.bool d) (.bool s) (.bool l) (.bool o) (.int .i64 m) (.bool false) (.bool false) (.int .i64 r) (.slice av n cv))
      have HT2 := Lib.hid (HT.out.apart (keep12 (G := fun z => z = _) rfl (.bool a) (.bool b') (.bool c) (.bool d) (.bool s) (.bool l) (.bool o) (.int .i64 m) (.bool false) (.bool false) (.int .i64 r) (.slice av n cv)) HNE.out)
      refine hK.out _ _ (HX.out _ HB2.out).2 (fun hHeld => ?_)
      clear hK K
      (try simp only [Act.put, List.setIfInBounds_toArray, List.set_cons_zero, List.set_cons_succ])
      refine wpAnyH_done (by kernel_rfl) ?_ _
      clear d0 d1 d2 d3 d4 d5 d6 d7 d8 d9 d10 d11 f0 f1 f2 f3 f4 f5 f6 f7 f8 f9 f10 f11
      go_wp2_with fail
      go_meet
      exact ⟨_, av, n, cv, rfl, HGL, HB2, HG2, HT2, HNE⟩
    go_simp
    (with_reducible refine (HF0.out _ HB.out).mono ?_)
    rintro e w3 ⟨v0, rfl, hv, hb⟩
    have HV := Lib.hid hv
    have HB2 := Lib.hid (below_call HB.out hb)
    clear hb HB hv
    have HB := HB2
    clear HB2
    go_wp2_with fail
    refine hK.out _ _ (HX.out _ HB.out).2 (fun hHeld => ?_)
    clear hK K
    (try simp only [Act.put, List.setIfInBounds_toArray, List.set_cons_zero, List.set_cons_succ])
    refine wpAnyH_take (i := 2) (oi := ?_) (v := ?_) ?_ (by kernel_rfl) (by kernel_rfl) (by kernel_rfl) ?_ (Or.inl ⟨?_, ?_⟩) hHeld ?_
    rotate_left 2
    · (simp only [List.getElem?_toArray, List.getElem?_cons_zero, List.getElem?_cons_succ]; rfl)
    · exact (fun _ _ _ h => h)
    · rfl
    · (intro w hSw; (try dsimp only at hSw); go_simp; try with_reducible rfl)
    (try simp only [Act.put, List.setIfInBounds_toArray, List.set_cons_zero, List.set_cons_succ])
    refine wpAnyH_take (i := 3) (oi := ?_) (v := ?_) ?_ (by kernel_rfl) (by kernel_rfl) (by kernel_rfl) ?_ (Or.inl ⟨?_, ?_⟩) hHeld ?_
    rotate_left 2
    · (simp only [List.getElem?_toArray, List.getElem?_cons_zero, List.getElem?_cons_succ]; rfl)
    · exact (fun _ _ _ h => h)
    · rfl
    · (intro w hSw; (try dsimp only at hSw); go_simp; try with_reducible rfl)
    (try simp only [Act.put, List.setIfInBounds_toArray, List.set_cons_zero, List.set_cons_succ])
    refine wpAnyH_ready (rs := [4, 35]) (by kernel_rfl) (by simp) ?_
    refine AllReadyH.cons (o := ?_) ?_ (fun K hK => ?_) ?_
    rotate_left
    · (simp only [List.getElem?_toArray, List.getElem?_cons_zero, List.getElem?_cons_succ]; rfl)
    rotate_left
    · refine AllReadyH.cons (o := ?_) ?_ (fun K hK => ?_) AllReadyH.nil
      rotate_left
      · (simp only [List.getElem?_toArray, List.getElem?_cons_zero, List.getElem?_cons_succ]; rfl)
      go_simp
      obtain ⟨wn, hwn, hsz, hbel, hblk⟩ := made_in HB.out
      rw [← hwn]
      have HGL := Lib.hid hsz
      have HG := Lib.hid hblk
      have HV2 := Lib.hid (HV.out.below (w' := wn) (by rw [hwn]; exact below_alloc (Below.refl _ _) _))
      clear HV
      have HV := HV2
      clear HV2
      clear HB
      have HB := Lib.hid hbel
      clear hwn hsz hbel hblk
      refine hK.out _ _ (HX.out _ HB.out).2 (fun hHeld => ?_)
      clear hK K
      (try simp only [Act.put, List.setIfInBounds_toArray, List.set_cons_zero, List.set_cons_succ])
      refine wpAnyH_ready (rs := [4]) (by kernel_rfl) (by simp) ?_
      refine AllReadyH.cons (o := ?_) ?_ (fun K hK => ?_) AllReadyH.nil
      rotate_left
      · (simp only [List.getElem?_toArray, List.getElem?_cons_zero, List.getElem?_cons_succ]; rfl)
      go_simp
      (with_reducible refine (HS0.out _ _ HV.out).mono ?_)
      rintro e w3 ⟨rfl, hb⟩
      have HB2 := Lib.hid (below_call HB.out hb)
      have HG2 := Lib.hid (HG.out.below hb)
      clear hb HB HG HV
      have HB := HB2
      clear HB2
      have HG := HG2
      clear HG2
      go_wp2_with fail
      refine hK.out _ _ (HX.out _ HB.out).2 (fun hHeld => ?_)
      clear hK K
      (try simp only [Act.put, List.setIfInBounds_toArray, List.set_cons_zero, List.set_cons_succ])
      refine wpAnyH_ready (rs := [6]) (by kernel_rfl) (by simp) ?_
      refine AllReadyH.cons (o := ?_) ?_ (fun K hK => ?_) AllReadyH.nil
      rotate_left
      · (simp only [List.getElem?_toArray, List.getElem?_cons_zero, List.getElem?_cons_succ]; rfl)
      go_simp
      (with_reducible refine (HSU.out _ HB.out).mono ?_)
      rintro e w3 ⟨rfl, hb⟩
      have HB2 := Lib.hid (below_call HB.out hb)
      have HG2 := Lib.hid (HG.out.below hb)
      clear hb HB HG
      have HB := HB2
      clear HB2
      have HG := HG2
      clear HG2
      go_wp2_with fail
      refine hK.out _ _ (HX.out _ HB.out).2 (fun hHeld => ?_)
      clear hK K
      (try simp only [Act.put, List.setIfInBounds_toArray, List.set_cons_zero, List.set_cons_succ])
      refine wpAnyH_ready (rs := [8]) (by kernel_rfl) (by simp) ?_
      refine AllReadyH.cons (o := ?_) ?_ (fun K hK => ?_) AllReadyH.nil
      rotate_left
      · (simp only [List.getElem?_toArray, List.getElem?_cons_zero, List.getElem?_cons_succ]; rfl)
      go_simp
      (with_reducible refine (HF1.out _ HB.out).mono ?_)
      rintro e w3 ⟨v1, rfl, hv, hb⟩
      have HV := Lib.hid hv
      have HB2 := Lib.hid (below_call HB.out hb)
      have HG2 := Lib.hid (HG.out.below hb)
      clear hb HB HG hv
      have HB := HB2
      clear HB2
      have HG := HG2
      clear HG2
      go_wp2_with fail
      refine hK.out _ _ (HX.out _ HB.out).2 (fun hHeld => ?_)
      clear hK K
      (try simp only [Act.put, List.setIfInBounds_toArray, List.set_cons_zero, List.set_cons_succ])
      refine wpAnyH_take (i := 9) (oi := ?_) (v := ?_) ?_ (by kernel_rfl) (by kernel_rfl) (by kernel_rfl) ?_ (Or.inl ⟨?_, ?_⟩) hHeld ?_
      rotate_left 2
      · (simp only [List.getElem?_toArray, List.getElem?_cons_zero, List.getElem?_cons_succ]; rfl)
      · exact (fun _ _ _ h => h)
      · rfl
      · (intro w hSw; (try dsimp only at hSw); go_simp; try with_reducible rfl)
      (try simp only [Act.put, List.setIfInBounds_toArray, List.set_cons_zero, List.set_cons_succ])
      refine wpAnyH_take (i := 10) (oi := ?_) (v := ?_) ?_ (by kernel_rfl) (by kernel_rfl) (by kernel_rfl) ?_ (Or.inl ⟨?_, ?_⟩) hHeld ?_
      rotate_left 2
      · (simp only [List.getElem?_toArray, List.getElem?_cons_zero, List.getElem?_cons_succ]; rfl)
      · exact (fun _ _ _ h => h)
      · rfl
      · (intro w hSw; (try dsimp only at hSw); go_simp; try with_reducible rfl)
      (try simp only [Act.put, List.setIfInBounds_toArray, List.set_cons_zero, List.set_cons_succ])
      refine wpAnyH_ready (rs := [11]) (by kernel_rfl) (by simp) ?_
      refine AllReadyH.cons (o := ?_) ?_ (fun K hK => ?_) AllReadyH.nil
      rotate_left
      · (simp only [List.getElem?_toArray, List.getElem?_cons_zero, List.getElem?_cons_succ]; rfl)
      go_simp
      (with_reducible refine (HS1.out _ _ HV.out).mono ?_)
      rintro e w3 ⟨rfl, hw3⟩
      cases hw3
      clear HV
      go_wp2_with fail
      refine hK.out _ _ (HX.out _ HB.out).2 (fun hHeld => ?_)
      clear hK K
      (try simp only [Act.put, List.setIfInBounds_toArray, List.set_cons_zero, List.set_cons_succ])
      refine wpAnyH_ready (rs := [13]) (by kernel_rfl) (by simp) ?_
      refine AllReadyH.cons (o := ?_) ?_ (fun K hK => ?_) AllReadyH.nil
      rotate_left
      · (simp only [List.getElem?_toArray, List.getElem?_cons_zero, List.getElem?_cons_succ]; rfl)
      go_simp
      (with_reducible refine (HF2.out _ HB.out).mono ?_)
      rintro e w3 ⟨v2, rfl, hv, hb⟩
      have HV := Lib.hid hv
      have HB2 := Lib.hid (below_call HB.out hb)
      have HG2 := Lib.hid (HG.out.below hb)
      clear hb HB HG hv
      have HB := HB2
      clear HB2
      have HG := HG2
      clear HG2
      go_wp2_with fail
      refine hK.out _ _ (HX.out _ HB.out).2 (fun hHeld => ?_)
      clear hK K
      (try simp only [Act.put, List.setIfInBounds_toArray, List.set_cons_zero, List.set_cons_succ])
      refine wpAnyH_take (i := 14) (oi := ?_) (v := ?_) ?_ (by kernel_rfl) (by kernel_rfl) (by kernel_rfl) ?_ (Or.inl ⟨?_, ?_⟩) hHeld ?_
      rotate_left 2
      · (simp only [List.getElem?_toArray, List.getElem?_cons_zero, List.getElem?_cons_succ]; rfl)
      · exact (fun _ _ _ h => h)
      · rfl
      · (intro w hSw; (try dsimp only at hSw); go_simp; try with_reducible rfl)
      (try simp only [Act.put, List.setIfInBounds_toArray, List.set_cons_zero, List.set_cons_succ])
      refine wpAnyH_take (i := 15) (oi := ?_) (v := ?_) ?_ (by kernel_rfl) (by kernel_rfl) (by kernel_rfl) ?_ (Or.inl ⟨?_, ?_⟩) hHeld ?_
      rotate_left 2
      · (simp only [List.getElem?_toArray, List.getElem?_cons_zero, List.getElem?_cons_succ]; rfl)
      · exact (fun _ _ _ h => h)
      · rfl
      · (intro w hSw; (try dsimp only at hSw); go_simp; try with_reducible rfl)
      (try simp only [Act.put, List.setIfInBounds_toArray, List.set_cons_zero, List.set_cons_succ])
      refine wpAnyH_ready (rs := [16]) (by kernel_rfl) (by simp) ?_
      refine AllReadyH.cons (o := ?_) ?_ (fun K hK => ?_) AllReadyH.nil
      rotate_left
      · (simp only [List.getElem?_toArray, List.getElem?_cons_zero, List.getElem?_cons_succ]; rfl)
      go_simp
      (with_reducible refine (HS2.out _ _ HV.out).mono ?_)
      rintro e w3 ⟨rfl, hw3⟩
      cases hw3
      clear HV
      go_wp2_with fail
      refine hK.out _ _ (HX.out _ HB.out).2 (fun hHeld => ?_)
      clear hK K
      (try simp only [Act.put, List.setIfInBounds_toArray, List.set_cons_zero, List.set_cons_succ])
      refine wpAnyH_ready (rs := [18]) (by kernel_rfl) (by simp) ?_
      refine AllReadyH.cons (o := ?_) ?_ (fun K hK => ?_) AllReadyH.nil
      rotate_left
      · (simp only [List.getElem?_toArray, List.getElem?_cons_zero, List.getElem?_cons_succ]; rfl)
      go_simp
      (with_reducible refine (HF3.out _ HB.out).mono ?_)
      rintro e w3 ⟨v3, rfl, hv, hb⟩
      have HV := Lib.hid hv
      have HB2 := Lib.hid (below_call HB.out hb)
      have HG2 := Lib.hid (HG.out.below hb)
      clear hb HB HG hv
      have HB := HB2
      clear HB2
      have HG := HG2
      clear HG2
      go_wp2_with fail
      refine hK.out _ _ (HX.out _ HB.out).2 (fun hHeld => ?_)
      clear hK K
      (try simp only [Act.put, List.setIfInBounds_toArray, List.set_cons_zero, List.set_cons_succ])
      refine wpAnyH_take (i := 19) (oi := ?_) (v := ?_) ?_ (by kernel_rfl) (by kernel_rfl) (by kernel_rfl) ?_ (Or.inl ⟨?_, ?_⟩) hHeld ?_
      rotate_left 2
      · (simp only [List.getElem?_toArray, List.getElem?_cons_zero, List.getElem?_cons_succ]; rfl)
      · exact (fun _ _ _ h => h)
      · rfl
      · (intro w hSw; (try dsimp only at hSw); go_simp; try with_reducible rfl)
      (try simp only [Act.put, List.setIfInBounds_toArray, List.set_cons_zero, List.set_cons_succ])
      refine wpAnyH_take (i := 20) (oi := ?_) (v := ?_) ?_ (by kernel_rfl) (by kernel_rfl) (by kernel_rfl) ?_ (Or.inl ⟨?_, ?_⟩) hHeld ?_
      rotate_left 2
      · (simp only [List.getElem?_toArray, List.getElem?_cons_zero, List.getElem?_cons_succ]; rfl)
      · exact (fun _ _ _ h => h)
      · rfl
      · (intro w hSw; (try dsimp only at hSw); go_simp; try with_reducible rfl)
      (try simp only [Act.put, List.setIfInBounds_toArray, List.set_cons_zero, List.set_cons_succ])
      refine wpAnyH_ready (rs := [21]) (by kernel_rfl) (by simp) ?_
      refine AllReadyH.cons (o := ?_) ?_ (fun K hK => ?_) AllReadyH.nil
      rotate_left
      · (simp only [List.getElem?_toArray, List.getElem?_cons_zero, List.getElem?_cons_succ]; rfl)
      go_simp
      (with_reducible refine (HS3.out _ _ HV.out).mono ?_)
      rintro e w3 ⟨rfl, hw3⟩
      cases hw3
      clear HV
      go_wp2_with fail
      refine hK.out _ _ (HX.out _ HB.out).2 (fun hHeld => ?_)
      clear hK K
      (try simp only [Act.put, List.setIfInBounds_toArray, List.set_cons_zero, List.set_cons_succ])
      refine wpAnyH_ready (rs := [27]) (by kernel_rfl) (by simp) ?_
      refine AllReadyH.cons (o := ?_) ?_ (fun K hK => ?_) AllReadyH.nil
      rotate_left
      · (simp only [List.getElem?_toArray, List.getElem?_cons_zero, List.getElem?_cons_succ]; rfl)
      go_simp
      (with_reducible refine (HRO.out _ HB.out).mono ?_)
      rintro e w3 ⟨rfl, hb⟩
      have HB2 := Lib.hid (below_call HB.out hb)
      have HG2 := Lib.hid (HG.out.below hb)
      clear hb HB HG
      have HB := HB2
      clear HB2
      have HG := HG2
      clear HG2
      go_wp2_with fail
      refine hK.out _ _ (HX.out _ HB.out).2 (fun hHeld => ?_)
      clear hK K
      (try simp only [Act.put, List.setIfInBounds_toArray, List.set_cons_zero, List.set_cons_succ])
      refine wpAnyH_ready (rs := [33]) (by kernel_rfl) (by simp) ?_
      refine AllReadyH.cons (o := ?_) ?_ (fun K hK => ?_) AllReadyH.nil
      rotate_left
      · (simp only [List.getElem?_toArray, List.getElem?_cons_zero, List.getElem?_cons_succ]; rfl)
      go_simp
      (with_reducible refine (HCO.out _ HB.out).mono ?_)
      rintro e w3 ⟨vv, rfl, hc, hb⟩
      obtain ⟨av, cv, ev⟩ := hc.1.len
      have HT := Lib.hid (hc.mono HB.out.size)
      obtain ⟨n, HN⟩ : ∃ n, Hid (n = ts.length) := ⟨_, Lib.hid rfl⟩
      rw [← HN.out] at ev
      subst ev
      have HNE := Lib.hid (Cnts.ne HG.out hc)
      have HB2 := Lib.hid (below_call HB.out hb)
      have HG2 := Lib.hid (HG.out.below hb)
      clear hb HB HG hc HN
      have HB := HB2
      clear HB2
      have HG := HG2
      clear HG2
      go_wp2_with fail
      refine hK.out _ _ (HX.out _ HB.out).2 (fun hHeld => ?_)
      clear hK K
      (try simp only [Act.put, List.setIfInBounds_toArray, List.set_cons_zero, List.set_cons_succ])
      refine wpAnyH_take (i := 34) (oi := ?_) (v := ?_) ?_ (by kernel_rfl) (by kernel_rfl) (by kernel_rfl) ?_ (Or.inl ⟨?_, ?_⟩) hHeld ?_
      rotate_left 2
      · (simp only [List.getElem?_toArray, List.getElem?_cons_zero, List.getElem?_cons_succ]; rfl)
      · exact (fun _ _ _ h => h)
      · rfl
      · (intro w hSw; (try dsimp only at hSw); go_simp; try with_reducible rfl)
      (try simp only [Act.put, List.setIfInBounds_toArray, List.set_cons_zero, List.set_cons_succ])
      refine wpAnyH_ready (rs := [36]) (by kernel_rfl) (by simp) ?_
      refine AllReadyH.cons (o := ?_) ?_ (fun K hK => ?_) AllReadyH.nil
      rotate_left
      · (simp only [List.getElem?_toArray, List.getElem?_cons_zero, List.getElem?_cons_succ]; rfl)
      obtain ⟨d0, d1, d2, d3, d4, d5, d6, d7, d8, d9, d10, d11⟩ := cells12 HG.out
      obtain ⟨f0, f1, f2, f3, f4, f5, f6, f7, f8, f9, f10, f11⟩ := frz12 HG.out
      go_simp
      have HB2 := Lib.hid (bel12 HB.out HGL.out (.bool a) (.bool b') (.bool c) (.bool d) (.bool s) (.bool l) (.bool o) (.int .i64 m) (.bool false) (.bool false) (.int .i64 r) (.slice av n cv))
      have HG2 := Lib.hid (set12 HG.out (.bool a) (.bool b') (.bool c) (.bool d) (.bool s) (.bool l) (.bool o) (.int .i64 m) (.bool false) (.bool false) (.int .i64 r) (.slice av n cv))
      have HT2 := Lib.hid (HT.out.apart (keep12 (G := fun z => z = _) rfl (.bool a) (.bool b') (.bool c) (.bool d) (.bool s) (.bool l) (.bool o) (.int .i64 m) (.bool false) (.bool false) (.int .i64 r) (.slice av n cv)) HNE.out)
      refine hK.out _ _ (HX.out _ HB2.out).2 (fun hHeld => ?_)
      clear hK K
      (try simp only [Act.put, List.setIfInBounds_toArray, List.set_cons_zero, List.set_cons_succ])
      refine wpAnyH_done (by kernel_rfl) ?_ _
      clear d0 d1 d2 d3 d4 d5 d6 d7 d8 d9 d10 d11 f0 f1 f2 f3 f4 f5 f6 f7 f8 f9 f10 f11
      go_wp2_with fail
      go_meet
      exact ⟨_, av, n, cv, rfl, HGL, HB2, HG2, HT2, HNE⟩
    go_simp
    (with_reducible refine (HS0.out _ _ HV.out).mono ?_)
    rintro e w3 ⟨rfl, hb⟩
    have HB2 := Lib.hid (below_call HB.out hb)
    clear hb HB HV
    have HB := HB2
    clear HB2
    go_wp2_with fail
    refine hK.out _ _ (HX.out _ HB.out).2 (fun hHeld => ?_)
    clear hK K
    (try simp only [Act.put, List.setIfInBounds_toArray, List.set_cons_zero, List.set_cons_succ])
    refine wpAnyH_ready (rs := [6, 35]) (by kernel_rfl) (by simp) ?_
    refine AllReadyH.cons (o := ?_) ?_ (fun K hK => ?_) ?_
    rotate_left
    · (simp only [List.getElem?_toArray, List.getElem?_cons_zero, List.getElem?_cons_succ]; rfl)
    rotate_left
    · refine AllReadyH.cons (o := ?_) ?_ (fun K hK => ?_) AllReadyH.nil
      rotate_left
      · (simp only [List.getElem?_toArray, List.getElem?_cons_zero, List.getElem?_cons_succ]; rfl)
      go_simp
      obtain ⟨wn, hwn, hsz, hbel, hblk⟩ := made_in HB.out
      rw [← hwn]
      have HGL := Lib.hid hsz
      have HG := Lib.hid hblk
      clear HB
      have HB := Lib.hid hbel
      clear hwn hsz hbel hblk
      refine hK.out _ _ (HX.out _ HB.out).2 (fun hHeld => ?_)
      clear hK K
      (try simp only [Act.put, List.setIfInBounds_toArray, List.set_cons_zero, List.set_cons_succ])
      refine wpAnyH_ready (rs := [6]) (by kernel_rfl) (by simp) ?_
      refine AllReadyH.cons (o := ?_) ?_ (fun K hK => ?_) AllReadyH.nil
      rotate_left
      · (simp only [List.getElem?_toArray, List.getElem?_cons_zero, List.getElem?_cons_succ]; rfl)
      go_simp
      (with_reducible refine (HSU.out _ HB.out).mono ?_)
      rintro e w3 ⟨rfl, hb⟩
      have HB2 := Lib.hid (below_call HB.out hb)
      have HG2 := Lib.hid (HG.out.below hb)
      clear hb HB HG
      have HB := HB2
      clear HB2
      have HG := HG2
      clear HG2
      go_wp2_with fail
      refine hK.out _ _ (HX.out _ HB.out).2 (fun hHeld => ?_)
      clear hK K
      (try simp only [Act.put, List.setIfInBounds_toArray, List.set_cons_zero, List.set_cons_succ])
      refine wpAnyH_ready (rs := [8]) (by kernel_rfl) (by simp) ?_
      refine AllReadyH.cons (o := ?_) ?_ (fun K hK => ?_) AllReadyH.nil
      rotate_left
      · (simp only [List.getElem?_toArray, List.getElem?_cons_zero, List.getElem?_cons_succ]; rfl)
      go_simp
      (with_reducible refine (HF1.out _ HB.out).mono ?_)
      rintro e w3 ⟨v1, rfl, hv, hb⟩
      have HV := Lib.hid hv
      have HB2 := Lib.hid (below_call HB.out hb)
      have HG2 := Lib.hid (HG.out.below hb)
      clear hb HB HG hv
      have HB := HB2
      clear HB2
      have HG := HG2
      clear HG2
      go_wp2_with fail
      refine hK.out _ _ (HX.out _ HB.out).2 (fun hHeld => ?_)
      clear hK K
      (try simp only [Act.put, List.setIfInBounds_toArray, List.set_cons_zero, List.set_cons_succ])
      refine wpAnyH_take (i := 9) (oi := ?_) (v := ?_) ?_ (by kernel_rfl) (by kernel_rfl) (by kernel_rfl) ?_ (Or.inl ⟨?_, ?_⟩) hHeld ?_
      rotate_left 2
      · (simp only [List.getElem?_toArray, List.getElem?_cons_zero, List.getElem?_cons_succ]; rfl)
      · exact (fun _ _ _ h => h)
      · rfl
      · (intro w hSw; (try dsimp only at hSw); go_simp; try with_reducible rfl)
      (try simp only [Act.put, List.setIfInBounds_toArray, List.set_cons_zero, List.set_cons_succ])
      refine wpAnyH_take (i := 10) (oi := ?_) (v := ?_) ?_ (by kernel_rfl) (by kernel_rfl) (by kernel_rfl) ?_ (Or.inl ⟨?_, ?_⟩) hHeld ?_
      rotate_left 2
      · (simp only [List.getElem?_toArray, List.getElem?_cons_zero, List.getElem?_cons_succ]; rfl)
      · exact (fun _ _ _ h => h)
      · rfl
      · (intro w hSw; (try dsimp only at hSw); go_simp; try with_reducible rfl)
      (try simp only [Act.put, List.setIfInBounds_toArray, List.set_cons_zero, List.set_cons_succ])
      refine wpAnyH_ready (rs := [11]) (by kernel_rfl) (by simp) ?_
      refine AllReadyH.cons (o := ?_) ?_ (fun K hK => ?_) AllReadyH.nil
      rotate_left
      · (simp only [List.getElem?_toArray, List.getElem?_cons_zero, List.getElem?_cons_succ]; rfl)
      go_simp
      (with_reducible refine (HS1.out _ _ HV.out).mono ?_)
      rintro e w3 ⟨rfl, hw3⟩
      cases hw3
      clear HV
      go_wp2_with fail
      refine hK.out _ _ (HX.out _ HB.out).2 (fun hHeld => ?_)
      clear hK K
      (try simp only [Act.put, List.setIfInBounds_toArray, List.set_cons_zero, List.set_cons_succ])
      refine wpAnyH_ready (rs := [13]) (by kernel_rfl) (by simp) ?_
      refine AllReadyH.cons (o := ?_) ?_ (fun K hK => ?_) AllReadyH.nil
      rotate_left
      · (simp only [List.getElem?_toArray, List.getElem?_cons_zero, List.getElem?_cons_succ]; rfl)
      go_simp
      (with_reducible refine (HF2.out _ HB.out).mono ?_)
      rintro e w3 ⟨v2, rfl, hv, hb⟩
      have HV := Lib.hid hv
      have HB2 := Lib.hid (below_call HB.out hb)
      have HG2 := Lib.hid (HG.out.below hb)
      clear hb HB HG hv
      have HB := HB2
      clear HB2
      have HG := HG2
      clear HG2
      go_wp2_with fail
      refine hK.out _ _ (HX.out _ HB.out).2 (fun hHeld => ?_)
      clear hK K
      (try simp only [Act.put, List.setIfInBounds_toArray, List.set_cons_zero, List.set_cons_succ])
      refine wpAnyH_take (i := 14) (oi := ?_) (v := ?_) ?_ (by kernel_rfl) (by kernel_rfl) (by kernel_rfl) ?_ (Or.inl ⟨?_, ?_⟩) hHeld ?_
      rotate_left 2
      · (simp only [List.getElem?_toArray, List.getElem?_cons_zero, List.getElem?_cons_succ]; rfl)
      · exact (fun _ _ _ h => h)
      · rfl
      · (intro w hSw; (try dsimp only at hSw); go_simp; try with_reducible rfl)
      (try simp only [Act.put, List.setIfInBounds_toArray, List.set_cons_zero, List.set_cons_succ])
      refine wpAnyH_take (i := 15) (oi := ?_) (v := ?_) ?_ (by kernel_rfl) (by kernel_rfl) (by kernel_rfl) ?_ (Or.inl ⟨?_, ?_⟩) hHeld ?_
      rotate_left 2
      · (simp only [List.getElem?_toArray, List.getElem?_cons_zero, List.getElem?_cons_succ]; rfl)
      · exact (fun _ _ _ h => h)
      · rfl
      · (intro w hSw; (try dsimp only at hSw); go_simp; try with_reducible rfl)
      (try simp only [Act.put, List.setIfInBounds_toArray, List.set_cons_zero, List.set_cons_succ])
      refine wpAnyH_ready (rs := [16]) (by kernel_rfl) (by simp) ?_
      refine AllReadyH.cons (o := ?_) ?_ (fun K hK => ?_) AllReadyH.nil
      rotate_left
      · (simp only [List.getElem?_toArray, List.getElem?_cons_zero, List.getElem?_cons_succ]; rfl)
      go_simp
      (with_reducible refine (HS2.out _ _ HV.out).mono ?_)
      rintro e w3 ⟨rfl, hw3⟩
      cases hw3
      clear HV
      go_wp2_with fail
      refine hK.out _ _ (HX.out _ HB.out).2 (fun hHeld => ?_)
      clear hK K
      (try simp only [Act.put, List.setIfInBounds_toArray, List.set_cons_zero, List.set_cons_succ])
      refine wpAnyH_ready (rs := [18]) (by kernel_rfl) (by simp) ?_
      refine AllReadyH.cons (o := ?_) ?_ (fun K hK => ?_) AllReadyH.nil
      rotate_left
      · (simp only [List.getElem?_toArray, List.getElem?_cons_zero, List.getElem?_cons_succ]; rfl)
      go_simp
      (with_reducible refine (HF3.out _ HB.out).mono ?_)
      rintro e w3 ⟨v3, rfl, hv, hb⟩
      have HV := Lib.hid hv
      have HB2 := Lib.hid (below_call HB.out hb)
      have HG2 := Lib.hid (HG.out.below hb)
      clear hb HB HG hv
      have HB := HB2
      clear HB2
      have HG := HG2
      clear HG2
      go_wp2_with fail
      refine hK.out _ _ (HX.out _ HB.out).2 (fun hHeld => ?_)
      clear hK K
      (try simp only [Act.put, List.setIfInBounds_toArray, List.set_cons_zero, List.set_cons_succ])
      refine wpAnyH_take (i := 19) (oi := ?_) (v := ?_) ?_ (by kernel_rfl) (by kernel_rfl) (by kernel_rfl) ?_ (Or.inl ⟨?_, ?_⟩) hHeld ?_
      rotate_left 2
      · (simp only [List.getElem?_toArray, List.getElem?_cons_zero, List.getElem?_cons_succ]; rfl)
      · exact (fun _ _ _ h => h)
      · rfl
      · (intro w hSw; (try dsimp only at hSw); go_simp; try with_reducible rfl)
      (try simp only [Act.put, List.setIfInBounds_toArray, List.set_cons_zero, List.set_cons_succ])
      refine wpAnyH_take (i := 20) (oi := ?_) (v := ?_) ?_ (by kernel_rfl) (by kernel_rfl) (by kernel_rfl) ?_ (Or.inl ⟨?_, ?_⟩) hHeld ?_
      rotate_left 2
      · (simp only [List.getElem?_toArray, List.getElem?_cons_zero, List.getElem?_cons_succ]; rfl)
      · exact (fun _ _ _ h => h)
      · rfl
      · (intro w hSw; (try dsimp only at hSw); go_simp; try with_reducible rfl)
      (try simp only [Act.put, List.setIfInBounds_toArray, List.set_cons_zero, List.set_cons_succ])
      refine wpAnyH_ready (rs := [21]) (by kernel_rfl) (by simp) ?_
      refine AllReadyH.cons (o := ?_) ?_ (fun K hK => ?_) AllReadyH.nil
      rotate_left
      · (simp only [List.getElem?_toArray, List.getElem?_cons_zero, List.getElem?_cons_succ]; rfl)
      go_simp
      (with_reducible refine (HS3.out _ _ HV.out).mono ?_)
      rintro e w3 ⟨rfl, hw3⟩
      cases hw3
      clear HV
      go_wp2_with fail
      refine hK.out _ _ (HX.out _ HB.out).2 (fun hHeld => ?_)
      clear hK K
      (try simp only [Act.put, List.setIfInBounds_toArray, List.set_cons_zero, List.set_cons_succ])
      refine wpAnyH_ready (rs := [27]) (by kernel_rfl) (by simp) ?_
      refine AllReadyH.cons (o := ?_) ?_ (fun K hK => ?_) AllReadyH.nil
      rotate_left
      · (simp only [List.getElem?_toArray, List.getElem?_cons_zero, List.getElem?_cons_succ]; rfl)
      go_simp
      (with_reducible refine (HRO.out _ HB.out).mono ?_)
      rintro e w3 ⟨rfl, hb⟩
      have HB2 := Lib.hid (below_call HB.out hb)
      have HG2 := Lib.hid (HG.out.below hb)
      clear hb HB HG
      have HB := HB2
      clear HB2
      have HG := HG2
      clear HG2
      go_wp2_with fail
      refine hK.out _ _ (HX.out _ HB.out).2 (fun hHeld => ?_)
      clear hK K
      (try simp only [Act.put, List.setIfInBounds_toArray, List.set_cons_zero, List.set_cons_succ])
      refine wpAnyH_ready (rs := [33]) (by kernel_rfl) (by simp) ?_
      refine AllReadyH.cons (o := ?_) ?_ (fun K hK => ?_) AllReadyH.nil
      rotate_left
      · (simp only [List.getElem?_toArray, List.getElem?_cons_zero, List.getElem?_cons_succ]; rfl)
      go_simp
      (with_reducible refine (HCO.out _ HB.out).mono ?_)
      rintro e w3 ⟨vv, rfl, hc, hb⟩
      obtain ⟨av, cv, ev⟩ := hc.1.len
      have HT := Lib.hid (hc.mono HB.out.size)
      obtain ⟨n, HN⟩ : ∃ n, Hid (n = ts.length) := ⟨_, Lib.hid rfl⟩
      rw [← HN.out] at ev
      subst ev
      have HNE := Lib.hid (Cnts.ne HG.out hc)
      have HB2 := Lib.hid (below_call HB.out hb)
      have HG2 := Lib.hid (HG.out.below hb)
      clear hb HB HG hc HN
      have HB := HB2
      clear HB2
      have HG := HG2
      clear HG2
      go_wp2_with fail
      refine hK.out _ _ (HX.out _ HB.out).2 (fun hHeld => ?_)
      clear hK K
      (try simp only [Act.put, List.setIfInBounds_toArray, List.set_cons_zero, List.set_cons_succ])
      refine wpAnyH_take (i := 34) (oi := ?_) (v := ?_) ?_ (by kernel_rfl) (by kernel_rfl) (by kernel_rfl) ?_ (Or.inl ⟨?_, ?_⟩) hHeld ?_
      rotate_left 2
      · (simp only [List.getElem?_toArray, List.getElem?_cons_zero, List.getElem?_cons_succ]; rfl)
      · exact (fun _ _ _ h => h)
      · rfl
      · (intro w hSw; (try dsimp only at hSw); go_simp; try with_reducible rfl)
      (try simp only [Act.put, List.setIfInBounds_toArray, List.set_cons_zero, List.set_cons_succ])
      refine wpAnyH_ready (rs := [36]) (by kernel_rfl) (by simp) ?_
      refine AllReadyH.cons (o := ?_) ?_ (fun K hK => ?_) AllReadyH.nil
      rotate_left
      · (simp only [List.getElem?_toArray, List.getElem?_cons_zero, List.getElem?_cons_succ]; rfl)
      obtain ⟨d0, d1, d2, d3, d4, d5, d6, d7, d8, d9, d10, d11⟩ := cells12 HG.out
      obtain ⟨f0, f1, f2, f3, f4, f5, f6, f7, f8, f9, f10, f11⟩ := frz12 HG.out
      go_simp
      have HB2 := Lib.hid (bel12 HB.out HGL.out (.bool a) (.bool b') (.bool c) (.bool d) (.bool s) (.bool l) (.bool o) (.int .i64 m) (.bool false) (.bool false) (.int .i64 r) (.slice av n cv))
      have HG2 := Lib.hid (set12 HG.out (.bool a) (.bool b') (.bool c) (.bool d) (.bool s) (.bool l) (.bool o) (.int .i64 m) (.bool false) (.bool false) (.int .i64 r) (.slice av n cv))
      have HT2 := Lib.hid (HT.out.apart (keep12 (G := fun z => z = _) rfl (.bool a) (.bool b') (.bool c) (.bool d) (.bool s) (.bool l) (.bool o) (.int .i64 m) (.bool false) (.bool false) (.int .i64 r) (.slice av n cv)) HNE.out)
      refine hK.out _ _ (HX.out _ HB2.out).2 (fun hHeld => ?_)
      clear hK K
      (try simp only [Act.put, List.setIfInBounds_toArray, List.set_cons_zero, List.set_cons_succ])
      refine wpAnyH_done (by kernel_rfl) ?_ _
      clear d0 d1 d2 d3 d4 d5 d6 d7 d8 d9 d10 d11 f0 f1 f2 f3 f4 f5 f6 f7 f8 f9 f10 f11
      go_wp2_with fail
      go_meet
      exact ⟨_, av, n, cv, rfl, HGL, HB2, HG2, HT2, HNE⟩
    go_simp
    (with_reducible refine (HSU.out _ HB.out).mono ?_)
    rintro e w3 ⟨rfl, hb⟩
    have HB2 := Lib.hid (below_call HB.out hb)
    clear hb HB
    have HB := HB2
    clear HB2
    go_wp2_with fail
    refine hK.out _ _ (HX.out _ HB.out).2 (fun hHeld => ?_)
    clear hK K
    (try simp only [Act.put, List.setIfInBounds_toArray, List.set_cons_zero, List.set_cons_succ])
    refine wpAnyH_ready (rs := [8, 35]) (by kernel_rfl) (by simp) ?_
    refine AllReadyH.cons (o := ?_) ?_ (fun K hK => ?_) ?_
    rotate_left
    · (simp only [List.getElem?_toArray, List.getElem?_cons_zero, List.getElem?_cons_succ]; rfl)
    rotate_left
    · refine AllReadyH.cons (o := ?_) ?_ (fun K hK => ?_) AllReadyH.nil
      rotate_left
      · (simp only [List.getElem?_toArray, List.getElem?_cons_zero, List.getElem?_cons_succ]; rfl)
      go_simp
      obtain ⟨wn, hwn, hsz, hbel, hblk⟩ := made_in HB.out
      rw [← hwn]
      have HGL := Lib.hid hsz
      have HG := Lib.hid hblk
      clear HB
      have HB := Lib.hid hbel
      clear hwn hsz hbel hblk
      refine hK.out _ _ (HX.out _ HB.out).2 (fun hHeld => ?_)
      clear hK K
      (try simp only [Act.put, List.setIfInBounds_toArray, List.set_cons_zero, List.set_cons_succ])
      refine wpAnyH_ready (rs := [8]) (by kernel_rfl) (by simp) ?_
      refine AllReadyH.cons (o := ?_) ?_ (fun K hK => ?_) AllReadyH.nil
      rotate_left
      · (simp only [List.getElem?_toArray, List.getElem?_cons_zero, List.getElem?_cons_succ]; rfl)
      go_simp
      (with_reducible refine (HF1.out _ HB.out).mono ?_)
      rintro e w3 ⟨v1, rfl, hv, hb⟩
      have HV := Lib.hid hv
      have HB2 := Lib.hid (below_call HB.out hb)
      have HG2 := Lib.hid (HG.out.below hb)
      clear hb HB HG hv
      have HB := HB2
      clear HB2
      have HG := HG2
      clear HG2
      go_wp2_with fail
      refine hK.out _ _ (HX.out _ HB.out).2 (fun hHeld => ?_)
      clear hK K
      (try simp only [Act.put, List.setIfInBounds_toArray, List.set_cons_zero, List.set_cons_succ])
      refine wpAnyH_take (i := 9) (oi := ?_) (v := ?_) ?_ (by kernel_rfl) (by kernel_rfl) (by kernel_rfl) ?_ (Or.inl ⟨?_, ?_⟩) hHeld ?_
      rotate_left 2
      · (simp only [List.getElem?_toArray, List.getElem?_cons_zero, List.getElem?_cons_succ]; rfl)
      · exact (fun _ _ _ h => h)
      · rfl
      · (intro w hSw; (try dsimp only at hSw); go_simp; try with_reducible rfl)
      (try simp only [Act.put, List.setIfInBounds_toArray, List.set_cons_zero, List.set_cons_succ])
      refine wpAnyH_take (i := 10) (oi := ?_) (v := ?_) ?_ (by kernel_rfl) (by kernel_rfl) (by kernel_rfl) ?_ (Or.inl ⟨?_, ?_⟩) hHeld ?_
      rotate_left 2
      · (simp only [List.getElem?_toArray, List.getElem?_cons_zero, List.getElem?_cons_succ]; rfl)
      · exact (fun _ _ _ h => h)
      · rfl
      · (intro w hSw; (try dsimp only at hSw); go_simp; try with_reducible rfl)
      (try simp only [Act.put, List.setIfInBounds_toArray, List.set_cons_zero, List.set_cons_succ])
      refine wpAnyH_ready (rs := [11]) (by kernel_rfl) (by simp) ?_
      refine AllReadyH.cons (o := ?_) ?_ (fun K hK => ?_) AllReadyH.nil
      rotate_left
      · (simp only [List.getElem?_toArray, List.getElem?_cons_zero, List.getElem?_cons_succ]; rfl)
      go_simp
      (with_reducible refine (HS1.out _ _ HV.out).mono ?_)
      rintro e w3 ⟨rfl, hw3⟩
      cases hw3
      clear HV
      go_wp2_with fail
      refine hK.out _ _ (HX.out _ HB.out).2 (fun hHeld => ?_)
      clear hK K
      (try simp only [Act.put, List.setIfInBounds_toArray, List.set_cons_zero, List.set_cons_succ])
      refine wpAnyH_ready (rs := [13]) (by kernel_rfl) (by simp) ?_
      refine AllReadyH.cons (o := ?_) ?_ (fun K hK => ?_) AllReadyH.nil
      rotate_left
      · (simp only [List.getElem?_toArray, List.getElem?_cons_zero, List.getElem?_cons_succ]; rfl)
      go_simp
      (with_reducible refine (HF2.out _ HB.out).mono ?_)
      rintro e w3 ⟨v2, rfl, hv, hb⟩
      have HV := Lib.hid hv
      have HB2 := Lib.hid (below_call HB.out hb)
      have HG2 := Lib.hid (HG.out.below hb)
      clear hb HB HG hv
      have HB := HB2
      clear HB2
      have HG := HG2
      clear HG2
      go_wp2_with fail
      refine hK.out _ _ (HX.out _ HB.out).2 (fun hHeld => ?_)
      clear hK K
      (try simp only [Act.put, List.setIfInBounds_toArray, List.set_cons_zero, List.set_cons_succ])
      refine wpAnyH_take (i := 14) (oi := ?_) (v := ?_) ?_ (by kernel_rfl) (by kernel_rfl) (by kernel_rfl) ?_ (Or.inl ⟨?_, ?_⟩) hHeld ?_
      rotate_left 2
      · (simp only [List.getElem?_toArray, List.getElem?_cons_zero, List.getElem?_cons_succ]; rfl)
      · exact (fun _ _ _ h => h)
      · rfl
      · (intro w hSw; (try dsimp only at hSw); go_simp; try with_reducible rfl)
      (try simp only [Act.put, List.setIfInBounds_toArray, List.set_cons_zero, List.set_cons_succ])
      refine wpAnyH_take (i := 15) (oi := ?_) (v := ?_) ?_ (by kernel_rfl) (by kernel_rfl) (by kernel_rfl) ?_ (Or.inl ⟨?_, ?_⟩) hHeld ?_
      rotate_left 2
      · (simp only [List.getElem?_toArray, List.getElem?_cons_zero, List.getElem?_cons_succ]; rfl)
      · exact (fun _ _ _ h => h)
      · rfl
      · (intro w hSw; (try dsimp only at hSw); go_simp; try with_reducible rfl)
      (try simp only [Act.put, List.setIfInBounds_toArray, List.set_cons_zero, List.set_cons_succ])
      refine wpAnyH_ready (rs := [16]) (by kernel_rfl) (by simp) ?_
      refine AllReadyH.cons (o := ?_) ?_ (fun K hK => ?_) AllReadyH.nil
      rotate_left
      · (simp only [List.getElem?_toArray, List.getElem?_cons_zero, List.getElem?_cons_succ]; rfl)
      go_simp
      (with_reducible refine (HS2.out _ _ HV.out).mono ?_)
      rintro e w3 ⟨rfl, hw3⟩
      cases hw3
      clear HV
      go_wp2_with fail
      refine hK.out _ _ (HX.out _ HB.out).2 (fun hHeld => ?_)
      clear hK K
      (try simp only [Act.put, List.setIfInBounds_toArray, List.set_cons_zero, List.set_cons_succ])
      refine wpAnyH_ready (rs := [18]) (by kernel_rfl) (by simp) ?_
      refine AllReadyH.cons (o := ?_) ?_ (fun K hK => ?_) AllReadyH.nil
      rotate_left
      · (simp only [List.getElem?_toArray, List.getElem?_cons_zero, List.getElem?_cons_succ]; rfl)
      go_simp
      (with_reducible refine (HF3.out _ HB.out).mono ?_)
      rintro e w3 ⟨v3, rfl, hv, hb⟩
      have HV := Lib.hid hv
      have HB2 := Lib.hid (below_call HB.out hb)
      have HG2 := Lib.hid (HG.out.below hb)
      clear hb HB HG hv
      have HB := HB2
      clear HB2
      have HG := HG2
      clear HG2
      go_wp2_with fail
      refine hK.out _ _ (HX.out _ HB.out).2 (fun hHeld => ?_)
      clear hK K
      (try simp only [Act.put, List.setIfInBounds_toArray, List.set_cons_zero, List.set_cons_succ])
      refine wpAnyH_take (i := 19) (oi := ?_) (v := ?_) ?_ (by kernel_rfl) (by kernel_rfl) (by kernel_rfl) ?_ (Or.inl ⟨?_, ?_⟩) hHeld ?_
      rotate_left 2
      · (simp only [List.getElem?_toArray, List.getElem?_cons_zero, List.getElem?_cons_succ]; rfl)
      · exact (fun _ _ _ h => h)
      · rfl
      · (intro w hSw; (try dsimp only at hSw); go_simp; try with_reducible rfl)
      (try simp only [Act.put, List.setIfInBounds_toArray, List.set_cons_zero, List.set_cons_succ])
      refine wpAnyH_take (i := 20) (oi := ?_) (v := ?_) ?_ (by kernel_rfl) (by kernel_rfl) (by kernel_rfl) ?_ (Or.inl ⟨?_, ?_⟩) hHeld ?_
      rotate_left 2
      · (simp only [List.getElem?_toArray, List.getElem?_cons_zero, List.getElem?_cons_succ]; rfl)
      · exact (fun _ _ _ h => h)
      · rfl
      · (intro w hSw; (try dsimp only at hSw); go_simp; try with_reducible rfl)
      (try simp only [Act.put, List.setIfInBounds_toArray, List.set_cons_zero, List.set_cons_succ])
      refine wpAnyH_ready (rs := [21]) (by kernel_rfl) (by simp) ?_
      refine AllReadyH.cons (o := ?_) ?_ (fun K hK => ?_) AllReadyH.nil
      rotate_left
      · (simp only [List.getElem?_toArray, List.getElem?_cons_zero, List.getElem?_cons_succ]; rfl)
      go_simp
      (with_reducible refine (HS3.out _ _ HV.out).mono ?_)
      rintro e w3 ⟨rfl, hw3⟩
      cases hw3
      clear HV
      go_wp2_with fail
      refine hK.out _ _ (HX.out _ HB.out).2 (fun hHeld => ?_)
      clear hK K
      (try simp only [Act.put, List.setIfInBounds_toArray, List.set_cons_zero, List.set_cons_succ])
      refine wpAnyH_ready (rs := [27]) (by kernel_rfl) (by simp) ?_
      refine AllReadyH.cons (o := ?_) ?_ (fun K hK => ?_) AllReadyH.nil
      rotate_left
      · (simp only [List.getElem?_toArray, List.getElem?_cons_zero, List.getElem?_cons_succ]; rfl)
      go_simp
      (with_reducible refine (HRO.out _ HB.out).mono ?_)
      rintro e w3 ⟨rfl, hb⟩
      have HB2 := Lib.hid (below_call HB.out hb)
      have HG2 := Lib.hid (HG.out.below hb)
      clear hb HB HG
      have HB := HB2
      clear HB2
      have HG := HG2
      clear HG2
      go_wp2_with fail
      refine hK.out _ _ (HX.out _ HB.out).2 (fun hHeld => ?_)
      clear hK K
      (try simp only [Act.put, List.setIfInBounds_toArray, List.set_cons_zero, List.set_cons_succ])
      refine wpAnyH_ready (rs := [33]) (by kernel_rfl) (by simp) ?_
      refine AllReadyH.cons (o := ?_) ?_ (fun K hK => ?_) AllReadyH.nil
      rotate_left
      · (simp only [List.getElem?_toArray, List.getElem?_cons_zero, List.getElem?_cons_succ]; rfl)
      go_simp
      (with_reducible refine (HCO.out _ HB.out).mono ?_)
      rintro e w3 ⟨vv, rfl, hc, hb⟩
      obtain ⟨av, cv, ev⟩ := hc.1.len
      have HT := Lib.hid (hc.mono HB.out.size)
      obtain ⟨n, HN⟩ : ∃ n, Hid (n = ts.length) := ⟨_, Lib.hid rfl⟩
      rw [← HN.out] at ev
      subst ev
      have HNE := Lib.hid (Cnts.ne HG.out hc)
      have HB2 := Lib.hid (below_call HB.out hb)
      have HG2 := Lib.hid (HG.out.below hb)
      clear hb HB HG hc HN
      have HB := HB2
      clear HB2
      have HG := HG2
      clear HG2
      go_wp2_with fail
      refine hK.out _ _ (HX.out _ HB.out).2 (fun hHeld => ?_)
      clear hK K
      (try simp only [Act.put, List.setIfInBounds_toArray, List.set_cons_zero, List.set_cons_succ])
      refine wpAnyH_take (i := 34) (oi := ?_) (v := ?_) ?_ (by kernel_rfl) (by kernel_rfl) (by kernel_rfl) ?_ (Or.inl ⟨?_, ?_⟩) hHeld ?_
      rotate_left 2
      · (simp only [List.getElem?_toArray, List.getElem?_cons_zero, List.getElem?_cons_succ]; rfl)
      · exact (fun _ _ _ h => h)
      · rfl
      · (intro w hSw; (try dsimp only at hSw); go_simp; try with_reducible rfl)
      (try simp only [Act.put, List.setIfInBounds_toArray, List.set_cons_zero, List.set_cons_succ])
      refine wpAnyH_ready (rs := [36]) (by kernel_rfl) (by simp) ?_
      refine AllReadyH.cons (o := ?_) ?_ (fun K hK => ?_) AllReadyH.nil
      rotate_left
      · (simp only [List.getElem?_toArray, List.getElem?_cons_zero, List.getElem?_cons_succ]; rfl)
      obtain ⟨d0, d1, d2, d3, d4, d5, d6, d7, d8, d9, d10, d11⟩ := cells12 HG.out
      obtain ⟨f0, f1, f2, f3, f4, f5, f6, f7, f8, f9, f10, f11⟩ := frz12 HG.out
      go_simp
      have HB2 := Lib.hid (bel12 HB.out HGL.out (.bool a) (.bool b') (.bool c) (.bool d) (.bool s) (.bool l) (.bool o) (.int .i64 m) (.bool false) (.bool false) (.int .i64 r) (.slice av n cv))
      have HG2 := Lib.hid (set12 HG.out (.bool a) (.bool b') (.bool c) (.bool d) (.bool s) (.bool l) (.bool o) (.int .i64 m) (.bool false) (.bool false) (.int .i64 r) (.slice av n cv))
      have HT2 := Lib.hid (HT.out.apart (keep12 (G := fun z => z = _) rfl (.bool a) (.bool b') (.bool c) (.bool d) (.bool s) (.bool l) (.bool o) (.int .i64 m) (.bool false) (.bool false) (.int .i64 r) (.slice av n cv)) HNE.out)
      refine hK.out _ _ (HX.out _ HB2.out).2 (fun hHeld => ?_)
      clear hK K
      (try simp only [Act.put, List.setIfInBounds_toArray, List.set_cons_zero, List.set_cons_succ])
      refine wpAnyH_done (by kernel_rfl) ?_ _
      clear d0 d1 d2 d3 d4 d5 d6 d7 d8 d9 d10 d11 f0 f1 f2 f3 f4 f5 f6 f7 f8 f9 f10 f11
      go_wp2_with fail
      go_meet
      exact ⟨_, av, n, cv, rfl, HGL, HB2, HG2, HT2, HNE⟩
    go_simp
    (with_reducible refine (HF1.out _ HB.out).mono ?_)
    rintro e w3 ⟨v1, rfl, hv, hb⟩
    have HV := Lib.hid hv
    have HB2 := Lib.hid (below_call HB.out hb)
    clear hb HB hv
    have HB := HB2
    clear HB2
    go_wp2_with fail
    refine hK.out _ _ (HX.out _ HB.out).2 (fun hHeld => ?_)
    clear hK K
    (try simp only [Act.put, List.setIfInBounds_toArray, List.set_cons_zero, List.set_cons_succ])
    refine wpAnyH_take (i := 9) (oi := ?_) (v := ?_) ?_ (by kernel_rfl) (by kernel_rfl) (by kernel_rfl) ?_ (Or.inl ⟨?_, ?_⟩) hHeld ?_
    rotate_left 2
    · (simp only [List.getElem?_toArray, List.getElem?_cons_zero, List.getElem?_cons_succ]; rfl)
    · exact (fun _ _ _ h => h)
    · rfl
    · (intro w hSw; (try dsimp only at hSw); go_simp; try with_reducible rfl)
    (try simp only [Act.put, List.setIfInBounds_toArray, List.set_cons_zero, List.set_cons_succ])
    refine wpAnyH_take (i := 10) (oi := ?_) (v := ?_) ?_ (by kernel_rfl) (by kernel_rfl) (by kernel_rfl) ?_ (Or.inl ⟨?_, ?_⟩) hHeld ?_
    rotate_left 2
    · (simp only [List.getElem?_toArray, List.getElem?_cons_zero, List.getElem?_cons_succ]; rfl)
    · exact (fun _ _ _ h => h)
    · rfl
    · (intro w hSw; (try dsimp only at hSw); go_simp; try with_reducible rfl)
    (try simp only [Act.put, List.setIfInBounds_toArray, List.set_cons_zero, List.set_cons_succ])
    refine wpAnyH_ready (rs := [11, 35]) (by kernel_rfl) (by simp) ?_
    refine AllReadyH.cons (o := ?_) ?_ (fun K hK => ?_) ?_
    rotate_left
    · (simp only [List.getElem?_toArray, List.getElem?_cons_zero, List.getElem?_cons_succ]; rfl)
    rotate_left
    · refine AllReadyH.cons (o := ?_) ?_ (fun K hK => ?_) AllReadyH.nil
      rotate_left
      · (simp only [List.getElem?_toArray, List.getElem?_cons_zero, List.getElem?_cons_succ]; rfl)
      go_simp
      obtain ⟨wn, hwn, hsz, hbel, hblk⟩ := made_in HB.out
      rw [← hwn]
      have HGL := Lib.hid hsz
      have HG := Lib.hid hblk
      have HV2 := Lib.hid (HV.out.below (w' := wn) (by rw [hwn]; exact below_alloc (Below.refl _ _) _))
      clear HV
      have HV := HV2
      clear HV2
      clear HB
      have HB := Lib.hid hbel
      clear hwn hsz hbel hblk
      refine hK.out _ _ (HX.out _ HB.out).2 (fun hHeld => ?_)
      clear hK K
      (try simp only [Act.put, List.setIfInBounds_toArray, List.set_cons_zero, List.set_cons_succ])
      refine wpAnyH_ready (rs := [11]) (by kernel_rfl) (by simp) ?_
      refine AllReadyH.cons (o := ?_) ?_ (fun K hK => ?_) AllReadyH.nil
      rotate_left
      · (simp only [List.getElem?_toArray, List.getElem?_cons_zero, List.getElem?_cons_succ]; rfl)
      go_simp
      (with_reducible refine (HS1.out _ _ HV.out).mono ?_)
      rintro e w3 ⟨rfl, hw3⟩
      cases hw3
      clear HV
      go_wp2_with fail
      refine hK.out _ _ (HX.out _ HB.out).2 (fun hHeld => ?_)
      clear hK K
      (try simp only [Act.put, List.setIfInBounds_toArray, List.set_cons_zero, List.set_cons_succ])
      refine wpAnyH_ready (rs := [13]) (by kernel_rfl) (by simp) ?_
      refine AllReadyH.cons (o := ?_) ?_ (fun K hK => ?_) AllReadyH.nil
      rotate_left
      · (simp only [List.getElem?_toArray, List.getElem?_cons_zero, List.getElem?_cons_succ]; rfl)
      go_simp
      (with_reducible refine (HF2.out _ HB.out).mono ?_)
      rintro e w3 ⟨v2, rfl, hv, hb⟩
      have HV := Lib.hid hv
      have HB2 := Lib.hid (below_call HB.out hb)
      have HG2 := Lib.hid (HG.out.below hb)
      clear hb HB HG hv
      have HB := HB2
      clear HB2
      have HG := HG2
      clear HG2
      go_wp2_with fail
      refine hK.out _ _ (HX.out _ HB.out).2 (fun hHeld => ?_)
      clear hK K
      (try simp only [Act.put, List.setIfInBounds_toArray, List.set_cons_zero, List.set_cons_succ])
      refine wpAnyH_take (i := 14) (oi := ?_) (v := ?_) ?_ (by kernel_rfl) (by kernel_rfl) (by kernel_rfl) ?_ (Or.inl ⟨?_, ?_⟩) hHeld ?_
      rotate_left 2
      · (simp only [List.getElem?_toArray, List.getElem?_cons_zero, List.getElem?_cons_succ]; rfl)
      · exact (fun _ _ _ h => h)
      · rfl
      · (intro w hSw; (try dsimp only at hSw); go_simp; try with_reducible rfl)
      (try simp only [Act.put, List.setIfInBounds_toArray, List.set_cons_zero, List.set_cons_succ])
      refine wpAnyH_take (i := 15) (oi := ?_) (v := ?_) ?_ (by kernel_rfl) (by kernel_rfl) (by kernel_rfl) ?_ (Or.inl ⟨?_, ?_⟩) hHeld ?_
      rotate_left 2
      · (simp only [List.getElem?_toArray, List.getElem?_cons_zero, List.getElem?_cons_succ]; rfl)
      · exact (fun _ _ _ h => h)
      · rfl
      · (intro w hSw; (try dsimp only at hSw); go_simp; try with_reducible rfl)
      (try simp only [Act.put, List.setIfInBounds_toArray, List.set_cons_zero, List.set_cons_succ])
      refine wpAnyH_ready (rs := [16]) (by kernel_rfl) (by simp) ?_
      refine AllReadyH.cons (o := ?_) ?_ (fun K hK => ?_) AllReadyH.nil
      rotate_left
      · (simp only [List.getElem?_toArray, List.getElem?_cons_zero, List.getElem?_cons_succ]; rfl)
      go_simp
      (with_reducible refine (HS2.out _ _ HV.out).mono ?_)
      rintro e w3 ⟨rfl, hw3⟩
      cases hw3
      clear HV
      go_wp2_with fail
      refine hK.out _ _ (HX.out _ HB.out).2 (fun hHeld => ?_)
      clear hK K
      (try simp only [Act.put, List.setIfInBounds_toArray, List.set_cons_zero, List.set_cons_succ])
      refine wpAnyH_ready (rs := [18]) (by kernel_rfl) (by simp) ?_
      refine AllReadyH.cons (o := ?_) ?_ (fun K hK => ?_) AllReadyH.nil
      rotate_left
      · (simp only [List.getElem?_toArray, List.getElem?_cons_zero, List.getElem?_cons_succ]; rfl)
      go_simp
      (with_reducible refine (HF3.out _ HB.out).mono ?_)
      rintro e w3 ⟨v3, rfl, hv, hb⟩
      have HV := Lib.hid hv
      have HB2 := Lib.hid (below_call HB.out hb)
      have HG2 := Lib.hid (HG.out.below hb)
      clear hb HB HG hv
      have HB := HB2
      clear HB2
      have HG := HG2
      clear HG2
      go_wp2_with fail
      refine hK.out _ _ (HX.out _ HB.out).2 (fun hHeld => ?_)
      clear hK K
      (try simp only [Act.put, List.setIfInBounds_toArray, List.set_cons_zero, List.set_cons_succ])
      refine wpAnyH_take (i := 19) (oi := ?_) (v := ?_) ?_ (by kernel_rfl) (by kernel_rfl) (by kernel_rfl) ?_ (Or.inl ⟨?_, ?_⟩) hHeld ?_
      rotate_left 2
      · (simp only [List.getElem?_toArray, List.getElem?_cons_zero, List.getElem?_cons_succ]; rfl)
      · exact (fun _ _ _ h => h)
      · rfl
      · (intro w hSw; (try dsimp only at hSw); go_simp; try with_reducible rfl)
      (try simp only [Act.put, List.setIfInBounds_toArray, List.set_cons_zero, List.set_cons_succ])
      refine wpAnyH_take (i := 20) (oi := ?_) (v := ?_) ?_ (by kernel_rfl) (by kernel_rfl) (by kernel_rfl) ?_ (Or.inl ⟨?_, ?_⟩) hHeld ?_
      rotate_left 2
      · (simp only [List.getElem?_toArray, List.getElem?_cons_zero, List.getElem?_cons_succ]; rfl)
      · exact (fun _ _ _ h => h)
      · rfl
      · (intro w hSw; (try dsimp only at hSw); go_simp; try with_reducible rfl)
      (try simp only [Act.put, List.setIfInBounds_toArray, List.set_cons_zero, List.set_cons_succ])
      refine wpAnyH_ready (rs := [21]) (by kernel_rfl) (by simp) ?_
      refine AllReadyH.cons (o := ?_) ?_ (fun K hK => ?_) AllReadyH.nil
      rotate_left
      · (simp only [List.getElem?_toArray, List.getElem?_cons_zero, List.getElem?_cons_succ]; rfl)
      go_simp
      (with_reducible refine (HS3.out _ _ HV.out).mono ?_)
      rintro e w3 ⟨rfl, hw3⟩
      cases hw3
      clear HV
      go_wp2_with fail
      refine hK.out _ _ (HX.out _ HB.out).2 (fun hHeld => ?_)
      clear hK K
      (try simp only [Act.put, List.setIfInBounds_toArray, List.set_cons_zero, List.set_cons_succ])
      refine wpAnyH_ready (rs := [27]) (by kernel_rfl) (by simp) ?_
      refine AllReadyH.cons (o := ?_) ?_ (fun K hK => ?_) AllReadyH.nil
      rotate_left
      · (simp only [List.getElem?_toArray, List.getElem?_cons_zero, List.getElem?_cons_succ]; rfl)
      go_simp
      (with_reducible refine (HRO.out _ HB.out).mono ?_)
      rintro e w3 ⟨rfl, hb⟩
      have HB2 := Lib.hid (below_call HB.out hb)
      have HG2 := Lib.hid (HG.out.below hb)
      clear hb HB HG
      have HB := HB2
      clear HB2
      have HG := HG2
      clear HG2
      go_wp2_with fail
      refine hK.out _ _ (HX.out _ HB.out).2 (fun hHeld => ?_)
      clear hK K
      (try simp only [Act.put, List.setIfInBounds_toArray, List.set_cons_zero, List.set_cons_succ])
      refine wpAnyH_ready (rs := [33]) (by kernel_rfl) (by simp) ?_
      refine AllReadyH.cons (o := ?_) ?_ (fun K hK => ?_) AllReadyH.nil
      rotate_left
      · (simp only [List.getElem?_toArray, List.getElem?_cons_zero, List.getElem?_cons_succ]; rfl)
      go_simp
      (with_reducible refine (HCO.out _ HB.out).mono ?_)
      rintro e w3 ⟨vv, rfl, hc, hb⟩
      obtain ⟨av, cv, ev⟩ := hc.1.len
      have HT := Lib.hid (hc.mono HB.out.size)
      obtain ⟨n, HN⟩ : ∃ n, Hid (n = ts.length) := ⟨_, Lib.hid rfl⟩
      rw [← HN.out] at ev
      subst ev
      have HNE := Lib.hid (Cnts.ne HG.out hc)
      have HB2 := Lib.hid (below_call HB.out hb)
      have HG2 := Lib.hid (HG.out.below hb)
      clear hb HB HG hc HN
      have HB := HB2
      clear HB2
      have HG := HG2
      clear HG2
      go_wp2_with fail
      refine hK.out _ _ (HX.out _ HB.out).2 (fun hHeld => ?_)
      clear hK K
      (try simp only [Act.put, List.setIfInBounds_toArray, List.set_cons_zero, List.set_cons_succ])
      refine wpAnyH_take (i := 34) (oi := ?_) (v := ?_) ?_ (by kernel_rfl) (by kernel_rfl) (by kernel_rfl) ?_ (Or.inl ⟨?_, ?_⟩) hHeld ?_
      rotate_left 2
      · (simp only [List.getElem?_toArray, List.getElem?_cons_zero, List.getElem?_cons_succ]; rfl)
      · exact (fun _ _ _ h => h)
      · rfl
      · (intro w hSw; (try dsimp only at hSw); go_simp; try with_reducible rfl)
      (try simp only [Act.put, List.setIfInBounds_toArray, List.set_cons_zero, List.set_cons_succ])
      refine wpAnyH_ready (rs := [36]) (by kernel_rfl) (by simp) ?_
      refine AllReadyH.cons (o := ?_) ?_ (fun K hK => ?_) AllReadyH.nil
      rotate_left
      · (simp only [List.getElem?_toArray, List.getElem?_cons_zero, List.getElem?_cons_succ]; rfl)
      obtain ⟨d0, d1, d2, d3, d4, d5, d6, d7, d8, d9, d10, d11⟩ := cells12 HG.out
      obtain ⟨f0, f1, f2, f3, f4, f5, f6, f7, f8, f9, f10, f11⟩ := frz12 HG.out
      go_simp
      have HB2 := Lib.hid (bel12 HB.out HGL.out (.bool a) (.bool b') (.bool c) (.bool d) (.bool s) (.bool l) (.bool o) (.int .i64 m) (.bool false) (.bool false) (.int .i64 r) (.slice av n cv))
      have HG2 := Lib.hid (set12 HG.out (.bool a) (.bool b') (.bool c) (.bool d) (.bool s) (.bool l) (.bool o) (.int .i64 m) (.bool false) (.bool false) (.int .i64 r) (.slice av n cv))
      have HT2 := Lib.hid (HT.out.apart (keep12 (G := fun z => z = _) rfl (.bool a) (.bool b') (.bool c) (.bool d) (.bool s) (.bool l) (.bool o) (.int .i64 m) (.bool false) (.bool false) (.int .i64 r) (.slice av n cv)) HNE.out)
      refine hK.out _ _ (HX.out _ HB2.out).2 (fun hHeld => ?_)
      clear hK K
      (try simp only [Act.put, List.setIfInBounds_toArray, List.set_cons_zero, List.set_cons_succ])
      refine wpAnyH_done (by kernel_rfl) ?_ _
      clear d0 d1 d2 d3 d4 d5 d6 d7 d8 d9 d10 d11 f0 f1 f2 f3 f4 f5 f6 f7 f8 f9 f10 f11
      go_wp2_with fail
      go_meet
      exact ⟨_, av, n, cv, rfl, HGL, HB2, HG2, HT2, HNE⟩
    go_simp
    (with_reducible refine (HS1.out _ _ HV.out).mono ?_)
    rintro e w3 ⟨rfl, hw3⟩
    cases hw3
    clear HV
    go_wp2_with fail
    refine hK.out _ _ (HX.out _ HB.out).2 (fun hHeld => ?_)
    clear hK K
    (try simp only [Act.put, List.setIfInBounds_toArray, List.set_cons_zero, List.set_cons_succ])
    refine wpAnyH_ready (rs := [13, 35]) (by kernel_rfl) (by simp) ?_
    refine AllReadyH.cons (o := ?_) ?_ (fun K hK => ?_) ?_
    rotate_left
    · (simp only [List.getElem?_toArray, List.getElem?_cons_zero, List.getElem?_cons_succ]; rfl)
    rotate_left
    · refine AllReadyH.cons (o := ?_) ?_ (fun K hK => ?_) AllReadyH.nil
      rotate_left
      · (simp only [List.getElem?_toArray, List.getElem?_cons_zero, List.getElem?_cons_succ]; rfl)
      go_simp
      obtain ⟨wn, hwn, hsz, hbel, hblk⟩ := made_in HB.out
      rw [← hwn]
      have HGL := Lib.hid hsz
      have HG := Lib.hid hblk
      clear HB
      have HB := Lib.hid hbel
      clear hwn hsz hbel hblk
      refine hK.out _ _ (HX.out _ HB.out).2 (fun hHeld => ?_)
      clear hK K
      (try simp only [Act.put, List.setIfInBounds_toArray, List.set_cons_zero, List.set_cons_succ])
      refine wpAnyH_ready (rs := [13]) (by kernel_rfl) (by simp) ?_
      refine AllReadyH.cons (o := ?_) ?_ (fun K hK => ?_) AllReadyH.nil
      rotate_left
      · (simp only [List.getElem?_toArray, List.getElem?_cons_zero, List.getElem?_cons_succ]; rfl)
      go_simp
      (with_reducible refine (HF2.out _ HB.out).mono ?_)
      rintro e w3 ⟨v2, rfl, hv, hb⟩
      have HV := Lib.hid hv
      have HB2 := Lib.hid (below_call HB.out hb)
      have HG2 := Lib.hid (HG.out.below hb)
      clear hb HB HG hv
      have HB := HB2
      clear HB2
      have HG := HG2
      clear HG2
      go_wp2_with fail
      refine hK.out _ _ (HX.out _ HB.out).2 (fun hHeld => ?_)
      clear hK K
      (try simp only [Act.put, List.setIfInBounds_toArray, List.set_cons_zero, List.set_cons_succ])
      refine wpAnyH_take (i := 14) (oi := ?_) (v := ?_) ?_ (by kernel_rfl) (by kernel_rfl) (by kernel_rfl) ?_ (Or.inl ⟨?_, ?_⟩) hHeld ?_
      rotate_left 2
      · (simp only [List.getElem?_toArray, List.getElem?_cons_zero, List.getElem?_cons_succ]; rfl)
      · exact (fun _ _ _ h => h)
      · rfl
      · (intro w hSw; (try dsimp only at hSw); go_simp; try with_reducible rfl)
      (try simp only [Act.put, List.setIfInBounds_toArray, List.set_cons_zero, List.set_cons_succ])
      refine wpAnyH_take (i := 15) (oi := ?_) (v := ?_) ?_ (by kernel_rfl) (by kernel_rfl) (by kernel_rfl) ?_ (Or.inl ⟨?_, ?_⟩) hHeld ?_
      rotate_left 2
      · (simp only [List.getElem?_toArray, List.getElem?_cons_zero, List.getElem?_cons_succ]; rfl)
      · exact (fun _ _ _ h => h)
      · rfl
      · (intro w hSw; (try dsimp only at hSw); go_simp; try with_reducible rfl)
      (try simp only [Act.put, List.setIfInBounds_toArray, List.set_cons_zero, List.set_cons_succ])
      refine wpAnyH_ready (rs := [16]) (by kernel_rfl) (by simp) ?_
      refine AllReadyH.cons (o := ?_) ?_ (fun K hK => ?_) AllReadyH.nil
      rotate_left
      · (simp only [List.getElem?_toArray, List.getElem?_cons_zero, List.getElem?_cons_succ]; rfl)
      go_simp
      (with_reducible refine (HS2.out _ _ HV.out).mono ?_)
      rintro e w3 ⟨rfl, hw3⟩
      cases hw3
      clear HV
      go_wp2_with fail
      refine hK.out _ _ (HX.out _ HB.out).2 (fun hHeld => ?_)
      clear hK K
      (try simp only [Act.put, List.setIfInBounds_toArray, List.set_cons_zero, List.set_cons_succ])
      refine wpAnyH_ready (rs := [18]) (by kernel_rfl) (by simp) ?_
      refine AllReadyH.cons (o := ?_) ?_ (fun K hK => ?_) AllReadyH.nil
      rotate_left
      · (simp only [List.getElem?_toArray, List.getElem?_cons_zero, List.getElem?_cons_succ]; rfl)
      go_simp
      (with_reducible refine (HF3.out _ HB.out).mono ?_)
      rintro e w3 ⟨v3, rfl, hv, hb⟩
      have HV := Lib.hid hv
      have HB2 := Lib.hid (below_call HB.out hb)
      have HG2 := Lib.hid (HG.out.below hb)
      clear hb HB HG hv
      have HB := HB2
      clear HB2
      have HG := HG2
      clear HG2
      go_wp2_with fail
      refine hK.out _ _ (HX.out _ HB.out).2 (fun hHeld => ?_)
      clear hK K
      (try simp only [Act.put, List.setIfInBounds_toArray, List.set_cons_zero, List.set_cons_succ])
      refine wpAnyH_take (i := 19) (oi := ?_) (v := ?_) ?_ (by kernel_rfl) (by kernel_rfl) (by kernel_rfl) ?_ (Or.inl ⟨?_, ?_⟩) hHeld ?_
      rotate_left 2
      · (simp only [List.getElem?_toArray, List.getElem?_cons_zero, List.getElem?_cons_succ]; rfl)
      · exact (fun _ _ _ h => h)
      · rfl
      · (intro w hSw; (try dsimp only at hSw); go_simp; try with_reducible rfl)
      (try simp only [Act.put, List.setIfInBounds_toArray, List.set_cons_zero, List.set_cons_succ])
      refine wpAnyH_take (i := 20) (oi := ?_) (v := ?_) ?_ (by kernel_rfl) (by kernel_rfl) (by kernel_rfl) ?_ (Or.inl ⟨?_, ?_⟩) hHeld ?_
      rotate_left 2
      · (simp only [List.getElem?_toArray, List.getElem?_cons_zero, List.getElem?_cons_succ]; rfl)
      · exact (fun _ _ _ h => h)
      · rfl
      · (intro w hSw; (try dsimp only at hSw); go_simp; try with_reducible rfl)
      (try simp only [Act.put, List.setIfInBounds_toArray, List.set_cons_zero, List.set_cons_succ])
      refine wpAnyH_ready (rs := [21]) (by kernel_rfl) (by simp) ?_
      refine AllReadyH.cons (o := ?_) ?_ (fun K hK => ?_) AllReadyH.nil
      rotate_left
      · (simp only [List.getElem?_toArray, List.getElem?_cons_zero, List.getElem?_cons_succ]; rfl)
      go_simp
      (with_reducible refine (HS3.out _ _ HV.out).mono ?_)
      rintro e w3 ⟨rfl, hw3⟩
      cases hw3
      clear HV
      go_wp2_with fail
      refine hK.out _ _ (HX.out _ HB.out).2 (fun hHeld => ?_)
      clear hK K
      (try simp only [Act.put, List.setIfInBounds_toArray, List.set_cons_zero, List.set_cons_succ])
      refine wpAnyH_ready (rs := [27]) (by kernel_rfl) (by simp) ?_
      refine AllReadyH.cons (o := ?_) ?_ (fun K hK => ?_) AllReadyH.nil
      rotate_left
      · (simp only [List.getElem?_toArray, List.getElem?_cons_zero, List.getElem?_cons_succ]; rfl)
      go_simp
      (with_reducible refine (HRO.out _ HB.out).mono ?_)
      rintro e w3 ⟨rfl, hb⟩
      have HB2 := Lib.hid (below_call HB.out hb)
      have HG2 := Lib.hid (HG.out.below hb)
      clear hb HB HG
      have HB := HB2
      clear HB2
      have HG := HG2
      clear HG2
      go_wp2_with fail
      refine hK.out _ _ (HX.out _ HB.out).2 (fun hHeld => ?_)
      clear hK K
      (try simp only [Act.put, List.setIfInBounds_toArray, List.set_cons_zero, List.set_cons_succ])
      refine wpAnyH_ready (rs := [33]) (by kernel_rfl) (by simp) ?_
      refine AllReadyH.cons (o := ?_) ?_ (fun K hK => ?_) AllReadyH.nil
      rotate_left
      · (simp only [List.getElem?_toArray, List.getElem?_cons_zero, List.getElem?_cons_succ]; rfl)
      go_simp
      (with_reducible refine (HCO.out _ HB.out).mono ?_)
      rintro e w3 ⟨vv, rfl, hc, hb⟩
      obtain ⟨av, cv, ev⟩ := hc.1.len
      have HT := Lib.hid (hc.mono HB.out.size)
      obtain ⟨n, HN⟩ : ∃ n, Hid (n = ts.length) := ⟨_, Lib.hid rfl⟩
      rw [← HN.out] at ev
      subst ev
      have HNE := Lib.hid (Cnts.ne HG.out hc)
      have HB2 := Lib.hid (below_call HB.out hb)
      have HG2 := Lib.hid (HG.out.below hb)
      clear hb HB HG hc HN
      have HB := HB2
      clear HB2
      have HG := HG2
      clear HG2
      go_wp2_with fail
      refine hK.out _ _ (HX.out _ HB.out).2 (fun hHeld => ?_)
      clear hK K
      (try simp only [Act.put, List.setIfInBounds_toArray, List.set_cons_zero, List.set_cons_succ])
      refine wpAnyH_take (i := 34) (oi := ?_) (v := ?_) ?_ (by kernel_rfl) (by kernel_rfl) (by kernel_rfl) ?_ (Or.inl ⟨?_, ?_⟩) hHeld ?_
      rotate_left 2
      · (simp only [List.getElem?_toArray, List.getElem?_cons_zero, List.getElem?_cons_succ]; rfl)
      · exact (fun _ _ _ h => h)
      · rfl
      · (intro w hSw; (try dsimp only at hSw); go_simp; try with_reducible rfl)
      (try simp only [Act.put, List.setIfInBounds_toArray, List.set_cons_zero, List.set_cons_succ])
      refine wpAnyH_ready (rs := [36]) (by kernel_rfl) (by simp) ?_
      refine AllReadyH.cons (o := ?_) ?_ (fun K hK => ?_) AllReadyH.nil
      rotate_left
      · (simp only [List.getElem?_toArray, List.getElem?_cons_zero, List.getElem?_cons_succ]; rfl)
      obtain ⟨d0, d1, d2, d3, d4, d5, d6, d7, d8, d9, d10, d11⟩ := cells12 HG.out
      obtain ⟨f0, f1, f2, f3, f4, f5, f6, f7, f8, f9, f10, f11⟩ := frz12 HG.out
      go_simp
      have HB2 := Lib.hid (bel12 HB.out HGL.out (.bool a) (.bool b') (.bool c) (.bool d) (.bool s) (.bool l) (.bool o) (.int .i64 m) (.bool false) (.bool false) (.int .i64 r) (.slice av n cv))
      have HG2 := Lib.hid (set12 HG.out (.bool a) (.bool b') (.bool c) (.bool d) (.bool s) (.bool l) (.bool o) (.int .i64 m) (.bool false) (.bool false) (.int .i64 r) (.slice av n cv))
      have HT2 := Lib.hid (HT.out.apart (keep12 (G := fun z => z = _) rfl (.bool a) (.bool b') (.bool c) (.bool d) (.bool s) (.bool l) (.bool o) (.int .i64 m) (.bool false) (.bool false) (.int .i64 r) (.slice av n cv)) HNE.out)
      refine hK.out _ _ (HX.out _ HB2.out).2 (fun hHeld => ?_)
      clear hK K
      (try simp only [Act.put, List.setIfInBounds_toArray, List.set_cons_zero, List.set_cons_succ])
      refine wpAnyH_done (by kernel_rfl) ?_ _
      clear d0 d1 d2 d3 d4 d5 d6 d7 d8 d9 d10 d11 f0 f1 f2 f3 f4 f5 f6 f7 f8 f9 f10 f11
      go_wp2_with fail
      go_meet
      exact ⟨_, av, n, cv, rfl, HGL, HB2, HG2, HT2, HNE⟩
    go_simp
    (with_reducible refine (HF2.out _ HB.out).mono ?_)
    rintro e w3 ⟨v2, rfl, hv, hb⟩
    have HV := Lib.hid hv
    have HB2 := Lib.hid (below_call HB.out hb)
    clear hb HB hv
    have HB := HB2
    clear HB2
    go_wp2_with fail
    refine hK.out _ _ (HX.out _ HB.out).2 (fun hHeld => ?_)
    clear hK K
    (try simp only [Act.put, List.setIfInBounds_toArray, List.set_cons_zero, List.set_cons_succ])
    refine wpAnyH_take (i := 14) (oi := ?_) (v := ?_) ?_ (by kernel_rfl) (by kernel_rfl) (by kernel_rfl) ?_ (Or.inl ⟨?_, ?_⟩) hHeld ?_
    rotate_left 2
    · (simp only [List.getElem?_toArray, List.getElem?_cons_zero, List.getElem?_cons_succ]; rfl)
    · exact (fun _ _ _ h => h)
    · rfl
    · (intro w hSw; (try dsimp only at hSw); go_simp; try with_reducible rfl)
    (try simp only [Act.put, List.setIfInBounds_toArray, List.set_cons_zero, List.set_cons_succ])
    refine wpAnyH_take (i := 15) (oi := ?_) (v := ?_) ?_ (by kernel_rfl) (by kernel_rfl) (by kernel_rfl) ?_ (Or.inl ⟨?_, ?_⟩) hHeld ?_
    rotate_left 2
    · (simp only [List.getElem?_toArray, List.getElem?_cons_zero, List.getElem?_cons_succ]; rfl)
    · exact (fun _ _ _ h => h)
    · rfl
    · (intro w hSw; (try dsimp only at hSw); go_simp; try with_reducible rfl)
    (try simp only [Act.put, List.setIfInBounds_toArray, List.set_cons_zero, List.set_cons_succ])
    refine wpAnyH_ready (rs := [16, 35]) (by kernel_rfl) (by simp) ?_
    refine AllReadyH.cons (o := ?_) ?_ (fun K hK => ?_) ?_
    rotate_left
    · (simp only [List.getElem?_toArray, List.getElem?_cons_zero, List.getElem?_cons_succ]; rfl)
    rotate_left
    · refine AllReadyH.cons (o := ?_) ?_ (fun K hK => ?_) AllReadyH.nil
      rotate_left
      · (simp only [List.getElem?_toArray, List.getElem?_cons_zero, List.getElem?_cons_succ]; rfl)
      go_simp
      obtain ⟨wn, hwn, hsz, hbel, hblk⟩ := made_in HB.out
      rw [← hwn]
      have HGL := Lib.hid hsz
      have HG := Lib.hid hblk
      have HV2 := Lib.hid (HV.out.below (w' := wn) (by rw [hwn]; exact below_alloc (Below.refl _ _) _))
      clear HV
      have HV := HV2
      clear HV2
      clear HB
      have HB := Lib.hid hbel
      clear hwn hsz hbel hblk
      refine hK.out _ _ (HX.out _ HB.out).2 (fun hHeld => ?_)
      clear hK K
      (try simp only [Act.put, List.setIfInBounds_toArray, List.set_cons_zero, List.set_cons_succ])
      refine wpAnyH_ready (rs := [16]) (by kernel_rfl) (by simp) ?_
      refine AllReadyH.cons (o := ?_) ?_ (fun K hK => ?_) AllReadyH.nil
      rotate_left
      · (simp only [List.getElem?_toArray, List.getElem?_cons_zero, List.getElem?_cons_succ]; rfl)
      go_simp
      (with_reducible refine (HS2.out _ _ HV.out).mono ?_)
      rintro e w3 ⟨rfl, hw3⟩
      cases hw3
      clear HV
      go_wp2_with fail
      refine hK.out _ _ (HX.out _ HB.out).2 (fun hHeld => ?_)
      clear hK K
      (try simp only [Act.put, List.setIfInBounds_toArray, List.set_cons_zero, List.set_cons_succ])
      refine wpAnyH_ready (rs := [18]) (by kernel_rfl) (by simp) ?_
      refine AllReadyH.cons (o := ?_) ?_ (fun K hK => ?_) AllReadyH.nil
      rotate_left
      · (simp only [List.getElem?_toArray, List.getElem?_cons_zero, List.getElem?_cons_succ]; rfl)
      go_simp
      (with_reducible refine (HF3.out _ HB.out).mono ?_)
      rintro e w3 ⟨v3, rfl, hv, hb⟩
      have HV := Lib.hid hv
      have HB2 := Lib.hid (below_call HB.out hb)
      have HG2 := Lib.hid (HG.out.below hb)
      clear hb HB HG hv
      have HB := HB2
      clear HB2
      have HG := HG2
      clear HG2
      go_wp2_with fail
      refine hK.out _ _ (HX.out _ HB.out).2 (fun hHeld => ?_)
      clear hK K
      (try simp only [Act.put, List.setIfInBounds_toArray, List.set_cons_zero, List.set_cons_succ])
      refine wpAnyH_take (i := 19) (oi := ?_) (v := ?_) ?_ (by kernel_rfl) (by kernel_rfl) (by kernel_rfl) ?_ (Or.inl ⟨?_, ?_⟩) hHeld ?_
      rotate_left 2
      · (simp only [List.getElem?_toArray, List.getElem?_cons_zero, List.getElem?_cons_succ]; rfl)
      · exact (fun _ _ _ h => h)
      · rfl
      · (intro w hSw; (try dsimp only at hSw); go_simp; try with_reducible rfl)
      (try simp only [Act.put, List.setIfInBounds_toArray, List.set_cons_zero, List.set_cons_succ])
      refine wpAnyH_take (i := 20) (oi := ?_) (v := ?_) ?_ (by kernel_rfl) (by kernel_rfl) (by kernel_rfl) ?_ (Or.inl ⟨?_, ?_⟩) hHeld ?_
      rotate_left 2
      · (simp only [List.getElem?_toArray, List.getElem?_cons_zero, List.getElem?_cons_succ]; rfl)
      · exact (fun _ _ _ h => h)
      · rfl
      · (intro w hSw; (try dsimp only at hSw); go_simp; try with_reducible rfl)
      (try simp only [Act.put, List.setIfInBounds_toArray, List.set_cons_zero, List.set_cons_succ])
      refine wpAnyH_ready (rs := [21]) (by kernel_rfl) (by simp) ?_
      refine AllReadyH.cons (o := ?_) ?_ (fun K hK => ?_) AllReadyH.nil
      rotate_left
      · (simp only [List.getElem?_toArray, List.getElem?_cons_zero, List.getElem?_cons_succ]; rfl)
      go_simp
      (with_reducible refine (HS3.out _ _ HV.out).mono ?_)
      rintro e w3 ⟨rfl, hw3⟩
      cases hw3
      clear HV
      go_wp2_with fail
      refine hK.out _ _ (HX.out _ HB.out).2 (fun hHeld => ?_)
      clear hK K
      (try simp only [Act.put, List.setIfInBounds_toArray, List.set_cons_zero, List.set_cons_succ])
      refine wpAnyH_ready (rs := [27]) (by kernel_rfl) (by simp) ?_
      refine AllReadyH.cons (o := ?_) ?_ (fun K hK => ?_) AllReadyH.nil
      rotate_left
      · (simp only [List.getElem?_toArray, List.getElem?_cons_zero, List.getElem?_cons_succ]; rfl)
      go_simp
      (with_reducible refine (HRO.out _ HB.out).mono ?_)
      rintro e w3 ⟨rfl, hb⟩
      have HB2 := Lib.hid (below_call HB.out hb)
      have HG2 := Lib.hid (HG.out.below hb)
      clear hb HB HG
      have HB := HB2
      clear HB2
      have HG := HG2
      clear HG2
      go_wp2_with fail
      refine hK.out _ _ (HX.out _ HB.out).2 (fun hHeld => ?_)
      clear hK K
      (try simp only [Act.put, List.setIfInBounds_toArray, List.set_cons_zero, List.set_cons_succ])
      refine wpAnyH_ready (rs := [33]) (by kernel_rfl) (by simp) ?_
      refine AllReadyH.cons (o := ?_) ?_ (fun K hK => ?_) AllReadyH.nil
      rotate_left
      · (simp only [List.getElem?_toArray, List.getElem?_cons_zero, List.getElem?_cons_succ]; rfl)
      go_simp
      (with_reducible refine (HCO.out _ HB.out).mono ?_)
      rintro e w3 ⟨vv, rfl, hc, hb⟩
      obtain ⟨av, cv, ev⟩ := hc.1.len
      have HT := Lib.hid (hc.mono HB.out.size)
      obtain ⟨n, HN⟩ : ∃ n, Hid (n = ts.length) := ⟨_, Lib.hid rfl⟩
      rw [← HN.out] at ev
      subst ev
      have HNE := Lib.hid (Cnts.ne HG.out hc)
      have HB2 := Lib.hid (below_call HB.out hb)
      have HG2 := Lib.hid (HG.out.below hb)
      clear hb HB HG hc HN
      have HB := HB2
      clear HB2
      have HG := HG2
      clear HG2
      go_wp2_with fail
      refine hK.out _ _ (HX.out _ HB.out).2 (fun hHeld => ?_)
      clear hK K
      (try simp only [Act.put, List.setIfInBounds_toArray, List.set_cons_zero, List.set_cons_succ])
      refine wpAnyH_take (i := 34) (oi := ?_) (v := ?_) ?_ (by kernel_rfl) (by kernel_rfl) (by kernel_rfl) ?_ (Or.inl ⟨?_, ?_⟩) hHeld ?_
      rotate_left 2
      · (simp only [List.getElem?_toArray, List.getElem?_cons_zero, List.getElem?_cons_succ]; rfl)
      · exact (fun _ _ _ h => h)
      · rfl
      · (intro w hSw; (try dsimp only at hSw); go_simp; try with_reducible rfl)
      (try simp only [Act.put, List.setIfInBounds_toArray, List.set_cons_zero, List.set_cons_succ])
      refine wpAnyH_ready (rs := [36]) (by kernel_rfl) (by simp) ?_
      refine AllReadyH.cons (o := ?_) ?_ (fun K hK => ?_) AllReadyH.nil
      rotate_left
      · (simp only [List.getElem?_toArray, List.getElem?_cons_zero, List.getElem?_cons_succ]; rfl)
      obtain ⟨d0, d1, d2, d3, d4, d5, d6, d7, d8, d9, d10, d11⟩ := cells12 HG.out
      obtain ⟨f0, f1, f2, f3, f4, f5, f6, f7, f8, f9, f10, f11⟩ := frz12 HG.out
      go_simp
      have HB2 := Lib.hid (bel12 HB.out HGL.out (.bool a) (.bool b') (.bool c) (.bool d) (.bool s) (.bool l) (.bool o) (.int .i64 m) (.bool false) (.bool false) (.int .i64 r) (.slice av n cv))
      have HG2 := Lib.hid (set12 HG.out (.bool a) (.bool b') (.bool c) (.bool d) (.bool s) (.bool l) (.bool o) (.int .i64 m) (.bool false) (.bool false) (.int .i64 r) (.slice av n cv))
      have HT2 := Lib.hid (HT.out.apart (keep12 (G := fun z => z = _) rfl (.bool a) (.bool b') (.bool c) (.bool d) (.bool s) (.bool l) (.bool o) (.int .i64 m) (.bool false) (.bool false) (.int .i64 r) (.slice av n cv)) HNE.out)
      refine hK.out _ _ (HX.out _ HB2.out).2 (fun hHeld => ?_)
      clear hK K
      (try simp only [Act.put, List.setIfInBounds_toArray, List.set_cons_zero, List.set_cons_succ])
      refine wpAnyH_done (by kernel_rfl) ?_ _
      clear d0 d1 d2 d3 d4 d5 d6 d7 d8 d9 d10 d11 f0 f1 f2 f3 f4 f5 f6 f7 f8 f9 f10 f11
      go_wp2_with fail
      go_meet
      exact ⟨_, av, n, cv, rfl, HGL, HB2, HG2, HT2, HNE⟩
    go_simp
    (with_reducible refine (HS2.out _ _ HV.out).mono ?_)
    rintro e w3 ⟨rfl, hw3⟩
    cases hw3
    clear HV
    go_wp2_with fail
    refine hK.out _ _ (HX.out _ HB.out).2 (fun hHeld => ?_)
    clear hK K
    (try simp only [Act.put, List.setIfInBounds_toArray, List.set_cons_zero, List.set_cons_succ])
    refine wpAnyH_ready (rs := [18, 35]) (by kernel_rfl) (by simp) ?_
    refine AllReadyH.cons (o := ?_) ?_ (fun K hK => ?_) ?_
    rotate_left
    · (simp only [List.getElem?_toArray, List.getElem?_cons_zero, List.getElem?_cons_succ]; rfl)
    rotate_left
    · refine AllReadyH.cons (o := ?_) ?_ (fun K hK => ?_) AllReadyH.nil
      rotate_left
      · (simp only [List.getElem?_toArray, List.getElem?_cons_zero, List.getElem?_cons_succ]; rfl)
      go_simp
      obtain ⟨wn, hwn, hsz, hbel, hblk⟩ := made_in HB.out
      rw [← hwn]
      have HGL := Lib.hid hsz
      have HG := Lib.hid hblk
      clear HB
      have HB := Lib.hid hbel
      clear hwn hsz hbel hblk
      refine hK.out _ _ (HX.out _ HB.out).2 (fun hHeld => ?_)
      clear hK K
      (try simp only [Act.put, List.setIfInBounds_toArray, List.set_cons_zero, List.set_cons_succ])
      refine wpAnyH_ready (rs := [18]) (by kernel_rfl) (by simp) ?_
      refine AllReadyH.cons (o := ?_) ?_ (fun K hK => ?_) AllReadyH.nil
      rotate_left
      · (simp only [List.getElem?_toArray, List.getElem?_cons_zero, List.getElem?_cons_succ]; rfl)
      go_simp
      (with_reducible refine (HF3.out _ HB.out).mono ?_)
      rintro e w3 ⟨v3, rfl, hv, hb⟩
      have HV := Lib.hid hv
      have HB2 := Lib.hid (below_call HB.out hb)
      have HG2 := Lib.hid (HG.out.below hb)
      clear hb HB HG hv
      have HB := HB2
      clear HB2
      have HG := HG2
      clear HG2
      go_wp2_with fail
      refine hK.out _ _ (HX.out _ HB.out).2 (fun hHeld => ?_)
      clear hK K
      (try simp only [Act.put, List.setIfInBounds_toArray, List.set_cons_zero, List.set_cons_succ])
      refine wpAnyH_take (i := 19) (oi := ?_) (v := ?_) ?_ (by kernel_rfl) (by kernel_rfl) (by kernel_rfl) ?_ (Or.inl ⟨?_, ?_⟩) hHeld ?_
      rotate_left 2
      · (simp only [List.getElem?_toArray, List.getElem?_cons_zero, List.getElem?_cons_succ]; rfl)
      · exact (fun _ _ _ h => h)
      · rfl
      · (intro w hSw; (try dsimp only at hSw); go_simp; try with_reducible rfl)
      (try simp only [Act.put, List.setIfInBounds_toArray, List.set_cons_zero, List.set_cons_succ])
      refine wpAnyH_take (i := 20) (oi := ?_) (v := ?_) ?_ (by kernel_rfl) (by kernel_rfl) (by kernel_rfl) ?_ (Or.inl ⟨?_, ?_⟩) hHeld ?_
      rotate_left 2
      · (simp only [List.getElem?_toArray, List.getElem?_cons_zero, List.getElem?_cons_succ]; rfl)
      · exact (fun _ _ _ h => h)
      · rfl
      · (intro w hSw; (try dsimp only at hSw); go_simp; try with_reducible rfl)
      (try simp only [Act.put, List.setIfInBounds_toArray, List.set_cons_zero, List.set_cons_succ])
      refine wpAnyH_ready (rs := [21]) (by kernel_rfl) (by simp) ?_
      refine AllReadyH.cons (o := ?_) ?_ (fun K hK => ?_) AllReadyH.nil
      rotate_left
      · (simp only [List.getElem?_toArray, List.getElem?_cons_zero, List.getElem?_cons_succ]; rfl)
      go_simp
      (with_reducible refine (HS3.out _ _ HV.out).mono ?_)
      rintro e w3 ⟨rfl, hw3⟩
      cases hw3
      clear HV
      go_wp2_with fail
      refine hK.out _ _ (HX.out _ HB.out).2 (fun hHeld => ?_)
      clear hK K
      (try simp only [Act.put, List.setIfInBounds_toArray, List.set_cons_zero, List.set_cons_succ])
      refine wpAnyH_ready (rs := [27]) (by kernel_rfl) (by simp) ?_
      refine AllReadyH.cons (o := ?_) ?_ (fun K hK => ?_) AllReadyH.nil
      rotate_left
      · (simp only [List.getElem?_toArray, List.getElem?_cons_zero, List.getElem?_cons_succ]; rfl)
      go_simp
      (with_reducible refine (HRO.out _ HB.out).mono ?_)
      rintro e w3 ⟨rfl, hb⟩
      have HB2 := Lib.hid (below_call HB.out hb)
      have HG2 := Lib.hid (HG.out.below hb)
      clear hb HB HG
      have HB := HB2
      clear HB2
      have HG := HG2
      clear HG2
      go_wp2_with fail
      refine hK.out _ _ (HX.out _ HB.out).2 (fun hHeld => ?_)
      clear hK K
      (try simp only [Act.put, List.setIfInBounds_toArray, List.set_cons_zero, List.set_cons_succ])
      refine wpAnyH_ready (rs := [33]) (by kernel_rfl) (by simp) ?_
      refine AllReadyH.cons (o := ?_) ?_ (fun K hK => ?_) AllReadyH.nil
      rotate_left
      · (simp only [List.getElem?_toArray, List.getElem?_cons_zero, List.getElem?_cons_succ]; rfl)
      go_simp
      (with_reducible refine (HCO.out _ HB.out).mono ?_)
      rintro e w3 ⟨vv, rfl, hc, hb⟩
      obtain ⟨av, cv, ev⟩ := hc.1.len
      have HT := Lib.hid (hc.mono HB.out.size)
      obtain ⟨n, HN⟩ : ∃ n, Hid (n = ts.length) := ⟨_, Lib.hid rfl⟩
      rw [← HN.out] at ev
      subst ev
      have HNE := Lib.hid (Cnts.ne HG.out hc)
      have HB2 := Lib.hid (below_call HB.out hb)
      have HG2 := Lib.hid (HG.out.below hb)
      clear hb HB HG hc HN
      have HB := HB2
      clear HB2
      have HG := HG2
      clear HG2
      go_wp2_with fail
      refine hK.out _ _ (HX.out _ HB.out).2 (fun hHeld => ?_)
      clear hK K
      (try simp only [Act.put, List.setIfInBounds_toArray, List.set_cons_zero, List.set_cons_succ])
      refine wpAnyH_take (i := 34) (oi := ?_) (v := ?_) ?_ (by kernel_rfl) (by kernel_rfl) (by kernel_rfl) ?_ (Or.inl ⟨?_, ?_⟩) hHeld ?_
      rotate_left 2
      · (simp only [List.getElem?_toArray, List.getElem?_cons_zero, List.getElem?_cons_succ]; rfl)
      · exact (fun _ _ _ h => h)
      · rfl
      · (intro w hSw; (try dsimp only at hSw); go_simp; try with_reducible rfl)
      (try simp only [Act.put, List.setIfInBounds_toArray, List.set_cons_zero, List.set_cons_succ])
      refine wpAnyH_ready (rs := [36]) (by kernel_rfl) (by simp) ?_
      refine AllReadyH.cons (o := ?_) ?_ (fun K hK => ?_) AllReadyH.nil
      rotate_left
      · (simp only [List.getElem?_toArray, List.getElem?_cons_zero, List.getElem?_cons_succ]; rfl)
      obtain ⟨d0, d1, d2, d3, d4, d5, d6, d7, d8, d9, d10, d11⟩ := cells12 HG.out
      obtain ⟨f0, f1, f2, f3, f4, f5, f6, f7, f8, f9, f10, f11⟩ := frz12 HG.out
      go_simp
      have HB2 := Lib.hid (bel12 HB.out HGL.out (.bool a) (.bool b') (.bool c) (.bool d) (.bool s) (.bool l) (.bool o) (.int .i64 m) (.bool false) (.bool false) (.int .i64 r) (.slice av n cv))
      have HG2 := Lib.hid (set12 HG.out (.bool a) (.bool b') (.bool c) (.bool d) (.bool s) (.bool l) (.bool o) (.int .i64 m) (.bool false) (.bool false) (.int .i64 r) (.slice av n cv))
      have HT2 := Lib.hid (HT.out.apart (keep12 (G := fun z => z = _) rfl (.bool a) (.bool b') (.bool c) (.bool d) (.bool s) (.bool l) (.bool o) (.int .i64 m) (.bool false) (.bool false) (.int .i64 r) (.slice av n cv)) HNE.out)
      refine hK.out _ _ (HX.out _ HB2.out).2 (fun hHeld => ?_)
      clear hK K
      (try simp only [Act.put, List.setIfInBounds_toArray, List.set_cons_zero, List.set_cons_succ])
      refine wpAnyH_done (by kernel_rfl) ?_ _
      clear d0 d1 d2 d3 d4 d5 d6 d7 d8 d9 d10 d11 f0 f1 f2 f3 f4 f5 f6 f7 f8 f9 f10 f11
      go_wp2_with fail
      go_meet
      exact ⟨_, av, n, cv, rfl, HGL, HB2, HG2, HT2, HNE⟩
    go_simp
    (with_reducible refine (HF3.out _ HB.out).mono ?_)
    rintro e w3 ⟨v3, rfl, hv, hb⟩
    have HV := Lib.hid hv
    have HB2 := Lib.hid (below_call HB.out hb)
    clear hb HB hv
    have HB := HB2
    clear HB2
    go_wp2_with fail
    refine hK.out _ _ (HX.out _ HB.out).2 (fun hHeld => ?_)
    clear hK K
    (try simp only [Act.put, List.setIfInBounds_toArray, List.set_cons_zero, List.set_cons_succ])
    refine wpAnyH_take (i := 19) (oi := ?_) (v := ?_) ?_ (by kernel_rfl) (by kernel_rfl) (by kernel_rfl) ?_ (Or.inl ⟨?_, ?_⟩) hHeld ?_
    rotate_left 2
    · (simp only [List.getElem?_toArray, List.getElem?_cons_zero, List.getElem?_cons_succ]; rfl)
    · exact (fun _ _ _ h => h)
    · rfl
    · (intro w hSw; (try dsimp only at hSw); go_simp; try with_reducible rfl)
    (try simp only [Act.put, List.setIfInBounds_toArray, List.set_cons_zero, List.set_cons_succ])
    refine wpAnyH_take (i := 20) (oi := ?_) (v := ?_) ?_ (by kernel_rfl) (by kernel_rfl) (by kernel_rfl) ?_ (Or.inl ⟨?_, ?_⟩) hHeld ?_
    rotate_left 2
    · (simp only [List.getElem?_toArray, List.getElem?_cons_zero, List.getElem?_cons_succ]; rfl)
    · exact (fun _ _ _ h => h)
    · rfl
    · (intro w hSw; (try dsimp only at hSw); go_simp; try with_reducible rfl)
    (try simp only [Act.put, List.setIfInBounds_toArray, List.set_cons_zero, List.set_cons_succ])
    refine wpAnyH_ready (rs := [21, 35]) (by kernel_rfl) (by simp) ?_
    refine AllReadyH.cons (o := ?_) ?_ (fun K hK => ?_) ?_
    rotate_left
    · (simp only [List.getElem?_toArray, List.getElem?_cons_zero, List.getElem?_cons_succ]; rfl)
    rotate_left
    · refine AllReadyH.cons (o := ?_) ?_ (fun K hK => ?_) AllReadyH.nil
      rotate_left
      · (simp only [List.getElem?_toArray, List.getElem?_cons_zero, List.getElem?_cons_succ]; rfl)
      go_simp
      obtain ⟨wn, hwn, hsz, hbel, hblk⟩ := made_in HB.out
      rw [← hwn]
      have HGL := Lib.hid hsz
      have HG := Lib.hid hblk
      have HV2 := Lib.hid (HV.out.below (w' := wn) (by rw [hwn]; exact below_alloc (Below.refl _ _) _))
      clear HV
      have HV := HV2
      clear HV2
      clear HB
      have HB := Lib.hid hbel
      clear hwn hsz hbel hblk
      refine hK.out _ _ (HX.out _ HB.out).2 (fun hHeld => ?_)
      clear hK K
      (try simp only [Act.put, List.setIfInBounds_toArray, List.set_cons_zero, List.set_cons_succ])
      refine wpAnyH_ready (rs := [21]) (by kernel_rfl) (by simp) ?_
      refine AllReadyH.cons (o := ?_) ?_ (fun K hK => ?_) AllReadyH.nil
      rotate_left
      · (simp only [List.getElem?_toArray, List.getElem?_cons_zero, List.getElem?_cons_succ]; rfl)
      go_simp
      (with_reducible refine (HS3.out _ _ HV.out).mono ?_)
      rintro e w3 ⟨rfl, hw3⟩
      cases hw3
      clear HV
      go_wp2_with fail
      refine hK.out _ _ (HX.out _ HB.out).2 (fun hHeld => ?_)
      clear hK K
      (try simp only [Act.put, List.setIfInBounds_toArray, List.set_cons_zero, List.set_cons_succ])
      refine wpAnyH_ready (rs := [27]) (by kernel_rfl) (by simp) ?_
      refine AllReadyH.cons (o := ?_) ?_ (fun K hK => ?_) AllReadyH.nil
      rotate_left
      · (simp only [List.getElem?_toArray, List.getElem?_cons_zero, List.getElem?_cons_succ]; rfl)
      go_simp
      (with_reducible refine (HRO.out _ HB.out).mono ?_)
      rintro e w3 ⟨rfl, hb⟩
      have HB2 := Lib.hid (below_call HB.out hb)
      have HG2 := Lib.hid (HG.out.below hb)
      clear hb HB HG
      have HB := HB2
      clear HB2
      have HG := HG2
      clear HG2
      go_wp2_with fail
      refine hK.out _ _ (HX.out _ HB.out).2 (fun hHeld => ?_)
      clear hK K
      (try simp only [Act.put, List.setIfInBounds_toArray, List.set_cons_zero, List.set_cons_succ])
      refine wpAnyH_ready (rs := [33]) (by kernel_rfl) (by simp) ?_
      refine AllReadyH.cons (o := ?_) ?_ (fun K hK => ?_) AllReadyH.nil
      rotate_left
      · (simp only [List.getElem?_toArray, List.getElem?_cons_zero, List.getElem?_cons_succ]; rfl)
      go_simp
      (with_reducible refine (HCO.out _ HB.out).mono ?_)
      rintro e w3 ⟨vv, rfl, hc, hb⟩
      obtain ⟨av, cv, ev⟩ := hc.1.len
      have HT := Lib.hid (hc.mono HB.out.size)
      obtain ⟨n, HN⟩ : ∃ n, Hid (n = ts.length) := ⟨_, Lib.hid rfl⟩
      rw [← HN.out] at ev
      subst ev
      have HNE := Lib.hid (Cnts.ne HG.out hc)
      have HB2 := Lib.hid (below_call HB.out hb)
      have HG2 := Lib.hid (HG.out.below hb)
      clear hb HB HG hc HN
      have HB := HB2
      clear HB2
      have HG := HG2
      clear HG2
      go_wp2_with fail
      refine hK.out _ _ (HX.out _ HB.out).2 (fun hHeld => ?_)
      clear hK K
      (try simp only [Act.put, List.setIfInBounds_toArray, List.set_cons_zero, List.set_cons_succ])
      refine wpAnyH_take (i := 34) (oi := ?_) (v := ?_) ?_ (by kernel_rfl) (by kernel_rfl) (by kernel_rfl) ?_ (Or.inl ⟨?_, ?_⟩) hHeld ?_
      rotate_left 2
      · (simp only [List.getElem?_toArray, List.getElem?_cons_zero, List.getElem?_cons_succ]; rfl)
      · exact (fun _ _ _ h => h)
      · rfl
      · (intro w hSw; (try dsimp only at hSw); go_simp; try with_reducible rfl)
      (try simp only [Act.put, List.setIfInBounds_toArray, List.set_cons_zero, List.set_cons_succ])
      refine wpAnyH_ready (rs := [36]) (by kernel_rfl) (by simp) ?_
      refine AllReadyH.cons (o := ?_) ?_ (fun K hK => ?_) AllReadyH.nil
      rotate_left
      · (simp only [List.getElem?_toArray, List.getElem?_cons_zero, List.getElem?_cons_succ]; rfl)
      obtain ⟨d0, d1, d2, d3, d4, d5, d6, d7, d8, d9, d10, d11⟩ := cells12 HG.out
      obtain ⟨f0, f1, f2, f3, f4, f5, f6, f7, f8, f9, f10, f11⟩ := frz12 HG.out
      go_simp
      have HB2 := Lib.hid (bel12 HB.out HGL.out (.bool a) (.bool b') (.bool c) (.bool d) (.bool s) (.bool l) (.bool o) (.int .i64 m) (.bool false) (.bool false) (.int .i64 r) (.slice av n cv))
      have HG2 := Lib.hid (set12 HG.out (.bool a) (.bool b') (.bool c) (.bool d) (.bool s) (.bool l) (.bool o) (.int .i64 m) (.bool false) (.bool false) (.int .i64 r) (.slice av n cv))
      have HT2 := Lib.hid (HT.out.apart (keep12 (G := fun z => z = _) rfl (.bool a) (.bool b') (.bool c) (.bool d) (.bool s) (.bool l) (.bool o) (.int .i64 m) (.bool false) (.bool false) (.int .i64 r) (.slice av n cv)) HNE.out)
      refine hK.out _ _ (HX.out _ HB2.out).2 (fun hHeld => ?_)
      clear hK K
      (try simp only [Act.put, List.setIfInBounds_toArray, List.set_cons_zero, List.set_cons_succ])
      refine wpAnyH_done (by kernel_rfl) ?_ _
      clear d0 d1 d2 d3 d4 d5 d6 d7 d8 d9 d10 d11 f0 f1 f2 f3 f4 f5 f6 f7 f8 f9 f10 f11
      go_wp2_with fail
      go_meet
      exact ⟨_, av, n, cv, rfl, HGL, HB2, HG2, HT2, HNE⟩
    go_simp
    (with_reducible refine (HS3.out _ _ HV.out).mono ?_)
    rintro e w3 ⟨rfl, hw3⟩
    cases hw3
    clear HV
    go_wp2_with fail
    refine hK.out _ _ (HX.out _ HB.out).2 (fun hHeld => ?_)
    clear hK K
    (try simp only [Act.put, List.setIfInBounds_toArray, List.set_cons_zero, List.set_cons_succ])
    refine wpAnyH_ready (rs := [27, 35]) (by kernel_rfl) (by simp) ?_
    refine AllReadyH.cons (o := ?_) ?_ (fun K hK => ?_) ?_
    rotate_left
    · (simp only [List.getElem?_toArray, List.getElem?_cons_zero, List.getElem?_cons_succ]; rfl)
    rotate_left
    · refine AllReadyH.cons (o := ?_) ?_ (fun K hK => ?_) AllReadyH.nil
      rotate_left
      · (simp only [List.getElem?_toArray, List.getElem?_cons_zero, List.getElem?_cons_succ]; rfl)
      go_simp
      obtain ⟨wn, hwn, hsz, hbel, hblk⟩ := made_in HB.out
      rw [← hwn]
      have HGL := Lib.hid hsz
      have HG := Lib.hid hblk
      clear HB
      have HB := Lib.hid hbel
      clear hwn hsz hbel hblk
      refine hK.out _ _ (HX.out _ HB.out).2 (fun hHeld => ?_)
      clear hK K
      (try simp only [Act.put, List.setIfInBounds_toArray, List.set_cons_zero, List.set_cons_succ])
      refine wpAnyH_ready (rs := [27]) (by kernel_rfl) (by simp) ?_
      refine AllReadyH.cons (o := ?_) ?_ (fun K hK => ?_) AllReadyH.nil
      rotate_left
      · (simp only [List.getElem?_toArray, List.getElem?_cons_zero, List.getElem?_cons_succ]; rfl)
      go_simp
      (with_reducible refine (HRO.out _ HB.out).mono ?_)
      rintro e w3 ⟨rfl, hb⟩
      have HB2 := Lib.hid (below_call HB.out hb)
      have HG2 := Lib.hid (HG.out.below hb)
      clear hb HB HG
      have HB := HB2
      clear HB2
      have HG := HG2
      clear HG2
      go_wp2_with fail
      refine hK.out _ _ (HX.out _ HB.out).2 (fun hHeld => ?_)
      clear hK K
      (try simp only [Act.put, List.setIfInBounds_toArray, List.set_cons_zero, List.set_cons_succ])
      refine wpAnyH_ready (rs := [33]) (by kernel_rfl) (by simp) ?_
      refine AllReadyH.cons (o := ?_) ?_ (fun K hK => ?_) AllReadyH.nil
      rotate_left
      · (simp only [List.getElem?_toArray, List.getElem?_cons_zero, List.getElem?_cons_succ]; rfl)
      go_simp
      (with_reducible refine (HCO.out _ HB.out).mono ?_)
      rintro e w3 ⟨vv, rfl, hc, hb⟩
      obtain ⟨av, cv, ev⟩ := hc.1.len
      have HT := Lib.hid (hc.mono HB.out.size)
      obtain ⟨n, HN⟩ : ∃ n, Hid (n = ts.length) := ⟨_, Lib.hid rfl⟩
      rw [← HN.out] at ev
      subst ev
      have HNE := Lib.hid (Cnts.ne HG.out hc)
      have HB2 := Lib.hid (below_call HB.out hb)
      have HG2 := Lib.hid (HG.out.below hb)
      clear hb HB HG hc HN
      have HB := HB2
      clear HB2
      have HG := HG2
      clear HG2
      go_wp2_with fail
      refine hK.out _ _ (HX.out _ HB.out).2 (fun hHeld => ?_)
      clear hK K
      (try simp only [Act.put, List.setIfInBounds_toArray, List.set_cons_zero, List.set_cons_succ])
      refine wpAnyH_take (i := 34) (oi := ?_) (v := ?_) ?_ (by kernel_rfl) (by kernel_rfl) (by kernel_rfl) ?_ (Or.inl ⟨?_, ?_⟩) hHeld ?_
      rotate_left 2
      · (simp only [List.getElem?_toArray, List.getElem?_cons_zero, List.getElem?_cons_succ]; rfl)
      · exact (fun _ _ _ h => h)
      · rfl
      · (intro w hSw; (try dsimp only at hSw); go_simp; try with_reducible rfl)
      (try simp only [Act.put, List.setIfInBounds_toArray, List.set_cons_zero, List.set_cons_succ])
      refine wpAnyH_ready (rs := [36]) (by kernel_rfl) (by simp) ?_
      refine AllReadyH.cons (o := ?_) ?_ (fun K hK => ?_) AllReadyH.nil
      rotate_left
      · (simp only [List.getElem?_toArray, List.getElem?_cons_zero, List.getElem?_cons_succ]; rfl)
      obtain ⟨d0, d1, d2, d3, d4, d5, d6, d7, d8, d9, d10, d11⟩ := cells12 HG.out
      obtain ⟨f0, f1, f2, f3, f4, f5, f6, f7, f8, f9, f10, f11⟩ := frz12 HG.out
      go_simp
      have HB2 := Lib.hid (bel12 HB.out HGL.out (.bool a) (.bool b') (.bool c) (.bool d) (.bool s) (.bool l) (.bool o) (.int .i64 m) (.bool false) (.bool false) (.int .i64 r) (.slice av n cv))
      have HG2 := Lib.hid (set12 HG.out (.bool a) (.bool b') (.bool c) (.bool d) (.bool s) (.bool l) (.bool o) (.int .i64 m) (.bool false) (.bool false) (.int .i64 r) (.slice av n cv))
      have HT2 := Lib.hid (HT.out.apart (keep12 (G := fun z => z = _) rfl (.bool a) (.bool b') (.bool c) (.bool d) (.bool s) (.bool l) (.bool o) (.int .i64 m) (.bool false) (.bool false) (.int .i64 r) (.slice av n cv)) HNE.out)
      refine hK.out _ _ (HX.out _ HB2.out).2 (fun hHeld => ?_)
      clear hK K
      (try simp only [Act.put, List.setIfInBounds_toArray, List.set_cons_zero, List.set_cons_succ])
      refine wpAnyH_done (by kernel_rfl) ?_ _
      clear d0 d1 d2 d3 d4 d5 d6 d7 d8 d9 d10 d11 f0 f1 f2 f3 f4 f5 f6 f7 f8 f9 f10 f11
      go_wp2_with fail
      go_meet
      exact ⟨_, av, n, cv, rfl, HGL, HB2, HG2, HT2, HNE⟩
    go_simp
    (with_reducible refine (HRO.out _ HB.out).mono ?_)
    rintro e w3 ⟨rfl, hb⟩
    have HB2 := Lib.hid (below_call HB.out hb)
    clear hb HB
    have HB := HB2
    clear HB2
    go_wp2_with fail
    refine hK.out _ _ (HX.out _ HB.out).2 (fun hHeld => ?_)
    clear hK K
    (try simp only [Act.put, List.setIfInBounds_toArray, List.set_cons_zero, List.set_cons_succ])
    refine wpAnyH_ready (rs := [33, 35]) (by kernel_rfl) (by simp) ?_
    refine AllReadyH.cons (o := ?_) ?_ (fun K hK => ?_) ?_
    rotate_left
    · (simp only [List.getElem?_toArray, List.getElem?_cons_zero, List.getElem?_cons_succ]; rfl)
    rotate_left
    · refine AllReadyH.cons (o := ?_) ?_ (fun K hK => ?_) AllReadyH.nil
      rotate_left
      · (simp only [List.getElem?_toArray, List.getElem?_cons_zero, List.getElem?_cons_succ]; rfl)
      go_simp
      obtain ⟨wn, hwn, hsz, hbel, hblk⟩ := made_in HB.out
      rw [← hwn]
      have HGL := Lib.hid hsz
      have HG := Lib.hid hblk
      clear HB
      have HB := Lib.hid hbel
      clear hwn hsz hbel hblk
      refine hK.out _ _ (HX.out _ HB.out).2 (fun hHeld => ?_)
      clear hK K
      (try simp only [Act.put, List.setIfInBounds_toArray, List.set_cons_zero, List.set_cons_succ])
      refine wpAnyH_ready (rs := [33]) (by kernel_rfl) (by simp) ?_
      refine AllReadyH.cons (o := ?_) ?_ (fun K hK => ?_) AllReadyH.nil
      rotate_left
      · (simp only [List.getElem?_toArray, List.getElem?_cons_zero, List.getElem?_cons_succ]; rfl)
      go_simp
      (with_reducible refine (HCO.out _ HB.out).mono ?_)
      rintro e w3 ⟨vv, rfl, hc, hb⟩
      obtain ⟨av, cv, ev⟩ := hc.1.len
      have HT := Lib.hid (hc.mono HB.out.size)
      obtain ⟨n, HN⟩ : ∃ n, Hid (n = ts.length) := ⟨_, Lib.hid rfl⟩
      rw [← HN.out] at ev
      subst ev
      have HNE := Lib.hid (Cnts.ne HG.out hc)
      have HB2 := Lib.hid (below_call HB.out hb)
      have HG2 := Lib.hid (HG.out.below hb)
      clear hb HB HG hc HN
      have HB := HB2
      clear HB2
      have HG := HG2
      clear HG2
      go_wp2_with fail
      refine hK.out _ _ (HX.out _ HB.out).2 (fun hHeld => ?_)
      clear hK K
      (try simp only [Act.put, List.setIfInBounds_toArray, List.set_cons_zero, List.set_cons_succ])
      refine wpAnyH_take (i := 34) (oi := ?_) (v := ?_) ?_ (by kernel_rfl) (by kernel_rfl) (by kernel_rfl) ?_ (Or.inl ⟨?_, ?_⟩) hHeld ?_
      rotate_left 2
      · (simp only [List.getElem?_toArray, List.getElem?_cons_zero, List.getElem?_cons_succ]; rfl)
      · exact (fun _ _ _ h => h)
      · rfl
      · (intro w hSw; (try dsimp only at hSw); go_simp; try with_reducible rfl)
      (try simp only [Act.put, List.setIfInBounds_toArray, List.set_cons_zero, List.set_cons_succ])
      refine wpAnyH_ready (rs := [36]) (by kernel_rfl) (by simp) ?_
      refine AllReadyH.cons (o := ?_) ?_ (fun K hK => ?_) AllReadyH.nil
      rotate_left
      · (simp only [List.getElem?_toArray, List.getElem?_cons_zero, List.getElem?_cons_succ]; rfl)
      obtain ⟨d0, d1, d2, d3, d4, d5, d6, d7, d8, d9, d10, d11⟩ := cells12 HG.out
      obtain ⟨f0, f1, f2, f3, f4, f5, f6, f7, f8, f9, f10, f11⟩ := frz12 HG.out
      go_simp
      have HB2 := Lib.hid (bel12 HB.out HGL.out (.bool a) (.bool b') (.bool c) (.bool d) (.bool s) (.bool l) (.bool o) (.int .i64 m) (.bool false) (.bool false) (.int .i64 r) (.slice av n cv))
      have HG2 := Lib.hid (set12 HG.out (.bool a) (.bool b') (.bool c) (.bool d) (.bool s) (.bool l) (.bool o) (.int .i64 m) (.bool false) (.bool false) (.int .i64 r) (.slice av n cv))
      have HT2 := Lib.hid (HT.out.apart (keep12 (G := fun z => z = _) rfl (.bool a) (.bool b') (.bool c) (.bool d) (.bool s) (.bool l) (.bool o) (.int .i64 m) (.bool false) (.bool false) (.int .i64 r) (.slice av n cv)) HNE.out)
      refine hK.out _ _ (HX.out _ HB2.out).2 (fun hHeld => ?_)
      clear hK K
      (try simp only [Act.put, List.setIfInBounds_toArray, List.set_cons_zero, List.set_cons_succ])
      refine wpAnyH_done (by kernel_rfl) ?_ _
      clear d0 d1 d2 d3 d4 d5 d6 d7 d8 d9 d10 d11 f0 f1 f2 f3 f4 f5 f6 f7 f8 f9 f10 f11
      go_wp2_with fail
      go_meet
      exact ⟨_, av, n, cv, rfl, HGL, HB2, HG2, HT2, HNE⟩
    go_simp
    (with_reducible refine (HCO.out _ HB.out).mono ?_)
    rintro e w3 ⟨vv, rfl, hc, hb⟩
    obtain ⟨av, cv, ev⟩ := hc.1.len
    have HT := Lib.hid (hc.mono HB.out.size)
    obtain ⟨n, HN⟩ : ∃ n, Hid (n = ts.length) := ⟨_, Lib.hid rfl⟩
    rw [← HN.out] at ev
    subst ev
    have HB2 := Lib.hid (below_call HB.out hb)
    clear hb HB hc HN
    have HB := HB2
    clear HB2
    go_wp2_with fail
    refine hK.out _ _ (HX.out _ HB.out).2 (fun hHeld => ?_)
    clear hK K
    (try simp only [Act.put, List.setIfInBounds_toArray, List.set_cons_zero, List.set_cons_succ])
    refine wpAnyH_take (i := 34) (oi := ?_) (v := ?_) ?_ (by kernel_rfl) (by kernel_rfl) (by kernel_rfl) ?_ (Or.inl ⟨?_, ?_⟩) hHeld ?_
    rotate_left 2
    · (simp only [List.getElem?_toArray, List.getElem?_cons_zero, List.getElem?_cons_succ]; rfl)
    · exact (fun _ _ _ h => h)
    · rfl
    · (intro w hSw; (try dsimp only at hSw); go_simp; try with_reducible rfl)
    (try simp only [Act.put, List.setIfInBounds_toArray, List.set_cons_zero, List.set_cons_succ])
    refine wpAnyH_ready (rs := [35]) (by kernel_rfl) (by simp) ?_
    refine AllReadyH.cons (o := ?_) ?_ (fun K hK => ?_) AllReadyH.nil
    rotate_left
    · (simp only [List.getElem?_toArray, List.getElem?_cons_zero, List.getElem?_cons_succ]; rfl)
    go_simp
    obtain ⟨wn, hwn, hsz, hbel, hblk⟩ := made_in HB.out
    rw [← hwn]
    have HGL := Lib.hid hsz
    have HG := Lib.hid hblk
    have HNE := Lib.hid (fun (p : Addr) (hp : av = some p) => Nat.ne_of_lt (HT.out.blt HTL.out p hp))
    have HT2 := Lib.hid (HT.out.below (w2 := wn) (by rw [hwn]; exact below_alloc (Below.refl _ _) _))
    clear HT
    have HT := HT2
    clear HT2
    clear HB
    have HB := Lib.hid hbel
    clear hwn hsz hbel hblk
    refine hK.out _ _ (HX.out _ HB.out).2 (fun hHeld => ?_)
    clear hK K
    (try simp only [Act.put, List.setIfInBounds_toArray, List.set_cons_zero, List.set_cons_succ])
    refine wpAnyH_ready (rs := [36]) (by kernel_rfl) (by simp) ?_
    refine AllReadyH.cons (o := ?_) ?_ (fun K hK => ?_) AllReadyH.nil
    rotate_left
    · (simp only [List.getElem?_toArray, List.getElem?_cons_zero, List.getElem?_cons_succ]; rfl)
    obtain ⟨d0, d1, d2, d3, d4, d5, d6, d7, d8, d9, d10, d11⟩ := cells12 HG.out
    obtain ⟨f0, f1, f2, f3, f4, f5, f6, f7, f8, f9, f10, f11⟩ := frz12 HG.out
    go_simp
    have HB2 := Lib.hid (bel12 HB.out HGL.out (.bool a) (.bool b') (.bool c) (.bool d) (.bool s) (.bool l) (.bool o) (.int .i64 m) (.bool false) (.bool false) (.int .i64 r) (.slice av n cv))
    have HG2 := Lib.hid (set12 HG.out (.bool a) (.bool b') (.bool c) (.bool d) (.bool s) (.bool l) (.bool o) (.int .i64 m) (.bool false) (.bool false) (.int .i64 r) (.slice av n cv))
    have HT2 := Lib.hid (HT.out.apart (keep12 (G := fun z => z = _) rfl (.bool a) (.bool b') (.bool c) (.bool d) (.bool s) (.bool l) (.bool o) (.int .i64 m) (.bool false) (.bool false) (.int .i64 r) (.slice av n cv)) HNE.out)
    refine hK.out _ _ (HX.out _ HB2.out).2 (fun hHeld => ?_)
    clear hK K
    (try simp only [Act.put, List.setIfInBounds_toArray, List.set_cons_zero, List.set_cons_succ])
    refine wpAnyH_done (by kernel_rfl) ?_ _
    clear d0 d1 d2 d3 d4 d5 d6 d7 d8 d9 d10 d11 f0 f1 f2 f3 f4 f5 f6 f7 f8 f9 f10 f11
    go_wp2_with fail
    go_meet
    exact ⟨_, av, n, cv, rfl, HGL, HB2, HG2, HT2, HNE⟩
  case rest =>
    obtain ⟨g, av, n, cv, rfl, HGL, HB, HG, HT, HNE⟩ := hcut
    clear HF0 HF1 HF2 HF3 HS0 HS1 HS2 HS3 HSU HRO HCO HTL
    go_wp2_with fail
    (with_reducible refine (HF4.out _ HB.out).mono ?_)
    rintro e w3 ⟨v4, rfl, hv, hb⟩
    have HV := Lib.hid hv
    have HB3 := Lib.hid (below_call HB.out hb)
    have HG3 := Lib.hid (HG.out.below hb)
    have HT3 := Lib.hid (HT.out.below hb)
    clear hv hb HB HG HT HF4
    go_wp2_with fail
    (with_reducible refine (HS4.out _ _ HV.out).mono ?_)
    rintro e w4 ⟨rfl, hw4⟩
    cases hw4
    clear HV HS4
    have d8 := HG3.out.cell 8 rfl
    have f8 := HG3.out.frz 8
    have d9 := HG3.out.cell 9 rfl
    have f9 := HG3.out.frz 9
    have HNG := Lib.hid (show g2 ≠ g by have := HR.out.lt; have := HGL.out; omega)
    have HG4 := Lib.hid (show Blk ((w3.setCell ⟨g, 8, none⟩ (.bool mn)).setCell ⟨g, 9, none⟩ (.bool bt)) g #[.bool a, .bool b', .bool c, .bool d, .bool s, .bool l, .bool o, .int .i64 m, .bool mn, .bool bt, .int .i64 r, .slice av n cv] 36 from (HG3.out.set_ 8 (.bool mn)).set_ 9 (.bool bt))
    have HB4 := Lib.hid (bel_set (bel_set HB3.out HGL.out 8 (.bool mn)) HGL.out 9 (.bool bt))
    have HT4 := Lib.hid (HT3.out.apart (w2 := (w3.setCell ⟨g, 8, none⟩ (.bool mn)).setCell ⟨g, 9, none⟩ (.bool bt)) (((Keep.refl (fun z => z = g) w3).store g 8 (.bool mn) rfl).store g 9 (.bool bt) rfl) HNE.out)
    have HR4 := Lib.hid (HR.out.below HB4.out)
    have HN2 := Lib.hid (fun (p : Addr) (hp : av = some p) => Nat.ne_of_gt (Nat.lt_of_lt_of_le HR.out.lt (HT4.out.2 p n cv (by rw [hp]))))
    clear HG3 HB3 HT3
    go_upto_region 4 with fail
    generalize (w3.setCell ⟨g, 8, none⟩ (.bool mn)).setCell ⟨g, 9, none⟩ (.bool bt) = w5 at *
    clear d8 f8 d9 f9
    obtain ⟨d0, d1, d2, d3, d4, d5, d6, d7, d8, d9, d10, d11⟩ := cells12 HG4.out
    obtain ⟨e0, e1, e2, e3, e4, e5, e6, e7, e8, e9, e10, e11⟩ := cells12 HR4.out
    obtain ⟨f0, f1, f2, f3, f4, f5, f6, f7, f8, f9, f10, f11⟩ := frz12 HR4.out
    go_wp2_with fail
    have HB5 := Lib.hid (bel12 (below_call HW.out HB4.out) (show wr.heap.size ≤ g2 by rw [HG2.out]; exact Nat.le_refl _) (.bool a) (.bool b') (.bool c) (.bool d) (.bool s) (.bool l) (.bool o) (.int .i64 m) (.bool mn) (.bool bt) (.int .i64 r) (.slice av n cv))
    have HR5 := Lib.hid (set12 HR4.out (.bool a) (.bool b') (.bool c) (.bool d) (.bool s) (.bool l) (.bool o) (.int .i64 m) (.bool mn) (.bool bt) (.int .i64 r) (.slice av n cv))
    have HT5 := Lib.hid (HT4.out.apart (keep12 (G := fun z => z = g2) rfl (.bool a) (.bool b') (.bool c) (.bool d) (.bool s) (.bool l) (.bool o) (.int .i64 m) (.bool mn) (.bool bt) (.int .i64 r) (.slice av n cv)) HN2.out)
    obtain ⟨k0, k1, k2, k3, k4, k5, k6, k7, k8, k9, k10, k11⟩ := cells12 HR5.out
    refine bodyPost_ret (v := .agg #[.bool a, .bool b', .bool c, .bool d, .bool s, .bool l, .bool o, .int .i64 m, .bool mn, .bool bt, .int .i64 r, .slice av n cv]) ?_ rfl ⟨_, rfl, HT5.out.mono HW.out.size, HB5.out⟩
    rw [results_cell1 rfl]
    unfold put12 at k0 k1 k2 k3 k4 k5 k6 k7 k8 k9 k10 k11
    go_simp
end Go.Proofs.YtolfdfbhignniaaDoor
