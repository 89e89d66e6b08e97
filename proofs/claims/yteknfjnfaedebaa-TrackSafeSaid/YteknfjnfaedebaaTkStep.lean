/-
  Step of track by a contract.
-/
import Derived.Test.YteknfjnfaedebaaTkCalls
import Derived.Test.YteknfjnfaedebaaAxCall
import Derived.Deep.RegionWith
import Derived.Deep.CutRange
import Derived.Deep.DeepCutAuto
import Derived.StillTailTactics
import Derived.Deep.RegionHeld3
namespace Go.Proofs.Yteknfjnfaedebaa
open Go.RowKit

theorem Blk.c11 {w : World} {g : Nat} {T : TypeId} {c0 c1 c2 c3 c4 c5 c6 c7 c8 c9 c10 : Value} (h : Blk w g #[c0, c1, c2, c3, c4, c5, c6, c7, c8, c9, c10] T) : w.cell? ⟨g, 0, none⟩ = some c0 ∧ w.cell? ⟨g, 1, none⟩ = some c1 ∧ w.cell? ⟨g, 2, none⟩ = some c2 ∧ w.cell? ⟨g, 3, none⟩ = some c3 ∧ w.cell? ⟨g, 4, none⟩ = some c4 ∧ w.cell? ⟨g, 5, none⟩ = some c5 ∧ w.cell? ⟨g, 6, none⟩ = some c6 ∧ w.cell? ⟨g, 7, none⟩ = some c7 ∧ w.cell? ⟨g, 8, none⟩ = some c8 ∧ w.cell? ⟨g, 9, none⟩ = some c9 ∧ w.cell? ⟨g, 10, none⟩ = some c10 := ⟨h.cell 0 rfl, h.cell 1 rfl, h.cell 2 rfl, h.cell 3 rfl, h.cell 4 rfl, h.cell 5 rfl, h.cell 6 rfl, h.cell 7 rfl, h.cell 8 rfl, h.cell 9 rfl, h.cell 10 rfl⟩
theorem Blk.f11 {w : World} {g : Nat} {T : TypeId} {C : Array Value} (h : Blk w g C T) : w.frozen? ⟨g, 0, none⟩ = false ∧ w.frozen? ⟨g, 1, none⟩ = false ∧ w.frozen? ⟨g, 2, none⟩ = false ∧ w.frozen? ⟨g, 3, none⟩ = false ∧ w.frozen? ⟨g, 4, none⟩ = false ∧ w.frozen? ⟨g, 5, none⟩ = false ∧ w.frozen? ⟨g, 6, none⟩ = false ∧ w.frozen? ⟨g, 7, none⟩ = false ∧ w.frozen? ⟨g, 8, none⟩ = false ∧ w.frozen? ⟨g, 9, none⟩ = false ∧ w.frozen? ⟨g, 10, none⟩ = false := ⟨h.frz 0, h.frz 1, h.frz 2, h.frz 3, h.frz 4, h.frz 5, h.frz 6, h.frz 7, h.frz 8, h.frz 9, h.frz 10⟩
theorem Blk.five {w : World} {g : Nat} {T : TypeId} {c0 c1 c2 c3 c4 : Value} (h : Blk w g #[c0, c1, c2, c3, c4] T) : w.cell? ⟨g, 0, none⟩ = some c0 ∧ w.cell? ⟨g, 1, none⟩ = some c1 ∧ w.cell? ⟨g, 2, none⟩ = some c2 ∧ w.cell? ⟨g, 3, none⟩ = some c3 ∧ w.cell? ⟨g, 4, none⟩ = some c4 := ⟨h.cell 0 rfl, h.cell 1 rfl, h.cell 2 rfl, h.cell 3 rfl, h.cell 4 rfl⟩
/-- A track's counters stored whole. -/
theorem Blk.putA {w : World} {g : Nat} {T : TypeId} {c0 c1 c2 c3 c4 c5 c6 c7 c8 c9 c10 : Value} (h : Blk w g #[c0, c1, c2, c3, c4, c5, c6, c7, c8, c9, c10] T) (u0 u1 u2 u3 : Value) : Blk ((((w.setCell ⟨g, 0, none⟩ u0).setCell ⟨g, 1, none⟩ u1).setCell ⟨g, 2, none⟩ u2).setCell ⟨g, 3, none⟩ u3) g #[u0, u1, u2, u3, c4, c5, c6, c7, c8, c9, c10] T := (((h.set_ 0 u0).set_ 1 u1).set_ 2 u2).set_ 3 u3
/-- A track's treadles stored whole. -/
theorem Blk.putP {w : World} {g : Nat} {T : TypeId} {c0 c1 c2 c3 c4 c5 c6 c7 c8 c9 c10 : Value} (h : Blk w g #[c0, c1, c2, c3, c4, c5, c6, c7, c8, c9, c10] T) (u4 u5 u6 : Value) : Blk (((w.setCell ⟨g, 4, none⟩ u4).setCell ⟨g, 5, none⟩ u5).setCell ⟨g, 6, none⟩ u6) g #[c0, c1, c2, c3, u4, u5, u6, c7, c8, c9, c10] T := ((h.set_ 4 u4).set_ 5 u5).set_ 6 u6
theorem Blk.putR {w7 : World} {g : Nat} {T : TypeId} {c0 c1 c2 c3 c4 c5 c6 c7 c8 c9 c10 : Value} (h : Blk w7 g #[c0, c1, c2, c3, c4, c5, c6, c7, c8, c9, c10] T) (u7 u8 u9 u10 : Value) : Blk ((((w7.setCell ⟨g, 7, none⟩ u7).setCell ⟨g, 8, none⟩ u8).setCell ⟨g, 9, none⟩ u9).setCell ⟨g, 10, none⟩ u10) g #[c0, c1, c2, c3, c4, c5, c6, u7, u8, u9, u10] T := (((h.set_ 7 u7).set_ 8 u8).set_ 9 u9).set_ 10 u10
/-- A track stored whole. -/
theorem Blk.putT {w : World} {g : Nat} {T : TypeId} {c0 c1 c2 c3 c4 c5 c6 c7 c8 c9 c10 : Value} (h : Blk w g #[c0, c1, c2, c3, c4, c5, c6, c7, c8, c9, c10] T) (u0 u1 u2 u3 u4 u5 u6 u7 u8 u9 u10 : Value) : Blk (((((((((((w.setCell ⟨g, 0, none⟩ u0).setCell ⟨g, 1, none⟩ u1).setCell ⟨g, 2, none⟩ u2).setCell ⟨g, 3, none⟩ u3).setCell ⟨g, 4, none⟩ u4).setCell ⟨g, 5, none⟩ u5).setCell ⟨g, 6, none⟩ u6).setCell ⟨g, 7, none⟩ u7).setCell ⟨g, 8, none⟩ u8).setCell ⟨g, 9, none⟩ u9).setCell ⟨g, 10, none⟩ u10) g #[u0, u1, u2, u3, u4, u5, u6, u7, u8, u9, u10] T := ((h.putA u0 u1 u2 u3).putP u4 u5 u6).putR u7 u8 u9 u10
theorem keep_putT (w : World) (g : Nat) (u0 u1 u2 u3 u4 u5 u6 u7 u8 u9 u10 : Value) : Keep (fun x => x = g) w (((((((((((w.setCell ⟨g, 0, none⟩ u0).setCell ⟨g, 1, none⟩ u1).setCell ⟨g, 2, none⟩ u2).setCell ⟨g, 3, none⟩ u3).setCell ⟨g, 4, none⟩ u4).setCell ⟨g, 5, none⟩ u5).setCell ⟨g, 6, none⟩ u6).setCell ⟨g, 7, none⟩ u7).setCell ⟨g, 8, none⟩ u8).setCell ⟨g, 9, none⟩ u9).setCell ⟨g, 10, none⟩ u10) := ((((((((((((Keep.refl (fun x => x = g) w).store g 0 u0 rfl).store g 1 u1 rfl).store g 2 u2 rfl).store g 3 u3 rfl).store g 4 u4 rfl).store g 5 u5 rfl).store g 6 u6 rfl).store g 7 u7 rfl).store g 8 u8 rfl).store g 9 u9 rfl).store g 10 u10 rfl)
theorem keep_putA (w : World) (g : Nat) (u0 u1 u2 u3 : Value) : Keep (fun x => x = g) w ((((w.setCell ⟨g, 0, none⟩ u0).setCell ⟨g, 1, none⟩ u1).setCell ⟨g, 2, none⟩ u2).setCell ⟨g, 3, none⟩ u3) := ((((Keep.refl (fun x => x = g) w).store g 0 u0 rfl).store g 1 u1 rfl).store g 2 u2 rfl).store g 3 u3 rfl
theorem keep_putP (w : World) (g : Nat) (u4 u5 u6 : Value) : Keep (fun x => x = g) w (((w.setCell ⟨g, 4, none⟩ u4).setCell ⟨g, 5, none⟩ u5).setCell ⟨g, 6, none⟩ u6) := (((Keep.refl (fun x => x = g) w).store g 4 u4 rfl).store g 5 u5 rfl).store g 6 u6 rfl
theorem Blk.put7 {w : World} {g : Nat} {T : TypeId} {c0 c1 c2 c3 c4 c5 c6 c7 c8 c9 c10 : Value} (h : Blk w g #[c0, c1, c2, c3, c4, c5, c6, c7, c8, c9, c10] T) (u : Value) : Blk (w.setCell ⟨g, 7, none⟩ u) g #[c0, c1, c2, c3, c4, c5, c6, u, c8, c9, c10] T := h.set_ 7 u
theorem Blk.put8 {w : World} {g : Nat} {T : TypeId} {c0 c1 c2 c3 c4 c5 c6 c7 c8 c9 c10 : Value} (h : Blk w g #[c0, c1, c2, c3, c4, c5, c6, c7, c8, c9, c10] T) (u : Value) : Blk (w.setCell ⟨g, 8, none⟩ u) g #[c0, c1, c2, c3, c4, c5, c6, c7, u, c9, c10] T := h.set_ 8 u
theorem Blk.put9 {w : World} {g : Nat} {T : TypeId} {c0 c1 c2 c3 c4 c5 c6 c7 c8 c9 c10 : Value} (h : Blk w g #[c0, c1, c2, c3, c4, c5, c6, c7, c8, c9, c10] T) (u : Value) : Blk (w.setCell ⟨g, 9, none⟩ u) g #[c0, c1, c2, c3, c4, c5, c6, c7, c8, u, c10] T := h.set_ 9 u
theorem Blk.put10 {w : World} {g : Nat} {T : TypeId} {c0 c1 c2 c3 c4 c5 c6 c7 c8 c9 c10 : Value} (h : Blk w g #[c0, c1, c2, c3, c4, c5, c6, c7, c8, c9, c10] T) (u : Value) : Blk (w.setCell ⟨g, 10, none⟩ u) g #[c0, c1, c2, c3, c4, c5, c6, c7, c8, c9, u] T := h.set_ 10 u
theorem keep_put1 (w : World) (g o : Nat) (u : Value) : Keep (fun x => x = g) w (w.setCell ⟨g, o, none⟩ u) := Keep.set_ w g o u rfl
/-- The blocks of a Step under way: the track, what is told of it, the delays, the answer, the track that is coming to be. -/
structure TkW (w wx : World) (T C D Z N : Array Value) : Prop where
  bel : Below w.heap.size w wx
  t : Blk wx w.heap.size T 31
  c : Blk wx (w.heap.size + 1) C 34
  d : Blk wx (w.heap.size + 1 + 1) D 23
  z : Blk wx (w.heap.size + 1 + 1 + 1) Z 31
  n : Blk wx (w.heap.size + 1 + 1 + 1 + 1) N 31
theorem tkw_new (w : World) (T C D Z N : Array Value) : TkW w (((((w.alloc (.cells T 31)).alloc (.cells C 34)).alloc (.cells D 23)).alloc (.cells Z 31)).alloc (.cells N 31)) T C D Z N := by
  have b1 := blk_new w T 31
  have b2 := blk_new (w.alloc (.cells T 31)) C 34
  have b3 := blk_new ((w.alloc (.cells T 31)).alloc (.cells C 34)) D 23
  have b4 := blk_new (((w.alloc (.cells T 31)).alloc (.cells C 34)).alloc (.cells D 23)) Z 31
  have b5 := blk_new ((((w.alloc (.cells T 31)).alloc (.cells C 34)).alloc (.cells D 23)).alloc (.cells Z 31)) N 31
  have k2 := below_alloc (Below.refl _ (w.alloc (.cells T 31))) (.cells C 34)
  have k3 := below_alloc (Below.refl _ ((w.alloc (.cells T 31)).alloc (.cells C 34))) (.cells D 23)
  have k4 := below_alloc (Below.refl _ (((w.alloc (.cells T 31)).alloc (.cells C 34)).alloc (.cells D 23))) (.cells Z 31)
  have k5 := below_alloc (Below.refl _ ((((w.alloc (.cells T 31)).alloc (.cells C 34)).alloc (.cells D 23)).alloc (.cells Z 31))) (.cells N 31)
  rw [show (w.alloc (.cells T 31)).heap.size = w.heap.size + 1 by simp] at b2
  rw [show ((w.alloc (.cells T 31)).alloc (.cells C 34)).heap.size = w.heap.size + 1 + 1 by simp] at b3
  rw [show (((w.alloc (.cells T 31)).alloc (.cells C 34)).alloc (.cells D 23)).heap.size = w.heap.size + 1 + 1 + 1 by simp] at b4
  rw [show ((((w.alloc (.cells T 31)).alloc (.cells C 34)).alloc (.cells D 23)).alloc (.cells Z 31)).heap.size = w.heap.size + 1 + 1 + 1 + 1 by simp] at b5
  exact ⟨below_alloc (below_alloc (below_alloc (below_alloc (below_alloc (Below.refl _ w) _) _) _) _) _, (((b1.below k2).below k3).below k4).below k5, ((b2.below k3).below k4).below k5, (b3.below k4).below k5, b4.below k5, b5⟩
theorem TkW.call {w wx w' : World} {T C D Z N : Array Value} (h : TkW w wx T C D Z N) (hb : Below wx.heap.size wx w') : TkW w w' T C D Z N :=
  ⟨below_call h.bel hb, h.t.below hb, h.c.below hb, h.d.below hb, h.z.below hb, h.n.below hb⟩
/-- A store into the track that is coming to be. -/
theorem TkW.put {w wx w' : World} {T C D Z N N' : Array Value} (h : TkW w wx T C D Z N) (k : Keep (fun x => x = w.heap.size + 1 + 1 + 1 + 1) wx w') (hn : Blk w' (w.heap.size + 1 + 1 + 1 + 1) N' 31) : TkW w w' T C D Z N' :=
  ⟨below_keep h.bel k (fun g e => by omega), h.t.keep k (by omega), h.c.keep k (by omega), h.d.keep k (by omega), h.z.keep k (by omega), hn⟩
set_option maxHeartbeats 8000000 in
set_option maxRecDepth 10000 in
theorem tstep_to (h : Bool) (i o : Int) (g : Bool) (l s : Int) (j cl : Bool) (n : Int) (f c : Bool) (fr : Bool) (ci co cs li : Int) (d0 d1 d2 : Int) (rs : Bool) (h' : Bool) (i' o' : Int) (g' : Bool) (l' s' : Int) (j' cl' : Bool) (n' : Int) (f' c' : Bool) (H : tks ⟨h, i, o, g, l, s, j, cl, n, f, c⟩ ⟨fr, ci, co, cs, li⟩ d0 d1 d2 rs = ⟨h', i', o', g', l', s', j', cl', n', f', c'⟩) (hs : PosR s) (w : World) : Calls Try.prog 9 #[.agg #[.bool h, .int .i64 i, .int .i64 o, .bool g, .int .i64 l, .int .i64 s, .bool j, .bool cl, .int .i64 n, .bool f, .bool c], .agg #[.bool fr, .int .i64 ci, .int .i64 co, .int .i64 cs, .int .i64 li], .agg #[.int .i64 d0, .int .i64 d1, .int .i64 d2], .bool rs] w fun e w' => e = .returned (.agg #[.bool h', .int .i64 i', .int .i64 o', .bool g', .int .i64 l', .int .i64 s', .bool j', .bool cl', .int .i64 n', .bool f', .bool c']) ∧ Below w.heap.size w w' := by
  have HW := Lib.hid (tkw_new w #[.bool h, .int .i64 i, .int .i64 o, .bool g, .int .i64 l, .int .i64 s, .bool j, .bool cl, .int .i64 n, .bool f, .bool c] #[.bool fr, .int .i64 ci, .int .i64 co, .int .i64 cs, .int .i64 li] #[.int .i64 d0, .int .i64 d1, .int .i64 d2] #[.bool false, .int .i64 0, .int .i64 0, .bool false, .int .i64 0, .int .i64 0, .bool false, .bool false, .int .i64 0, .bool false, .bool false] #[.bool h, .int .i64 i, .int .i64 o, .bool g, .int .i64 l, .int .i64 s, .bool j, .bool false, .int .i64 0, .bool false, .bool false])
  have HI := Lib.hid (tkw_new w #[.bool h, .int .i64 i, .int .i64 o, .bool g, .int .i64 l, .int .i64 s, .bool j, .bool cl, .int .i64 n, .bool f, .bool c] #[.bool fr, .int .i64 ci, .int .i64 co, .int .i64 cs, .int .i64 li] #[.int .i64 d0, .int .i64 d1, .int .i64 d2] #[.bool false, .int .i64 0, .int .i64 0, .bool false, .int .i64 0, .int .i64 0, .bool false, .bool false, .int .i64 0, .bool false, .bool false] #[.bool h, .int .i64 i, .int .i64 o, .bool g, .int .i64 l, .int .i64 s, .bool j, .bool false, .int .i64 0, .bool false, .bool false]).t
  unfold tks at H
  obtain ⟨ah, ai, ao, ag, e1⟩ : ∃ ah ai ao ag, ax1 ⟨h, i, o, g, l, s, j, cl, n, f, c⟩ ⟨fr, ci, co, cs, li⟩ = ⟨ah, ai, ao, ag⟩ := ⟨_, _, _, _, rfl⟩
  obtain ⟨pl, ps, pj, e2⟩ : ∃ pl ps pj, pr1 ⟨h, i, o, g, l, s, j, cl, n, f, c⟩ ⟨fr, ci, co, cs, li⟩ = ⟨pl, ps, pj⟩ := ⟨_, _, _, rfl⟩
  rw [e1, e2] at H
  obtain ⟨bh, bi, bo, bg, e3⟩ : ∃ bh bi bo bg, ax2 ⟨ah, ai, ao, ag⟩ rs = ⟨bh, bi, bo, bg⟩ := ⟨_, _, _, _, rfl⟩
  obtain ⟨ql, qs, qj, e4⟩ : ∃ ql qs qj, pr2 ⟨pl, ps, pj⟩ rs = ⟨ql, qs, qj⟩ := ⟨_, _, _, rfl⟩
  rw [e3, e4] at H
  have HH := Lib.hid H
  have E1 := Lib.hid e1
  have E2 := Lib.hid e2
  have E3 := Lib.hid e3
  have E4 := Lib.hid e4
  have HS := Lib.hid hs
  clear H e1 e2 e3 e4 hs
  have k1 := blk_new w #[.bool h, .int .i64 i, .int .i64 o, .bool g, .int .i64 l, .int .i64 s, .bool j, .bool cl, .int .i64 n, .bool f, .bool c] 31
  have K1 := k1.below (below_alloc (below_alloc (below_alloc (Below.refl _ (w.alloc (.cells #[.bool h, .int .i64 i, .int .i64 o, .bool g, .int .i64 l, .int .i64 s, .bool j, .bool cl, .int .i64 n, .bool f, .bool c] 31))) (.cells #[.bool fr, .int .i64 ci, .int .i64 co, .int .i64 cs, .int .i64 li] 34)) (.cells #[.int .i64 d0, .int .i64 d1, .int .i64 d2] 23)) (.cells #[.bool false, .int .i64 0, .int .i64 0, .bool false, .int .i64 0, .int .i64 0, .bool false, .bool false, .int .i64 0, .bool false, .bool false] 31))
  obtain ⟨x0, x1, x2, x3, x4, x5, x6, x7, x8, x9, x10⟩ := K1.c11
  obtain ⟨y0, y1, y2, y3, y4⟩ := HW.out.c.five
  clear k1 K1
  go_enter Try.func9, Try.ntmps9
  go_upto_if 16 with fail
  go_cut [] (fun wx => TkW w wx #[.bool h, .int .i64 i, .int .i64 o, .bool g, .int .i64 l, .int .i64 s, .bool j, .bool cl, .int .i64 n, .bool f, .bool c] #[.bool fr, .int .i64 ci, .int .i64 co, .int .i64 cs, .int .i64 li] #[.int .i64 d0, .int .i64 d1, .int .i64 d2] #[.bool false, .int .i64 0, .int .i64 0, .bool false, .int .i64 0, .int .i64 0, .bool false, .bool false, .int .i64 0, .bool false, .bool false] #[.bool ah, .int .i64 ai, .int .i64 ao, .bool ag, .int .i64 pl, .int .i64 ps, .bool pj, .bool false, .int .i64 0, .bool false, .bool false])
  case first =>
    clear x0 x1 x2 x3 x4 x5 x6 x7 x8 x9 x10 y0 y1 y2 y3 y4
    generalize (((((w.alloc (.cells #[.bool h, .int .i64 i, .int .i64 o, .bool g, .int .i64 l, .int .i64 s, .bool j, .bool cl, .int .i64 n, .bool f, .bool c] 31)).alloc (.cells #[.bool fr, .int .i64 ci, .int .i64 co, .int .i64 cs, .int .i64 li] 34)).alloc (.cells #[.int .i64 d0, .int .i64 d1, .int .i64 d2] 23)).alloc (.cells #[.bool false, .int .i64 0, .int .i64 0, .bool false, .int .i64 0, .int .i64 0, .bool false, .bool false, .int .i64 0, .bool false, .bool false] 31)).alloc (.cells #[.bool h, .int .i64 i, .int .i64 o, .bool g, .int .i64 l, .int .i64 s, .bool j, .bool false, .int .i64 0, .bool false, .bool false] 31)) = W0 at *
    obtain ⟨y0, y1, y2, y3, y4⟩ := HW.out.c.five
    cases fr
    · have e1 := E1.out
      have e2 := E2.out
      simp only [ax1, pr1, Bool.false_eq_true, if_false, Ax.mk.injEq, Pr.mk.injEq] at e1 e2
      obtain ⟨rfl, rfl, rfl, rfl⟩ := e1
      obtain ⟨rfl, rfl, rfl⟩ := e2
      go_wp2_with fail
      go_meet
      exact HW.out
    · have e1 := E1.out
      have e2 := E2.out
      simp only [ax1, pr1, if_true, stx, Ax.mk.injEq] at e1 e2
      obtain ⟨rfl, hx, hy, hr⟩ := e1
      have S1 := Lib.hid (step_ax h i o g ci co ai ao ag hx hy hr)
      have S2 := Lib.hid (step_to l s j li pl ps pj e2 HS.out)
      clear hx hy hr e2
      obtain ⟨x0, x1, x2, x3, x4, x5, x6, x7, x8, x9, x10⟩ := HW.out.t.c11
      go_wp2_with fail
      (with_reducible refine (S1.out _).mono ?_)
      rintro e w1 ⟨rfl, hb⟩
      replace HW := Lib.hid (HW.out.call hb)
      clear hb x0 x1 x2 x3 x4 x5 x6 x7 x8 x9 x10 y0 y1 y2 y3 y4
      obtain ⟨f0, f1, f2, f3, f4, f5, f6, f7, f8, f9, f10⟩ := HW.out.n.f11
      obtain ⟨z0, z1, z2, z3, z4, z5, z6, z7, z8, z9, z10⟩ := HW.out.n.c11
      replace HW := Lib.hid (HW.out.put (keep_putA w1 (w.heap.size + 1 + 1 + 1 + 1) (.bool true) (.int .i64 ai) (.int .i64 ao) (.bool ag)) (HW.out.n.putA (.bool true) (.int .i64 ai) (.int .i64 ao) (.bool ag)))
      obtain ⟨x0, x1, x2, x3, x4, x5, x6, x7, x8, x9, x10⟩ := HW.out.t.c11
      obtain ⟨y0, y1, y2, y3, y4⟩ := HW.out.c.five
      go_wp2_with fail
      (with_reducible refine (S2.out _).mono ?_)
      rintro e w2 ⟨rfl, hb⟩
      replace HW := Lib.hid (HW.out.call hb)
      clear hb x0 x1 x2 x3 x4 x5 x6 x7 x8 x9 x10 y0 y1 y2 y3 y4 f0 f1 f2 f3 f4 f5 f6 f7 f8 f9 f10 z0 z1 z2 z3 z4 z5 z6 z7 z8 z9 z10
      obtain ⟨f0, f1, f2, f3, f4, f5, f6, f7, f8, f9, f10⟩ := HW.out.n.f11
      obtain ⟨z0, z1, z2, z3, z4, z5, z6, z7, z8, z9, z10⟩ := HW.out.n.c11
      go_wp2_with fail
      go_meet
      exact HW.out.put (keep_putP w2 _ _ _ _) (HW.out.n.putP (.int .i64 pl) (.int .i64 ps) (.bool pj))
  case rest =>
    clear x0 x1 x2 x3 x4 x5 x6 x7 x8 x9 x10 y0 y1 y2 y3 y4 HW HI
    have HW := Lib.hid hcut
    clear hcut
    obtain ⟨W1, hW1⟩ : ∃ W1 : World, W1 = wc := ⟨_, rfl⟩
    subst hW1
    go_upto_if 31 with fail
    go_cut [] (fun wx => TkW w wx #[.bool h, .int .i64 i, .int .i64 o, .bool g, .int .i64 l, .int .i64 s, .bool j, .bool cl, .int .i64 n, .bool f, .bool c] #[.bool fr, .int .i64 ci, .int .i64 co, .int .i64 cs, .int .i64 li] #[.int .i64 d0, .int .i64 d1, .int .i64 d2] #[.bool false, .int .i64 0, .int .i64 0, .bool false, .int .i64 0, .int .i64 0, .bool false, .bool false, .int .i64 0, .bool false, .bool false] #[.bool bh, .int .i64 bi, .int .i64 bo, .bool bg, .int .i64 ql, .int .i64 qs, .bool qj, .bool false, .int .i64 0, .bool false, .bool false])
    case first =>
      obtain ⟨z0, z1, z2, z3, z4, z5, z6, z7, z8, z9, z10⟩ := HW.out.n.c11
      cases rs
      · have e3 := E3.out
        have e4 := E4.out
        simp only [ax2, pr2, Bool.false_eq_true, if_false, Ax.mk.injEq, Pr.mk.injEq] at e3 e4
        obtain ⟨rfl, rfl, rfl, rfl⟩ := e3
        obtain ⟨rfl, rfl, rfl⟩ := e4
        go_wp2_with fail
        go_meet
        exact HW.out
      · have e3 := E3.out
        have e4 := E4.out
        simp only [ax2, pr2, if_true, Ax.mk.injEq, Pr.mk.injEq] at e3 e4
        obtain ⟨rfl, rfl, rfl, hr⟩ := e3
        obtain ⟨rfl, rfl, hq⟩ := e4
        have S1 := Lib.hid (reset_to ah ai ao ag bg hr)
        have S2 := Lib.hid (forget_to pl ps pj qj hq)
        clear hr hq
        go_wp2_with fail
        (with_reducible refine (S1.out _).mono ?_)
        rintro e w1 ⟨rfl, hb⟩
        replace HW := Lib.hid (HW.out.call hb)
        clear hb z0 z1 z2 z3 z4 z5 z6 z7 z8 z9 z10
        obtain ⟨f0, f1, f2, f3, f4, f5, f6, f7, f8, f9, f10⟩ := HW.out.n.f11
        obtain ⟨z0, z1, z2, z3, z4, z5, z6, z7, z8, z9, z10⟩ := HW.out.n.c11
        replace HW := Lib.hid (HW.out.put (keep_putA w1 (w.heap.size + 1 + 1 + 1 + 1) (.bool ah) (.int .i64 ai) (.int .i64 ao) (.bool bg)) (HW.out.n.putA (.bool ah) (.int .i64 ai) (.int .i64 ao) (.bool bg)))
        go_wp2_with fail
        (with_reducible refine (S2.out _).mono ?_)
        rintro e w2 ⟨rfl, hb⟩
        replace HW := Lib.hid (HW.out.call hb)
        clear hb f0 f1 f2 f3 f4 f5 f6 f7 f8 f9 f10 z0 z1 z2 z3 z4 z5 z6 z7 z8 z9 z10
        obtain ⟨f0, f1, f2, f3, f4, f5, f6, f7, f8, f9, f10⟩ := HW.out.n.f11
        obtain ⟨z0, z1, z2, z3, z4, z5, z6, z7, z8, z9, z10⟩ := HW.out.n.c11
        go_wp2_with fail
        go_meet
        exact HW.out.put (keep_putP w2 _ _ _ _) (HW.out.n.putP (.int .i64 pl) (.int .i64 ps) (.bool qj))
    case rest =>
      clear HW
      have HW := Lib.hid hcut
      clear hcut
      obtain ⟨W2, hW2⟩ : ∃ W2 : World, W2 = wc := ⟨_, rfl⟩
      subst hW2
      have hh := HH.out
      simp only [tk3, Tk.mk.injEq] at hh
      obtain ⟨rfl, rfl, rfl, rfl, rfl, rfl, rfl, hcl, hn, hf, hc⟩ := hh
      obtain ⟨r1, hr1⟩ : ∃ r1, clr bh bi bo bg = r1 := ⟨_, rfl⟩
      obtain ⟨r2, hr2⟩ : ∃ r2, (decide (ql % 4 = 0) && !qj) = r2 := ⟨_, rfl⟩
      have HC1 := Lib.hid (clear_to bh bi bo bg r1 hr1)
      have HC2 := Lib.hid (rest_to ql qs qj r2 hr2)
      have HL := Lib.hid (longer_to n _ rfl)
      have HT := Lib.hid (wait_to d0 d1 d2 cs _ rfl)
      obtain ⟨m, hm⟩ : ∃ m, lng n = m := ⟨_, rfl⟩
      obtain ⟨wt, hwt⟩ : ∃ wt, wtt d0 d1 d2 cs = wt := ⟨_, rfl⟩
      rw [hm] at hn hc HL
      rw [hwt] at hc HT
      rw [hr1] at hcl hn hc
      clear hm hwt hr1
      obtain ⟨x0, x1, x2, x3, x4, x5, x6, x7, x8, x9, x10⟩ := HW.out.t.c11
      obtain ⟨y0, y1, y2, y3, y4⟩ := HW.out.c.five
      clear x0 x1 x2 x3 x4 x5 x6 x7 x9 x10
      rcases (show fr = false ∨ (fr = true ∧ bg = true) ∨ (fr = true ∧ bg = false ∧ qj = true) ∨ (fr = true ∧ bg = false ∧ qj = false) by cases fr <;> cases bg <;> cases qj <;> simp) with rfl | ⟨rfl, rfl⟩ | ⟨rfl, rfl, rfl⟩ | ⟨rfl, rfl, rfl⟩
      · clear hr2
        obtain rfl : cl' = false := by rw [← hcl]; simp
        obtain rfl : m = n' := Eq.symm <| by rw [← hn]; simp
        obtain rfl : f' = true := by rw [← hf]; simp
        obtain rfl : c' = true := by rw [← hc]; simp
        clear hcl hn hf hc
        obtain ⟨f0, f1, f2, f3, f4, f5, f6, f7, f8, f9, f10⟩ := HW.out.n.f11
        obtain ⟨z0, z1, z2, z3, z4, z5, z6, z7, z8, z9, z10⟩ := HW.out.n.c11
        have x8 := HW.out.t.cell 8 (u := .int .i64 n) rfl
        obtain ⟨y0, y1, y2, y3, y4⟩ := HW.out.c.five
        go_wp2_with fail
        replace HW := Lib.hid (HW.out.put (keep_put1 W2 (w.heap.size + 1 + 1 + 1 + 1) 9 (.bool true)) (HW.out.n.put9 (.bool true)))
        replace HW := Lib.hid (HW.out.put (keep_put1 (W2.setCell ⟨w.heap.size + 1 + 1 + 1 + 1, 9, none⟩ (.bool true)) (w.heap.size + 1 + 1 + 1 + 1) 7 (.bool false)) (HW.out.n.put7 (.bool false)))
        (with_reducible refine (HL.out _).mono ?_)
        rintro e wl ⟨rfl, rfl⟩
        replace HW := Lib.hid (HW.out.put (keep_put1 ((W2.setCell ⟨w.heap.size + 1 + 1 + 1 + 1, 9, none⟩ (.bool true)).setCell ⟨w.heap.size + 1 + 1 + 1 + 1, 7, none⟩ (.bool false)) (w.heap.size + 1 + 1 + 1 + 1) 8 (.int .i64 m)) (HW.out.n.put8 (.int .i64 m)))
        go_upto_region 12 with fail
        clear f0 f1 f2 f3 f4 f5 f6 f7 f8 f9 f10 z0 z1 z2 z3 z4 z5 z6 z7 z8 z9 z10 x8 y0 y1 y2 y3 y4
        generalize ((W2.setCell ⟨w.heap.size + 1 + 1 + 1 + 1, 9, none⟩ (.bool true)).setCell ⟨w.heap.size + 1 + 1 + 1 + 1, 7, none⟩ (.bool false)).setCell ⟨w.heap.size + 1 + 1 + 1 + 1, 8, none⟩ (.int .i64 m) = W3 at *
        obtain ⟨f0, f1, f2, f3, f4, f5, f6, f7, f8, f9, f10⟩ := HW.out.n.f11
        obtain ⟨z0, z1, z2, z3, z4, z5, z6, z7, z8, z9, z10⟩ := HW.out.n.c11
        have x8 := HW.out.t.cell 8 (u := .int .i64 n) rfl
        obtain ⟨y0, y1, y2, y3, y4⟩ := HW.out.c.five
        go_cut [] (fun wx => TkW w wx #[.bool h, .int .i64 i, .int .i64 o, .bool g, .int .i64 l, .int .i64 s, .bool j, .bool cl, .int .i64 n, .bool f, .bool c] #[.bool false, .int .i64 ci, .int .i64 co, .int .i64 cs, .int .i64 li] #[.int .i64 d0, .int .i64 d1, .int .i64 d2] #[.bool false, .int .i64 0, .int .i64 0, .bool false, .int .i64 0, .int .i64 0, .bool false, .bool false, .int .i64 0, .bool false, .bool false] #[.bool bh, .int .i64 bi, .int .i64 bo, .bool bg, .int .i64 ql, .int .i64 qs, .bool qj, .bool false, .int .i64 m, .bool true, .bool true])
        case first =>
          clear f0 f1 f2 f3 f4 f5 f6 f7 f8 f9 f10 z0 z1 z2 z3 z4 z5 z6 z7 z8 z9 z10 x8 y0 y1 y2 y3 y4
          refine wp_region_held_drew (S := (fun wx => ∃ v : Value, TkW w wx #[.bool h, .int .i64 i, .int .i64 o, .bool g, .int .i64 l, .int .i64 s, .bool j, .bool cl, .int .i64 n, .bool f, .bool c] #[.bool false, .int .i64 ci, .int .i64 co, .int .i64 cs, .int .i64 li] #[.int .i64 d0, .int .i64 d1, .int .i64 d2] #[.bool false, .int .i64 0, .int .i64 0, .bool false, .int .i64 0, .int .i64 0, .bool false, .bool false, .int .i64 0, .bool false, .bool false] #[.bool bh, .int .i64 bi, .int .i64 bo, .bool bg, .int .i64 ql, .int .i64 qs, .bool qj, .bool false, .int .i64 m, .bool true, v])) (by kernel_rfl) ⟨_, HW.out.call (bel_drew _)⟩ (fun hHeld => ?_)
          refine wpAnyH_take (i := 0) (oi := ?_) (v := ?_) ?_ (by kernel_rfl) (by kernel_rfl) (by kernel_rfl) ?_ (Or.inl ⟨?_, ?_⟩) hHeld ?_
          rotate_left 2
          · (simp only [List.getElem?_toArray, List.getElem?_cons_zero]; rfl)
          · exact (fun _ _ _ h => h)
          · rfl
          · (intro w hSw; (try dsimp only at hSw); go_simp; try with_reducible rfl)
          (try simp only [Act.put, List.setIfInBounds_toArray, List.set_cons_zero, List.set_cons_succ])
          refine wpAnyH_take (i := 1) (oi := ?_) (v := ?_) ?_ (by kernel_rfl) (by kernel_rfl) (by kernel_rfl) ?_ (Or.inl ⟨?_, ?_⟩) hHeld ?_
          rotate_left 2
          · (simp only [List.getElem?_toArray, List.getElem?_cons_zero, List.getElem?_cons_succ]; rfl)
          · exact (fun _ _ _ h => h)
          · rfl
          · (intro w hSw; (try dsimp only at hSw); obtain ⟨_, hSw⟩ := hSw; obtain ⟨z0, z1, z2, z3, z4, z5, z6, z7, z8, z9, z10⟩ := hSw.n.c11; go_simp; try with_reducible rfl)
          (try simp only [Act.put, List.setIfInBounds_toArray, List.set_cons_zero, List.set_cons_succ])
          refine wpAnyH_take (i := 2) (oi := ?_) (v := ?_) ?_ (by kernel_rfl) (by kernel_rfl) (by kernel_rfl) ?_ (Or.inl ⟨?_, ?_⟩) hHeld ?_
          rotate_left 2
          · (simp only [List.getElem?_toArray, List.getElem?_cons_zero, List.getElem?_cons_succ]; rfl)
          · exact (fun _ _ _ h => h)
          · rfl
          · (intro w hSw; (try dsimp only at hSw); go_simp; try with_reducible rfl)
          (try simp only [Act.put, List.setIfInBounds_toArray, List.set_cons_zero, List.set_cons_succ])
          refine wpAnyH_take (i := 3) (oi := ?_) (v := undef) ?_ (by kernel_rfl) (by kernel_rfl) (by kernel_rfl) ?_ (Or.inr ⟨?_, rfl⟩) hHeld ?_
          rotate_left 1
          · (simp only [List.getElem?_toArray, List.getElem?_cons_zero, List.getElem?_cons_succ]; rfl)
          · exact (fun _ _ _ h => h)
          · rfl
          (try simp only [Act.put, List.setIfInBounds_toArray, List.set_cons_zero, List.set_cons_succ])
          refine wpAnyH_take (i := 4) (oi := ?_) (v := undef) ?_ (by kernel_rfl) (by kernel_rfl) (by kernel_rfl) ?_ (Or.inr ⟨?_, rfl⟩) hHeld ?_
          rotate_left 1
          · (simp only [List.getElem?_toArray, List.getElem?_cons_zero, List.getElem?_cons_succ]; rfl)
          · exact (fun _ _ _ h => h)
          · rfl
          (try simp only [Act.put, List.setIfInBounds_toArray, List.set_cons_zero, List.set_cons_succ])
          refine wpAnyH_take (i := 5) (oi := ?_) (v := undef) ?_ (by kernel_rfl) (by kernel_rfl) (by kernel_rfl) ?_ (Or.inr ⟨?_, rfl⟩) hHeld ?_
          rotate_left 1
          · (simp only [List.getElem?_toArray, List.getElem?_cons_zero, List.getElem?_cons_succ]; rfl)
          · exact (fun _ _ _ h => h)
          · rfl
          (try simp only [Act.put, List.setIfInBounds_toArray, List.set_cons_zero, List.set_cons_succ])
          refine wpAnyH_take (i := 6) (oi := ?_) (v := undef) ?_ (by kernel_rfl) (by kernel_rfl) (by kernel_rfl) ?_ (Or.inr ⟨?_, rfl⟩) hHeld ?_
          rotate_left 1
          · (simp only [List.getElem?_toArray, List.getElem?_cons_zero, List.getElem?_cons_succ]; rfl)
          · exact (fun _ _ _ h => h)
          · rfl
          (try simp only [Act.put, List.setIfInBounds_toArray, List.set_cons_zero, List.set_cons_succ])
          refine wpAnyH_take (i := 7) (oi := ?_) (v := undef) ?_ (by kernel_rfl) (by kernel_rfl) (by kernel_rfl) ?_ (Or.inr ⟨?_, rfl⟩) hHeld ?_
          rotate_left 1
          · (simp only [List.getElem?_toArray, List.getElem?_cons_zero, List.getElem?_cons_succ]; rfl)
          · exact (fun _ _ _ h => h)
          · rfl
          (try simp only [Act.put, List.setIfInBounds_toArray, List.set_cons_zero, List.set_cons_succ])
          refine wpAnyH_take (i := 8) (oi := ?_) (v := undef) ?_ (by kernel_rfl) (by kernel_rfl) (by kernel_rfl) ?_ (Or.inr ⟨?_, rfl⟩) hHeld ?_
          rotate_left 1
          · (simp only [List.getElem?_toArray, List.getElem?_cons_zero, List.getElem?_cons_succ]; rfl)
          · exact (fun _ _ _ h => h)
          · rfl
          (try simp only [Act.put, List.setIfInBounds_toArray, List.set_cons_zero, List.set_cons_succ])
          refine wpAnyH_take (i := 9) (oi := ?_) (v := undef) ?_ (by kernel_rfl) (by kernel_rfl) (by kernel_rfl) ?_ (Or.inr ⟨?_, rfl⟩) hHeld ?_
          rotate_left 1
          · (simp only [List.getElem?_toArray, List.getElem?_cons_zero, List.getElem?_cons_succ]; rfl)
          · exact (fun _ _ _ h => h)
          · rfl
          (try simp only [Act.put, List.setIfInBounds_toArray, List.set_cons_zero, List.set_cons_succ])
          refine wpAnyH_take (i := 10) (oi := ?_) (v := ?_) ?_ (by kernel_rfl) (by kernel_rfl) (by kernel_rfl) ?_ (Or.inl ⟨?_, ?_⟩) hHeld ?_
          rotate_left 2
          · (simp only [List.getElem?_toArray, List.getElem?_cons_zero, List.getElem?_cons_succ]; rfl)
          · exact (fun _ _ _ h => h)
          · rfl
          · (intro w hSw; (try dsimp only at hSw); go_simp; try with_reducible rfl)
          (try simp only [Act.put, List.setIfInBounds_toArray, List.set_cons_zero, List.set_cons_succ])
          refine wpAnyH_take (i := 11) (oi := ?_) (v := ?_) ?_ (by kernel_rfl) (by kernel_rfl) (by kernel_rfl) ?_ (Or.inl ⟨?_, ?_⟩) hHeld ?_
          rotate_left 2
          · (simp only [List.getElem?_toArray, List.getElem?_cons_zero, List.getElem?_cons_succ]; rfl)
          · exact (fun _ _ _ h => h)
          · rfl
          · (intro w hSw; (try dsimp only at hSw); go_simp; try with_reducible rfl)
          (try simp only [Act.put, List.setIfInBounds_toArray, List.set_cons_zero, List.set_cons_succ])
          obtain ⟨v9, hV⟩ := hHeld
          have HV := Lib.hid hV
          clear hV HW
          obtain ⟨f0, f1, f2, f3, f4, f5, f6, f7, f8, f9, f10⟩ := HV.out.n.f11
          obtain ⟨z0, z1, z2, z3, z4, z5, z6, z7, z8, z9, z10⟩ := HV.out.n.c11
          refine wpAnyH_ready (rs := [12]) (by kernel_rfl) (by simp) ?_
          refine AllReadyH.cons (o := ?_) ?_ (fun K hK => ?_) AllReadyH.nil
          rotate_left
          · (simp only [List.getElem?_toArray, List.getElem?_cons_zero, List.getElem?_cons_succ]; rfl)
          go_simp
          skip
          replace HV := Lib.hid (HV.out.put (keep_put1 _ _ 10 (.bool true)) (HV.out.n.put10 (.bool true)))
          refine hK.out _ _ ⟨_, HV.out⟩ (fun hHeld => ?_)
          clear hK K
          refine wpAnyH_done (by kernel_rfl) ?_ _
          go_wp2_with fail
          go_meet
          exact HV.out
        case rest =>
          clear HW
          have HW := Lib.hid hcut
          clear hcut
          clear f0 f1 f2 f3 f4 f5 f6 f7 f8 f9 f10 z0 z1 z2 z3 z4 z5 z6 z7 z8 z9 z10 x8 y0 y1 y2 y3 y4
          obtain ⟨z0, z1, z2, z3, z4, z5, z6, z7, z8, z9, z10⟩ := HW.out.n.c11
          obtain ⟨v0, v1, v2, v3, v4, v5, v6, v7, v8, v9, v10⟩ := HW.out.z.c11
          obtain ⟨f0, f1, f2, f3, f4, f5, f6, f7, f8, f9, f10⟩ := HW.out.z.f11
          go_wp2_with fail
          (try simp only [Exit.inBlock, Exit.then])
          refine bodyPost_ret (v := .agg #[.bool bh, .int .i64 bi, .int .i64 bo, .bool bg, .int .i64 ql, .int .i64 qs, .bool qj, .bool false, .int .i64 m, .bool true, .bool true]) ?_ rfl ⟨rfl, ?_⟩
          · rw [results_cell1 rfl]
            go_simp
          · exact below_keep HW.out.bel (keep_putT _ _ _ _ _ _ _ _ _ _ _ _ _) (fun g e => by omega)
      · clear hr2
        obtain rfl : cl' = false := by rw [← hcl]; simp
        obtain rfl : m = n' := Eq.symm <| by rw [← hn]; simp
        obtain rfl : f' = true := by rw [← hf]; simp
        obtain rfl : c' = true := by rw [← hc]; simp
        clear hcl hn hf hc
        obtain ⟨f0, f1, f2, f3, f4, f5, f6, f7, f8, f9, f10⟩ := HW.out.n.f11
        obtain ⟨z0, z1, z2, z3, z4, z5, z6, z7, z8, z9, z10⟩ := HW.out.n.c11
        have x8 := HW.out.t.cell 8 (u := .int .i64 n) rfl
        obtain ⟨y0, y1, y2, y3, y4⟩ := HW.out.c.five
        go_wp2_with fail
        replace HW := Lib.hid (HW.out.put (keep_put1 W2 (w.heap.size + 1 + 1 + 1 + 1) 9 (.bool true)) (HW.out.n.put9 (.bool true)))
        replace HW := Lib.hid (HW.out.put (keep_put1 (W2.setCell ⟨w.heap.size + 1 + 1 + 1 + 1, 9, none⟩ (.bool true)) (w.heap.size + 1 + 1 + 1 + 1) 7 (.bool false)) (HW.out.n.put7 (.bool false)))
        (with_reducible refine (HL.out _).mono ?_)
        rintro e wl ⟨rfl, rfl⟩
        replace HW := Lib.hid (HW.out.put (keep_put1 ((W2.setCell ⟨w.heap.size + 1 + 1 + 1 + 1, 9, none⟩ (.bool true)).setCell ⟨w.heap.size + 1 + 1 + 1 + 1, 7, none⟩ (.bool false)) (w.heap.size + 1 + 1 + 1 + 1) 8 (.int .i64 m)) (HW.out.n.put8 (.int .i64 m)))
        go_upto_region 12 with fail
        clear f0 f1 f2 f3 f4 f5 f6 f7 f8 f9 f10 z0 z1 z2 z3 z4 z5 z6 z7 z8 z9 z10 x8 y0 y1 y2 y3 y4
        generalize ((W2.setCell ⟨w.heap.size + 1 + 1 + 1 + 1, 9, none⟩ (.bool true)).setCell ⟨w.heap.size + 1 + 1 + 1 + 1, 7, none⟩ (.bool false)).setCell ⟨w.heap.size + 1 + 1 + 1 + 1, 8, none⟩ (.int .i64 m) = W3 at *
        obtain ⟨f0, f1, f2, f3, f4, f5, f6, f7, f8, f9, f10⟩ := HW.out.n.f11
        obtain ⟨z0, z1, z2, z3, z4, z5, z6, z7, z8, z9, z10⟩ := HW.out.n.c11
        have x8 := HW.out.t.cell 8 (u := .int .i64 n) rfl
        obtain ⟨y0, y1, y2, y3, y4⟩ := HW.out.c.five
        go_cut [] (fun wx => TkW w wx #[.bool h, .int .i64 i, .int .i64 o, .bool g, .int .i64 l, .int .i64 s, .bool j, .bool cl, .int .i64 n, .bool f, .bool c] #[.bool true, .int .i64 ci, .int .i64 co, .int .i64 cs, .int .i64 li] #[.int .i64 d0, .int .i64 d1, .int .i64 d2] #[.bool false, .int .i64 0, .int .i64 0, .bool false, .int .i64 0, .int .i64 0, .bool false, .bool false, .int .i64 0, .bool false, .bool false] #[.bool bh, .int .i64 bi, .int .i64 bo, .bool true, .int .i64 ql, .int .i64 qs, .bool qj, .bool false, .int .i64 m, .bool true, .bool true])
        case first =>
          clear f0 f1 f2 f3 f4 f5 f6 f7 f8 f9 f10 z0 z1 z2 z3 z4 z5 z6 z7 z8 z9 z10 x8 y0 y1 y2 y3 y4
          refine wp_region_held_drew (S := (fun wx => ∃ v : Value, TkW w wx #[.bool h, .int .i64 i, .int .i64 o, .bool g, .int .i64 l, .int .i64 s, .bool j, .bool cl, .int .i64 n, .bool f, .bool c] #[.bool true, .int .i64 ci, .int .i64 co, .int .i64 cs, .int .i64 li] #[.int .i64 d0, .int .i64 d1, .int .i64 d2] #[.bool false, .int .i64 0, .int .i64 0, .bool false, .int .i64 0, .int .i64 0, .bool false, .bool false, .int .i64 0, .bool false, .bool false] #[.bool bh, .int .i64 bi, .int .i64 bo, .bool true, .int .i64 ql, .int .i64 qs, .bool qj, .bool false, .int .i64 m, .bool true, v])) (by kernel_rfl) ⟨_, HW.out.call (bel_drew _)⟩ (fun hHeld => ?_)
          refine wpAnyH_take (i := 0) (oi := ?_) (v := ?_) ?_ (by kernel_rfl) (by kernel_rfl) (by kernel_rfl) ?_ (Or.inl ⟨?_, ?_⟩) hHeld ?_
          rotate_left 2
          · (simp only [List.getElem?_toArray, List.getElem?_cons_zero]; rfl)
          · exact (fun _ _ _ h => h)
          · rfl
          · (intro w hSw; (try dsimp only at hSw); go_simp; try with_reducible rfl)
          (try simp only [Act.put, List.setIfInBounds_toArray, List.set_cons_zero, List.set_cons_succ])
          refine wpAnyH_take (i := 1) (oi := ?_) (v := ?_) ?_ (by kernel_rfl) (by kernel_rfl) (by kernel_rfl) ?_ (Or.inl ⟨?_, ?_⟩) hHeld ?_
          rotate_left 2
          · (simp only [List.getElem?_toArray, List.getElem?_cons_zero, List.getElem?_cons_succ]; rfl)
          · exact (fun _ _ _ h => h)
          · rfl
          · (intro w hSw; (try dsimp only at hSw); obtain ⟨_, hSw⟩ := hSw; obtain ⟨z0, z1, z2, z3, z4, z5, z6, z7, z8, z9, z10⟩ := hSw.n.c11; go_simp; try with_reducible rfl)
          (try simp only [Act.put, List.setIfInBounds_toArray, List.set_cons_zero, List.set_cons_succ])
          refine wpAnyH_take (i := 2) (oi := ?_) (v := ?_) ?_ (by kernel_rfl) (by kernel_rfl) (by kernel_rfl) ?_ (Or.inl ⟨?_, ?_⟩) hHeld ?_
          rotate_left 2
          · (simp only [List.getElem?_toArray, List.getElem?_cons_zero, List.getElem?_cons_succ]; rfl)
          · exact (fun _ _ _ h => h)
          · rfl
          · (intro w hSw; (try dsimp only at hSw); go_simp; try with_reducible rfl)
          (try simp only [Act.put, List.setIfInBounds_toArray, List.set_cons_zero, List.set_cons_succ])
          refine wpAnyH_take (i := 3) (oi := ?_) (v := undef) ?_ (by kernel_rfl) (by kernel_rfl) (by kernel_rfl) ?_ (Or.inr ⟨?_, rfl⟩) hHeld ?_
          rotate_left 1
          · (simp only [List.getElem?_toArray, List.getElem?_cons_zero, List.getElem?_cons_succ]; rfl)
          · exact (fun _ _ _ h => h)
          · rfl
          (try simp only [Act.put, List.setIfInBounds_toArray, List.set_cons_zero, List.set_cons_succ])
          refine wpAnyH_take (i := 4) (oi := ?_) (v := undef) ?_ (by kernel_rfl) (by kernel_rfl) (by kernel_rfl) ?_ (Or.inr ⟨?_, rfl⟩) hHeld ?_
          rotate_left 1
          · (simp only [List.getElem?_toArray, List.getElem?_cons_zero, List.getElem?_cons_succ]; rfl)
          · exact (fun _ _ _ h => h)
          · rfl
          (try simp only [Act.put, List.setIfInBounds_toArray, List.set_cons_zero, List.set_cons_succ])
          refine wpAnyH_take (i := 5) (oi := ?_) (v := undef) ?_ (by kernel_rfl) (by kernel_rfl) (by kernel_rfl) ?_ (Or.inr ⟨?_, rfl⟩) hHeld ?_
          rotate_left 1
          · (simp only [List.getElem?_toArray, List.getElem?_cons_zero, List.getElem?_cons_succ]; rfl)
          · exact (fun _ _ _ h => h)
          · rfl
          (try simp only [Act.put, List.setIfInBounds_toArray, List.set_cons_zero, List.set_cons_succ])
          refine wpAnyH_take (i := 6) (oi := ?_) (v := undef) ?_ (by kernel_rfl) (by kernel_rfl) (by kernel_rfl) ?_ (Or.inr ⟨?_, rfl⟩) hHeld ?_
          rotate_left 1
          · (simp only [List.getElem?_toArray, List.getElem?_cons_zero, List.getElem?_cons_succ]; rfl)
          · exact (fun _ _ _ h => h)
          · rfl
          (try simp only [Act.put, List.setIfInBounds_toArray, List.set_cons_zero, List.set_cons_succ])
          refine wpAnyH_take (i := 7) (oi := ?_) (v := undef) ?_ (by kernel_rfl) (by kernel_rfl) (by kernel_rfl) ?_ (Or.inr ⟨?_, rfl⟩) hHeld ?_
          rotate_left 1
          · (simp only [List.getElem?_toArray, List.getElem?_cons_zero, List.getElem?_cons_succ]; rfl)
          · exact (fun _ _ _ h => h)
          · rfl
          (try simp only [Act.put, List.setIfInBounds_toArray, List.set_cons_zero, List.set_cons_succ])
          refine wpAnyH_take (i := 8) (oi := ?_) (v := undef) ?_ (by kernel_rfl) (by kernel_rfl) (by kernel_rfl) ?_ (Or.inr ⟨?_, rfl⟩) hHeld ?_
          rotate_left 1
          · (simp only [List.getElem?_toArray, List.getElem?_cons_zero, List.getElem?_cons_succ]; rfl)
          · exact (fun _ _ _ h => h)
          · rfl
          (try simp only [Act.put, List.setIfInBounds_toArray, List.set_cons_zero, List.set_cons_succ])
          refine wpAnyH_take (i := 9) (oi := ?_) (v := undef) ?_ (by kernel_rfl) (by kernel_rfl) (by kernel_rfl) ?_ (Or.inr ⟨?_, rfl⟩) hHeld ?_
          rotate_left 1
          · (simp only [List.getElem?_toArray, List.getElem?_cons_zero, List.getElem?_cons_succ]; rfl)
          · exact (fun _ _ _ h => h)
          · rfl
          (try simp only [Act.put, List.setIfInBounds_toArray, List.set_cons_zero, List.set_cons_succ])
          refine wpAnyH_take (i := 10) (oi := ?_) (v := ?_) ?_ (by kernel_rfl) (by kernel_rfl) (by kernel_rfl) ?_ (Or.inl ⟨?_, ?_⟩) hHeld ?_
          rotate_left 2
          · (simp only [List.getElem?_toArray, List.getElem?_cons_zero, List.getElem?_cons_succ]; rfl)
          · exact (fun _ _ _ h => h)
          · rfl
          · (intro w hSw; (try dsimp only at hSw); go_simp; try with_reducible rfl)
          (try simp only [Act.put, List.setIfInBounds_toArray, List.set_cons_zero, List.set_cons_succ])
          refine wpAnyH_take (i := 11) (oi := ?_) (v := ?_) ?_ (by kernel_rfl) (by kernel_rfl) (by kernel_rfl) ?_ (Or.inl ⟨?_, ?_⟩) hHeld ?_
          rotate_left 2
          · (simp only [List.getElem?_toArray, List.getElem?_cons_zero, List.getElem?_cons_succ]; rfl)
          · exact (fun _ _ _ h => h)
          · rfl
          · (intro w hSw; (try dsimp only at hSw); go_simp; try with_reducible rfl)
          (try simp only [Act.put, List.setIfInBounds_toArray, List.set_cons_zero, List.set_cons_succ])
          obtain ⟨v9, hV⟩ := hHeld
          have HV := Lib.hid hV
          clear hV HW
          obtain ⟨f0, f1, f2, f3, f4, f5, f6, f7, f8, f9, f10⟩ := HV.out.n.f11
          obtain ⟨z0, z1, z2, z3, z4, z5, z6, z7, z8, z9, z10⟩ := HV.out.n.c11
          refine wpAnyH_ready (rs := [12]) (by kernel_rfl) (by simp) ?_
          refine AllReadyH.cons (o := ?_) ?_ (fun K hK => ?_) AllReadyH.nil
          rotate_left
          · (simp only [List.getElem?_toArray, List.getElem?_cons_zero, List.getElem?_cons_succ]; rfl)
          go_simp
          skip
          replace HV := Lib.hid (HV.out.put (keep_put1 _ _ 10 (.bool true)) (HV.out.n.put10 (.bool true)))
          refine hK.out _ _ ⟨_, HV.out⟩ (fun hHeld => ?_)
          clear hK K
          refine wpAnyH_done (by kernel_rfl) ?_ _
          go_wp2_with fail
          go_meet
          exact HV.out
        case rest =>
          clear HW
          have HW := Lib.hid hcut
          clear hcut
          clear f0 f1 f2 f3 f4 f5 f6 f7 f8 f9 f10 z0 z1 z2 z3 z4 z5 z6 z7 z8 z9 z10 x8 y0 y1 y2 y3 y4
          obtain ⟨z0, z1, z2, z3, z4, z5, z6, z7, z8, z9, z10⟩ := HW.out.n.c11
          obtain ⟨v0, v1, v2, v3, v4, v5, v6, v7, v8, v9, v10⟩ := HW.out.z.c11
          obtain ⟨f0, f1, f2, f3, f4, f5, f6, f7, f8, f9, f10⟩ := HW.out.z.f11
          go_wp2_with fail
          (try simp only [Exit.inBlock, Exit.then])
          refine bodyPost_ret (v := .agg #[.bool bh, .int .i64 bi, .int .i64 bo, .bool true, .int .i64 ql, .int .i64 qs, .bool qj, .bool false, .int .i64 m, .bool true, .bool true]) ?_ rfl ⟨rfl, ?_⟩
          · rw [results_cell1 rfl]
            go_simp
          · exact below_keep HW.out.bel (keep_putT _ _ _ _ _ _ _ _ _ _ _ _ _) (fun g e => by omega)
      · clear hr2
        obtain rfl : cl' = false := by rw [← hcl]; simp
        obtain rfl : m = n' := Eq.symm <| by rw [← hn]; simp
        obtain rfl : f' = true := by rw [← hf]; simp
        obtain rfl : c' = true := by rw [← hc]; simp
        clear hcl hn hf hc
        obtain ⟨f0, f1, f2, f3, f4, f5, f6, f7, f8, f9, f10⟩ := HW.out.n.f11
        obtain ⟨z0, z1, z2, z3, z4, z5, z6, z7, z8, z9, z10⟩ := HW.out.n.c11
        have x8 := HW.out.t.cell 8 (u := .int .i64 n) rfl
        obtain ⟨y0, y1, y2, y3, y4⟩ := HW.out.c.five
        go_wp2_with fail
        replace HW := Lib.hid (HW.out.put (keep_put1 W2 (w.heap.size + 1 + 1 + 1 + 1) 9 (.bool true)) (HW.out.n.put9 (.bool true)))
        replace HW := Lib.hid (HW.out.put (keep_put1 (W2.setCell ⟨w.heap.size + 1 + 1 + 1 + 1, 9, none⟩ (.bool true)) (w.heap.size + 1 + 1 + 1 + 1) 7 (.bool false)) (HW.out.n.put7 (.bool false)))
        (with_reducible refine (HL.out _).mono ?_)
        rintro e wl ⟨rfl, rfl⟩
        replace HW := Lib.hid (HW.out.put (keep_put1 ((W2.setCell ⟨w.heap.size + 1 + 1 + 1 + 1, 9, none⟩ (.bool true)).setCell ⟨w.heap.size + 1 + 1 + 1 + 1, 7, none⟩ (.bool false)) (w.heap.size + 1 + 1 + 1 + 1) 8 (.int .i64 m)) (HW.out.n.put8 (.int .i64 m)))
        go_upto_region 12 with fail
        clear f0 f1 f2 f3 f4 f5 f6 f7 f8 f9 f10 z0 z1 z2 z3 z4 z5 z6 z7 z8 z9 z10 x8 y0 y1 y2 y3 y4
        generalize ((W2.setCell ⟨w.heap.size + 1 + 1 + 1 + 1, 9, none⟩ (.bool true)).setCell ⟨w.heap.size + 1 + 1 + 1 + 1, 7, none⟩ (.bool false)).setCell ⟨w.heap.size + 1 + 1 + 1 + 1, 8, none⟩ (.int .i64 m) = W3 at *
        obtain ⟨f0, f1, f2, f3, f4, f5, f6, f7, f8, f9, f10⟩ := HW.out.n.f11
        obtain ⟨z0, z1, z2, z3, z4, z5, z6, z7, z8, z9, z10⟩ := HW.out.n.c11
        have x8 := HW.out.t.cell 8 (u := .int .i64 n) rfl
        obtain ⟨y0, y1, y2, y3, y4⟩ := HW.out.c.five
        go_cut [] (fun wx => TkW w wx #[.bool h, .int .i64 i, .int .i64 o, .bool g, .int .i64 l, .int .i64 s, .bool j, .bool cl, .int .i64 n, .bool f, .bool c] #[.bool true, .int .i64 ci, .int .i64 co, .int .i64 cs, .int .i64 li] #[.int .i64 d0, .int .i64 d1, .int .i64 d2] #[.bool false, .int .i64 0, .int .i64 0, .bool false, .int .i64 0, .int .i64 0, .bool false, .bool false, .int .i64 0, .bool false, .bool false] #[.bool bh, .int .i64 bi, .int .i64 bo, .bool false, .int .i64 ql, .int .i64 qs, .bool true, .bool false, .int .i64 m, .bool true, .bool true])
        case first =>
          clear f0 f1 f2 f3 f4 f5 f6 f7 f8 f9 f10 z0 z1 z2 z3 z4 z5 z6 z7 z8 z9 z10 x8 y0 y1 y2 y3 y4
          refine wp_region_held_drew (S := (fun wx => ∃ v : Value, TkW w wx #[.bool h, .int .i64 i, .int .i64 o, .bool g, .int .i64 l, .int .i64 s, .bool j, .bool cl, .int .i64 n, .bool f, .bool c] #[.bool true, .int .i64 ci, .int .i64 co, .int .i64 cs, .int .i64 li] #[.int .i64 d0, .int .i64 d1, .int .i64 d2] #[.bool false, .int .i64 0, .int .i64 0, .bool false, .int .i64 0, .int .i64 0, .bool false, .bool false, .int .i64 0, .bool false, .bool false] #[.bool bh, .int .i64 bi, .int .i64 bo, .bool false, .int .i64 ql, .int .i64 qs, .bool true, .bool false, .int .i64 m, .bool true, v])) (by kernel_rfl) ⟨_, HW.out.call (bel_drew _)⟩ (fun hHeld => ?_)
          refine wpAnyH_take (i := 0) (oi := ?_) (v := ?_) ?_ (by kernel_rfl) (by kernel_rfl) (by kernel_rfl) ?_ (Or.inl ⟨?_, ?_⟩) hHeld ?_
          rotate_left 2
          · (simp only [List.getElem?_toArray, List.getElem?_cons_zero]; rfl)
          · exact (fun _ _ _ h => h)
          · rfl
          · (intro w hSw; (try dsimp only at hSw); go_simp; try with_reducible rfl)
          (try simp only [Act.put, List.setIfInBounds_toArray, List.set_cons_zero, List.set_cons_succ])
          refine wpAnyH_take (i := 1) (oi := ?_) (v := ?_) ?_ (by kernel_rfl) (by kernel_rfl) (by kernel_rfl) ?_ (Or.inl ⟨?_, ?_⟩) hHeld ?_
          rotate_left 2
          · (simp only [List.getElem?_toArray, List.getElem?_cons_zero, List.getElem?_cons_succ]; rfl)
          · exact (fun _ _ _ h => h)
          · rfl
          · (intro w hSw; (try dsimp only at hSw); obtain ⟨_, hSw⟩ := hSw; obtain ⟨z0, z1, z2, z3, z4, z5, z6, z7, z8, z9, z10⟩ := hSw.n.c11; go_simp; try with_reducible rfl)
          (try simp only [Act.put, List.setIfInBounds_toArray, List.set_cons_zero, List.set_cons_succ])
          refine wpAnyH_take (i := 2) (oi := ?_) (v := ?_) ?_ (by kernel_rfl) (by kernel_rfl) (by kernel_rfl) ?_ (Or.inl ⟨?_, ?_⟩) hHeld ?_
          rotate_left 2
          · (simp only [List.getElem?_toArray, List.getElem?_cons_zero, List.getElem?_cons_succ]; rfl)
          · exact (fun _ _ _ h => h)
          · rfl
          · (intro w hSw; (try dsimp only at hSw); go_simp; try with_reducible rfl)
          (try simp only [Act.put, List.setIfInBounds_toArray, List.set_cons_zero, List.set_cons_succ])
          refine wpAnyH_take (i := 3) (oi := ?_) (v := undef) ?_ (by kernel_rfl) (by kernel_rfl) (by kernel_rfl) ?_ (Or.inr ⟨?_, rfl⟩) hHeld ?_
          rotate_left 1
          · (simp only [List.getElem?_toArray, List.getElem?_cons_zero, List.getElem?_cons_succ]; rfl)
          · exact (fun _ _ _ h => h)
          · rfl
          (try simp only [Act.put, List.setIfInBounds_toArray, List.set_cons_zero, List.set_cons_succ])
          refine wpAnyH_take (i := 4) (oi := ?_) (v := undef) ?_ (by kernel_rfl) (by kernel_rfl) (by kernel_rfl) ?_ (Or.inr ⟨?_, rfl⟩) hHeld ?_
          rotate_left 1
          · (simp only [List.getElem?_toArray, List.getElem?_cons_zero, List.getElem?_cons_succ]; rfl)
          · exact (fun _ _ _ h => h)
          · rfl
          (try simp only [Act.put, List.setIfInBounds_toArray, List.set_cons_zero, List.set_cons_succ])
          refine wpAnyH_take (i := 5) (oi := ?_) (v := undef) ?_ (by kernel_rfl) (by kernel_rfl) (by kernel_rfl) ?_ (Or.inr ⟨?_, rfl⟩) hHeld ?_
          rotate_left 1
          · (simp only [List.getElem?_toArray, List.getElem?_cons_zero, List.getElem?_cons_succ]; rfl)
          · exact (fun _ _ _ h => h)
          · rfl
          (try simp only [Act.put, List.setIfInBounds_toArray, List.set_cons_zero, List.set_cons_succ])
          refine wpAnyH_take (i := 6) (oi := ?_) (v := undef) ?_ (by kernel_rfl) (by kernel_rfl) (by kernel_rfl) ?_ (Or.inr ⟨?_, rfl⟩) hHeld ?_
          rotate_left 1
          · (simp only [List.getElem?_toArray, List.getElem?_cons_zero, List.getElem?_cons_succ]; rfl)
          · exact (fun _ _ _ h => h)
          · rfl
          (try simp only [Act.put, List.setIfInBounds_toArray, List.set_cons_zero, List.set_cons_succ])
          refine wpAnyH_take (i := 7) (oi := ?_) (v := undef) ?_ (by kernel_rfl) (by kernel_rfl) (by kernel_rfl) ?_ (Or.inr ⟨?_, rfl⟩) hHeld ?_
          rotate_left 1
          · (simp only [List.getElem?_toArray, List.getElem?_cons_zero, List.getElem?_cons_succ]; rfl)
          · exact (fun _ _ _ h => h)
          · rfl
          (try simp only [Act.put, List.setIfInBounds_toArray, List.set_cons_zero, List.set_cons_succ])
          refine wpAnyH_take (i := 8) (oi := ?_) (v := undef) ?_ (by kernel_rfl) (by kernel_rfl) (by kernel_rfl) ?_ (Or.inr ⟨?_, rfl⟩) hHeld ?_
          rotate_left 1
          · (simp only [List.getElem?_toArray, List.getElem?_cons_zero, List.getElem?_cons_succ]; rfl)
          · exact (fun _ _ _ h => h)
          · rfl
          (try simp only [Act.put, List.setIfInBounds_toArray, List.set_cons_zero, List.set_cons_succ])
          refine wpAnyH_take (i := 9) (oi := ?_) (v := undef) ?_ (by kernel_rfl) (by kernel_rfl) (by kernel_rfl) ?_ (Or.inr ⟨?_, rfl⟩) hHeld ?_
          rotate_left 1
          · (simp only [List.getElem?_toArray, List.getElem?_cons_zero, List.getElem?_cons_succ]; rfl)
          · exact (fun _ _ _ h => h)
          · rfl
          (try simp only [Act.put, List.setIfInBounds_toArray, List.set_cons_zero, List.set_cons_succ])
          refine wpAnyH_take (i := 10) (oi := ?_) (v := ?_) ?_ (by kernel_rfl) (by kernel_rfl) (by kernel_rfl) ?_ (Or.inl ⟨?_, ?_⟩) hHeld ?_
          rotate_left 2
          · (simp only [List.getElem?_toArray, List.getElem?_cons_zero, List.getElem?_cons_succ]; rfl)
          · exact (fun _ _ _ h => h)
          · rfl
          · (intro w hSw; (try dsimp only at hSw); go_simp; try with_reducible rfl)
          (try simp only [Act.put, List.setIfInBounds_toArray, List.set_cons_zero, List.set_cons_succ])
          refine wpAnyH_take (i := 11) (oi := ?_) (v := ?_) ?_ (by kernel_rfl) (by kernel_rfl) (by kernel_rfl) ?_ (Or.inl ⟨?_, ?_⟩) hHeld ?_
          rotate_left 2
          · (simp only [List.getElem?_toArray, List.getElem?_cons_zero, List.getElem?_cons_succ]; rfl)
          · exact (fun _ _ _ h => h)
          · rfl
          · (intro w hSw; (try dsimp only at hSw); go_simp; try with_reducible rfl)
          (try simp only [Act.put, List.setIfInBounds_toArray, List.set_cons_zero, List.set_cons_succ])
          obtain ⟨v9, hV⟩ := hHeld
          have HV := Lib.hid hV
          clear hV HW
          obtain ⟨f0, f1, f2, f3, f4, f5, f6, f7, f8, f9, f10⟩ := HV.out.n.f11
          obtain ⟨z0, z1, z2, z3, z4, z5, z6, z7, z8, z9, z10⟩ := HV.out.n.c11
          refine wpAnyH_ready (rs := [12]) (by kernel_rfl) (by simp) ?_
          refine AllReadyH.cons (o := ?_) ?_ (fun K hK => ?_) AllReadyH.nil
          rotate_left
          · (simp only [List.getElem?_toArray, List.getElem?_cons_zero, List.getElem?_cons_succ]; rfl)
          go_simp
          skip
          replace HV := Lib.hid (HV.out.put (keep_put1 _ _ 10 (.bool true)) (HV.out.n.put10 (.bool true)))
          refine hK.out _ _ ⟨_, HV.out⟩ (fun hHeld => ?_)
          clear hK K
          refine wpAnyH_done (by kernel_rfl) ?_ _
          go_wp2_with fail
          go_meet
          exact HV.out
        case rest =>
          clear HW
          have HW := Lib.hid hcut
          clear hcut
          clear f0 f1 f2 f3 f4 f5 f6 f7 f8 f9 f10 z0 z1 z2 z3 z4 z5 z6 z7 z8 z9 z10 x8 y0 y1 y2 y3 y4
          obtain ⟨z0, z1, z2, z3, z4, z5, z6, z7, z8, z9, z10⟩ := HW.out.n.c11
          obtain ⟨v0, v1, v2, v3, v4, v5, v6, v7, v8, v9, v10⟩ := HW.out.z.c11
          obtain ⟨f0, f1, f2, f3, f4, f5, f6, f7, f8, f9, f10⟩ := HW.out.z.f11
          go_wp2_with fail
          (try simp only [Exit.inBlock, Exit.then])
          refine bodyPost_ret (v := .agg #[.bool bh, .int .i64 bi, .int .i64 bo, .bool false, .int .i64 ql, .int .i64 qs, .bool true, .bool false, .int .i64 m, .bool true, .bool true]) ?_ rfl ⟨rfl, ?_⟩
          · rw [results_cell1 rfl]
            go_simp
          · exact below_keep HW.out.bel (keep_putT _ _ _ _ _ _ _ _ _ _ _ _ _) (fun g e => by omega)
      · simp only [Bool.not_false, Bool.and_true] at hr2
        rw [hr2] at hcl hn hc
        clear hr2
        cases r1
        · obtain rfl : cl' = false := by rw [← hcl]; simp
          obtain rfl : m = n' := Eq.symm <| by rw [← hn]; simp
          obtain rfl : f' = false := by rw [← hf]; simp
          obtain ⟨v, hv⟩ : ∃ v, decide (wt < m) = v := ⟨_, rfl⟩
          obtain rfl : c' = v := by rw [← hc, ← hv]; simp
          clear hcl hn hf hc
          obtain ⟨f0, f1, f2, f3, f4, f5, f6, f7, f8, f9, f10⟩ := HW.out.n.f11
          obtain ⟨z0, z1, z2, z3, z4, z5, z6, z7, z8, z9, z10⟩ := HW.out.n.c11
          have x8 := HW.out.t.cell 8 (u := .int .i64 n) rfl
          obtain ⟨y0, y1, y2, y3, y4⟩ := HW.out.c.five
          go_wp2_with fail
          replace HW := Lib.hid (HW.out.put (keep_put1 W2 (w.heap.size + 1 + 1 + 1 + 1) 9 (.bool false)) (HW.out.n.put9 (.bool false)))
          generalize W2.setCell ⟨w.heap.size + 1 + 1 + 1 + 1, 9, none⟩ (.bool false) = W5 at *
          clear f0 f1 f2 f3 f4 f5 f6 f7 f8 f9 f10 z0 z1 z2 z3 z4 z5 z6 z7 z8 z9 z10 x8 y0 y1 y2 y3 y4
          obtain ⟨f0, f1, f2, f3, f4, f5, f6, f7, f8, f9, f10⟩ := HW.out.n.f11
          obtain ⟨z0, z1, z2, z3, z4, z5, z6, z7, z8, z9, z10⟩ := HW.out.n.c11
          have x8 := HW.out.t.cell 8 (u := .int .i64 n) rfl
          obtain ⟨y0, y1, y2, y3, y4⟩ := HW.out.c.five
          (with_reducible refine (HC1.out _).mono ?_)
          rintro e w5 ⟨rfl, hb⟩
          replace HW := Lib.hid (HW.out.call hb)
          clear hb
          clear f0 f1 f2 f3 f4 f5 f6 f7 f8 f9 f10 z0 z1 z2 z3 z4 z5 z6 z7 z8 z9 z10 x8 y0 y1 y2 y3 y4
          obtain ⟨f0, f1, f2, f3, f4, f5, f6, f7, f8, f9, f10⟩ := HW.out.n.f11
          obtain ⟨z0, z1, z2, z3, z4, z5, z6, z7, z8, z9, z10⟩ := HW.out.n.c11
          have x8 := HW.out.t.cell 8 (u := .int .i64 n) rfl
          obtain ⟨y0, y1, y2, y3, y4⟩ := HW.out.c.five
          go_wp2_with fail
          replace HW := Lib.hid (HW.out.put (keep_put1 w5 (w.heap.size + 1 + 1 + 1 + 1) 7 (.bool false)) (HW.out.n.put7 (.bool false)))
          (with_reducible refine (HL.out _).mono ?_)
          rintro e wl ⟨rfl, rfl⟩
          replace HW := Lib.hid (HW.out.put (keep_put1 (w5.setCell ⟨w.heap.size + 1 + 1 + 1 + 1, 7, none⟩ (.bool false)) (w.heap.size + 1 + 1 + 1 + 1) 8 (.int .i64 m)) (HW.out.n.put8 (.int .i64 m)))
          go_upto_region 12 with fail
          clear f0 f1 f2 f3 f4 f5 f6 f7 f8 f9 f10 z0 z1 z2 z3 z4 z5 z6 z7 z8 z9 z10 x8 y0 y1 y2 y3 y4
          generalize (w5.setCell ⟨w.heap.size + 1 + 1 + 1 + 1, 7, none⟩ (.bool false)).setCell ⟨w.heap.size + 1 + 1 + 1 + 1, 8, none⟩ (.int .i64 m) = W3 at *
          obtain ⟨f0, f1, f2, f3, f4, f5, f6, f7, f8, f9, f10⟩ := HW.out.n.f11
          obtain ⟨z0, z1, z2, z3, z4, z5, z6, z7, z8, z9, z10⟩ := HW.out.n.c11
          have x8 := HW.out.t.cell 8 (u := .int .i64 n) rfl
          obtain ⟨y0, y1, y2, y3, y4⟩ := HW.out.c.five
          go_cut [] (fun wx => TkW w wx #[.bool h, .int .i64 i, .int .i64 o, .bool g, .int .i64 l, .int .i64 s, .bool j, .bool cl, .int .i64 n, .bool f, .bool c] #[.bool true, .int .i64 ci, .int .i64 co, .int .i64 cs, .int .i64 li] #[.int .i64 d0, .int .i64 d1, .int .i64 d2] #[.bool false, .int .i64 0, .int .i64 0, .bool false, .int .i64 0, .int .i64 0, .bool false, .bool false, .int .i64 0, .bool false, .bool false] #[.bool bh, .int .i64 bi, .int .i64 bo, .bool false, .int .i64 ql, .int .i64 qs, .bool false, .bool false, .int .i64 m, .bool false, .bool c'])
          case first =>
            clear f0 f1 f2 f3 f4 f5 f6 f7 f8 f9 f10 z0 z1 z2 z3 z4 z5 z6 z7 z8 z9 z10 x8 y0 y1 y2 y3 y4
            refine wp_region_held_drew (S := (fun wx => ∃ v : Value, TkW w wx #[.bool h, .int .i64 i, .int .i64 o, .bool g, .int .i64 l, .int .i64 s, .bool j, .bool cl, .int .i64 n, .bool f, .bool c] #[.bool true, .int .i64 ci, .int .i64 co, .int .i64 cs, .int .i64 li] #[.int .i64 d0, .int .i64 d1, .int .i64 d2] #[.bool false, .int .i64 0, .int .i64 0, .bool false, .int .i64 0, .int .i64 0, .bool false, .bool false, .int .i64 0, .bool false, .bool false] #[.bool bh, .int .i64 bi, .int .i64 bo, .bool false, .int .i64 ql, .int .i64 qs, .bool false, .bool false, .int .i64 m, .bool false, v])) (by kernel_rfl) ⟨_, HW.out.call (bel_drew _)⟩ (fun hHeld => ?_)
            refine wpAnyH_take (i := 0) (oi := ?_) (v := ?_) ?_ (by kernel_rfl) (by kernel_rfl) (by kernel_rfl) ?_ (Or.inl ⟨?_, ?_⟩) hHeld ?_
            rotate_left 2
            · (simp only [List.getElem?_toArray, List.getElem?_cons_zero]; rfl)
            · exact (fun _ _ _ h => h)
            · rfl
            · (intro w hSw; (try dsimp only at hSw); go_simp; try with_reducible rfl)
            (try simp only [Act.put, List.setIfInBounds_toArray, List.set_cons_zero, List.set_cons_succ])
            refine wpAnyH_take (i := 1) (oi := ?_) (v := ?_) ?_ (by kernel_rfl) (by kernel_rfl) (by kernel_rfl) ?_ (Or.inl ⟨?_, ?_⟩) hHeld ?_
            rotate_left 2
            · (simp only [List.getElem?_toArray, List.getElem?_cons_zero, List.getElem?_cons_succ]; rfl)
            · exact (fun _ _ _ h => h)
            · rfl
            · (intro w hSw; (try dsimp only at hSw); obtain ⟨_, hSw⟩ := hSw; obtain ⟨z0, z1, z2, z3, z4, z5, z6, z7, z8, z9, z10⟩ := hSw.n.c11; go_simp; try with_reducible rfl)
            (try simp only [Act.put, List.setIfInBounds_toArray, List.set_cons_zero, List.set_cons_succ])
            refine wpAnyH_take (i := 2) (oi := ?_) (v := ?_) ?_ (by kernel_rfl) (by kernel_rfl) (by kernel_rfl) ?_ (Or.inl ⟨?_, ?_⟩) hHeld ?_
            rotate_left 2
            · (simp only [List.getElem?_toArray, List.getElem?_cons_zero, List.getElem?_cons_succ]; rfl)
            · exact (fun _ _ _ h => h)
            · rfl
            · (intro w hSw; (try dsimp only at hSw); go_simp; try with_reducible rfl)
            (try simp only [Act.put, List.setIfInBounds_toArray, List.set_cons_zero, List.set_cons_succ])
            refine wpAnyH_take (i := 3) (oi := ?_) (v := ?_) ?_ (by kernel_rfl) (by kernel_rfl) (by kernel_rfl) ?_ (Or.inl ⟨?_, ?_⟩) hHeld ?_
            rotate_left 2
            · (simp only [List.getElem?_toArray, List.getElem?_cons_zero, List.getElem?_cons_succ]; rfl)
            · exact (fun _ _ _ h => h)
            · rfl
            · (intro w hSw; (try dsimp only at hSw); go_simp; try with_reducible rfl)
            (try simp only [Act.put, List.setIfInBounds_toArray, List.set_cons_zero, List.set_cons_succ])
            refine wpAnyH_take (i := 4) (oi := ?_) (v := ?_) ?_ (by kernel_rfl) (by kernel_rfl) (by kernel_rfl) ?_ (Or.inl ⟨?_, ?_⟩) hHeld ?_
            rotate_left 2
            · (simp only [List.getElem?_toArray, List.getElem?_cons_zero, List.getElem?_cons_succ]; rfl)
            · exact (fun _ _ _ h => h)
            · rfl
            · (intro w hSw; (try dsimp only at hSw); obtain ⟨_, hSw⟩ := hSw; obtain ⟨z0, z1, z2, z3, z4, z5, z6, z7, z8, z9, z10⟩ := hSw.n.c11; go_simp; try with_reducible rfl)
            (try simp only [Act.put, List.setIfInBounds_toArray, List.set_cons_zero, List.set_cons_succ])
            refine wpAnyH_take (i := 5) (oi := ?_) (v := ?_) ?_ (by kernel_rfl) (by kernel_rfl) (by kernel_rfl) ?_ (Or.inl ⟨?_, ?_⟩) hHeld ?_
            rotate_left 2
            · (simp only [List.getElem?_toArray, List.getElem?_cons_zero, List.getElem?_cons_succ]; rfl)
            · exact (fun _ _ _ h => h)
            · rfl
            · (intro w hSw; (try dsimp only at hSw); obtain ⟨_, hSw⟩ := hSw; obtain ⟨d0, d1, d2⟩ := hSw.d.three; go_simp; try with_reducible rfl)
            (try simp only [Act.put, List.setIfInBounds_toArray, List.set_cons_zero, List.set_cons_succ])
            refine wpAnyH_take (i := 6) (oi := ?_) (v := ?_) ?_ (by kernel_rfl) (by kernel_rfl) (by kernel_rfl) ?_ (Or.inl ⟨?_, ?_⟩) hHeld ?_
            rotate_left 2
            · (simp only [List.getElem?_toArray, List.getElem?_cons_zero, List.getElem?_cons_succ]; rfl)
            · exact (fun _ _ _ h => h)
            · rfl
            · (intro w hSw; (try dsimp only at hSw); go_simp; try with_reducible rfl)
            (try simp only [Act.put, List.setIfInBounds_toArray, List.set_cons_zero, List.set_cons_succ])
            refine wpAnyH_take (i := 7) (oi := ?_) (v := ?_) ?_ (by kernel_rfl) (by kernel_rfl) (by kernel_rfl) ?_ (Or.inl ⟨?_, ?_⟩) hHeld ?_
            rotate_left 2
            · (simp only [List.getElem?_toArray, List.getElem?_cons_zero, List.getElem?_cons_succ]; rfl)
            · exact (fun _ _ _ h => h)
            · rfl
            · (intro w hSw; (try dsimp only at hSw); obtain ⟨_, hSw⟩ := hSw; obtain ⟨y0, y1, y2, y3, y4⟩ := hSw.c.five; go_simp; try with_reducible rfl)
            (try simp only [Act.put, List.setIfInBounds_toArray, List.set_cons_zero, List.set_cons_succ])
            refine wpAnyH_ready (rs := [8]) (by kernel_rfl) (by simp) ?_
            refine AllReadyH.cons (o := ?_) ?_ (fun K hK => ?_) AllReadyH.nil
            rotate_left
            · (simp only [List.getElem?_toArray, List.getElem?_cons_zero, List.getElem?_cons_succ]; rfl)
            go_simp
            (with_reducible refine (HT.out _).mono ?_)
            (obtain ⟨_, HV⟩ := hHeld; rintro e w9 ⟨rfl, hb⟩)
            go_wp2_with fail
            refine hK.out _ _ ⟨_, HV.call hb⟩ (fun hHeld => ?_)
            clear hK K
            (try simp only [Act.put, List.setIfInBounds_toArray, List.set_cons_zero, List.set_cons_succ])
            refine wpAnyH_take (i := 9) (oi := ?_) (v := ?_) ?_ (by kernel_rfl) (by kernel_rfl) (by kernel_rfl) ?_ (Or.inl ⟨?_, ?_⟩) hHeld ?_
            rotate_left 2
            · (simp only [List.getElem?_toArray, List.getElem?_cons_zero, List.getElem?_cons_succ]; rfl)
            · exact (fun _ _ _ h => h)
            · rfl
            · (intro w hSw; (try dsimp only at hSw); go_simp; try with_reducible rfl)
            (try simp only [Act.put, List.setIfInBounds_toArray, List.set_cons_zero, List.set_cons_succ])
            refine wpAnyH_take (i := 10) (oi := ?_) (v := ?_) ?_ (by kernel_rfl) (by kernel_rfl) (by kernel_rfl) ?_ (Or.inl ⟨?_, ?_⟩) hHeld ?_
            rotate_left 2
            · (simp only [List.getElem?_toArray, List.getElem?_cons_zero, List.getElem?_cons_succ]; rfl)
            · exact (fun _ _ _ h => h)
            · rfl
            · (intro w hSw; (try dsimp only at hSw); go_simp; try with_reducible rfl)
            (try simp only [Act.put, List.setIfInBounds_toArray, List.set_cons_zero, List.set_cons_succ])
            refine wpAnyH_take (i := 11) (oi := ?_) (v := ?_) ?_ (by kernel_rfl) (by kernel_rfl) (by kernel_rfl) ?_ (Or.inl ⟨?_, ?_⟩) hHeld ?_
            rotate_left 2
            · (simp only [List.getElem?_toArray, List.getElem?_cons_zero, List.getElem?_cons_succ]; rfl)
            · exact (fun _ _ _ h => h)
            · rfl
            · (intro w hSw; (try dsimp only at hSw); go_simp; try with_reducible rfl)
            (try simp only [Act.put, List.setIfInBounds_toArray, List.set_cons_zero, List.set_cons_succ])
            obtain ⟨v9, hV⟩ := hHeld
            have HV := Lib.hid hV
            clear hV HW
            obtain ⟨f0, f1, f2, f3, f4, f5, f6, f7, f8, f9, f10⟩ := HV.out.n.f11
            obtain ⟨z0, z1, z2, z3, z4, z5, z6, z7, z8, z9, z10⟩ := HV.out.n.c11
            refine wpAnyH_ready (rs := [12]) (by kernel_rfl) (by simp) ?_
            refine AllReadyH.cons (o := ?_) ?_ (fun K hK => ?_) AllReadyH.nil
            rotate_left
            · (simp only [List.getElem?_toArray, List.getElem?_cons_zero, List.getElem?_cons_succ]; rfl)
            go_simp
            try rw [hv]
            replace HV := Lib.hid (HV.out.put (keep_put1 _ _ 10 (.bool c')) (HV.out.n.put10 (.bool c')))
            refine hK.out _ _ ⟨_, HV.out⟩ (fun hHeld => ?_)
            clear hK K
            refine wpAnyH_done (by kernel_rfl) ?_ _
            go_wp2_with fail
            go_meet
            exact HV.out
          case rest =>
            clear HW
            have HW := Lib.hid hcut
            clear hcut
            clear f0 f1 f2 f3 f4 f5 f6 f7 f8 f9 f10 z0 z1 z2 z3 z4 z5 z6 z7 z8 z9 z10 x8 y0 y1 y2 y3 y4
            obtain ⟨z0, z1, z2, z3, z4, z5, z6, z7, z8, z9, z10⟩ := HW.out.n.c11
            obtain ⟨v0, v1, v2, v3, v4, v5, v6, v7, v8, v9, v10⟩ := HW.out.z.c11
            obtain ⟨f0, f1, f2, f3, f4, f5, f6, f7, f8, f9, f10⟩ := HW.out.z.f11
            go_wp2_with fail
            (try simp only [Exit.inBlock, Exit.then])
            refine bodyPost_ret (v := .agg #[.bool bh, .int .i64 bi, .int .i64 bo, .bool false, .int .i64 ql, .int .i64 qs, .bool false, .bool false, .int .i64 m, .bool false, .bool c']) ?_ rfl ⟨rfl, ?_⟩
            · rw [results_cell1 rfl]
              go_simp
            · exact below_keep HW.out.bel (keep_putT _ _ _ _ _ _ _ _ _ _ _ _ _) (fun g e => by omega)
        · cases r2
          · obtain rfl : cl' = false := by rw [← hcl]; simp
            obtain rfl : m = n' := Eq.symm <| by rw [← hn]; simp
            obtain rfl : f' = false := by rw [← hf]; simp
            obtain ⟨v, hv⟩ : ∃ v, decide (wt < m) = v := ⟨_, rfl⟩
            obtain rfl : c' = v := by rw [← hc, ← hv]; simp
            clear hcl hn hf hc
            obtain ⟨f0, f1, f2, f3, f4, f5, f6, f7, f8, f9, f10⟩ := HW.out.n.f11
            obtain ⟨z0, z1, z2, z3, z4, z5, z6, z7, z8, z9, z10⟩ := HW.out.n.c11
            have x8 := HW.out.t.cell 8 (u := .int .i64 n) rfl
            obtain ⟨y0, y1, y2, y3, y4⟩ := HW.out.c.five
            go_wp2_with fail
            replace HW := Lib.hid (HW.out.put (keep_put1 W2 (w.heap.size + 1 + 1 + 1 + 1) 9 (.bool false)) (HW.out.n.put9 (.bool false)))
            generalize W2.setCell ⟨w.heap.size + 1 + 1 + 1 + 1, 9, none⟩ (.bool false) = W5 at *
            clear f0 f1 f2 f3 f4 f5 f6 f7 f8 f9 f10 z0 z1 z2 z3 z4 z5 z6 z7 z8 z9 z10 x8 y0 y1 y2 y3 y4
            obtain ⟨f0, f1, f2, f3, f4, f5, f6, f7, f8, f9, f10⟩ := HW.out.n.f11
            obtain ⟨z0, z1, z2, z3, z4, z5, z6, z7, z8, z9, z10⟩ := HW.out.n.c11
            have x8 := HW.out.t.cell 8 (u := .int .i64 n) rfl
            obtain ⟨y0, y1, y2, y3, y4⟩ := HW.out.c.five
            (with_reducible refine (HC1.out _).mono ?_)
            rintro e w5 ⟨rfl, hb⟩
            replace HW := Lib.hid (HW.out.call hb)
            clear hb
            clear f0 f1 f2 f3 f4 f5 f6 f7 f8 f9 f10 z0 z1 z2 z3 z4 z5 z6 z7 z8 z9 z10 x8 y0 y1 y2 y3 y4
            obtain ⟨f0, f1, f2, f3, f4, f5, f6, f7, f8, f9, f10⟩ := HW.out.n.f11
            obtain ⟨z0, z1, z2, z3, z4, z5, z6, z7, z8, z9, z10⟩ := HW.out.n.c11
            have x8 := HW.out.t.cell 8 (u := .int .i64 n) rfl
            obtain ⟨y0, y1, y2, y3, y4⟩ := HW.out.c.five
            go_wp2_with fail
            (with_reducible refine (HC2.out _).mono ?_)
            rintro e w6 ⟨rfl, hb⟩
            replace HW := Lib.hid (HW.out.call hb)
            clear hb
            clear f0 f1 f2 f3 f4 f5 f6 f7 f8 f9 f10 z0 z1 z2 z3 z4 z5 z6 z7 z8 z9 z10 x8 y0 y1 y2 y3 y4
            obtain ⟨f0, f1, f2, f3, f4, f5, f6, f7, f8, f9, f10⟩ := HW.out.n.f11
            obtain ⟨z0, z1, z2, z3, z4, z5, z6, z7, z8, z9, z10⟩ := HW.out.n.c11
            have x8 := HW.out.t.cell 8 (u := .int .i64 n) rfl
            obtain ⟨y0, y1, y2, y3, y4⟩ := HW.out.c.five
            go_wp2_with fail
            replace HW := Lib.hid (HW.out.put (keep_put1 w6 (w.heap.size + 1 + 1 + 1 + 1) 7 (.bool false)) (HW.out.n.put7 (.bool false)))
            (with_reducible refine (HL.out _).mono ?_)
            rintro e wl ⟨rfl, rfl⟩
            replace HW := Lib.hid (HW.out.put (keep_put1 (w6.setCell ⟨w.heap.size + 1 + 1 + 1 + 1, 7, none⟩ (.bool false)) (w.heap.size + 1 + 1 + 1 + 1) 8 (.int .i64 m)) (HW.out.n.put8 (.int .i64 m)))
            go_upto_region 12 with fail
            clear f0 f1 f2 f3 f4 f5 f6 f7 f8 f9 f10 z0 z1 z2 z3 z4 z5 z6 z7 z8 z9 z10 x8 y0 y1 y2 y3 y4
            generalize (w6.setCell ⟨w.heap.size + 1 + 1 + 1 + 1, 7, none⟩ (.bool false)).setCell ⟨w.heap.size + 1 + 1 + 1 + 1, 8, none⟩ (.int .i64 m) = W3 at *
            obtain ⟨f0, f1, f2, f3, f4, f5, f6, f7, f8, f9, f10⟩ := HW.out.n.f11
            obtain ⟨z0, z1, z2, z3, z4, z5, z6, z7, z8, z9, z10⟩ := HW.out.n.c11
            have x8 := HW.out.t.cell 8 (u := .int .i64 n) rfl
            obtain ⟨y0, y1, y2, y3, y4⟩ := HW.out.c.five
            go_cut [] (fun wx => TkW w wx #[.bool h, .int .i64 i, .int .i64 o, .bool g, .int .i64 l, .int .i64 s, .bool j, .bool cl, .int .i64 n, .bool f, .bool c] #[.bool true, .int .i64 ci, .int .i64 co, .int .i64 cs, .int .i64 li] #[.int .i64 d0, .int .i64 d1, .int .i64 d2] #[.bool false, .int .i64 0, .int .i64 0, .bool false, .int .i64 0, .int .i64 0, .bool false, .bool false, .int .i64 0, .bool false, .bool false] #[.bool bh, .int .i64 bi, .int .i64 bo, .bool false, .int .i64 ql, .int .i64 qs, .bool false, .bool false, .int .i64 m, .bool false, .bool c'])
            case first =>
              clear f0 f1 f2 f3 f4 f5 f6 f7 f8 f9 f10 z0 z1 z2 z3 z4 z5 z6 z7 z8 z9 z10 x8 y0 y1 y2 y3 y4
              refine wp_region_held_drew (S := (fun wx => ∃ v : Value, TkW w wx #[.bool h, .int .i64 i, .int .i64 o, .bool g, .int .i64 l, .int .i64 s, .bool j, .bool cl, .int .i64 n, .bool f, .bool c] #[.bool true, .int .i64 ci, .int .i64 co, .int .i64 cs, .int .i64 li] #[.int .i64 d0, .int .i64 d1, .int .i64 d2] #[.bool false, .int .i64 0, .int .i64 0, .bool false, .int .i64 0, .int .i64 0, .bool false, .bool false, .int .i64 0, .bool false, .bool false] #[.bool bh, .int .i64 bi, .int .i64 bo, .bool false, .int .i64 ql, .int .i64 qs, .bool false, .bool false, .int .i64 m, .bool false, v])) (by kernel_rfl) ⟨_, HW.out.call (bel_drew _)⟩ (fun hHeld => ?_)
              refine wpAnyH_take (i := 0) (oi := ?_) (v := ?_) ?_ (by kernel_rfl) (by kernel_rfl) (by kernel_rfl) ?_ (Or.inl ⟨?_, ?_⟩) hHeld ?_
              rotate_left 2
              · (simp only [List.getElem?_toArray, List.getElem?_cons_zero]; rfl)
              · exact (fun _ _ _ h => h)
              · rfl
              · (intro w hSw; (try dsimp only at hSw); go_simp; try with_reducible rfl)
              (try simp only [Act.put, List.setIfInBounds_toArray, List.set_cons_zero, List.set_cons_succ])
              refine wpAnyH_take (i := 1) (oi := ?_) (v := ?_) ?_ (by kernel_rfl) (by kernel_rfl) (by kernel_rfl) ?_ (Or.inl ⟨?_, ?_⟩) hHeld ?_
              rotate_left 2
              · (simp only [List.getElem?_toArray, List.getElem?_cons_zero, List.getElem?_cons_succ]; rfl)
              · exact (fun _ _ _ h => h)
              · rfl
              · (intro w hSw; (try dsimp only at hSw); obtain ⟨_, hSw⟩ := hSw; obtain ⟨z0, z1, z2, z3, z4, z5, z6, z7, z8, z9, z10⟩ := hSw.n.c11; go_simp; try with_reducible rfl)
              (try simp only [Act.put, List.setIfInBounds_toArray, List.set_cons_zero, List.set_cons_succ])
              refine wpAnyH_take (i := 2) (oi := ?_) (v := ?_) ?_ (by kernel_rfl) (by kernel_rfl) (by kernel_rfl) ?_ (Or.inl ⟨?_, ?_⟩) hHeld ?_
              rotate_left 2
              · (simp only [List.getElem?_toArray, List.getElem?_cons_zero, List.getElem?_cons_succ]; rfl)
              · exact (fun _ _ _ h => h)
              · rfl
              · (intro w hSw; (try dsimp only at hSw); go_simp; try with_reducible rfl)
              (try simp only [Act.put, List.setIfInBounds_toArray, List.set_cons_zero, List.set_cons_succ])
              refine wpAnyH_take (i := 3) (oi := ?_) (v := ?_) ?_ (by kernel_rfl) (by kernel_rfl) (by kernel_rfl) ?_ (Or.inl ⟨?_, ?_⟩) hHeld ?_
              rotate_left 2
              · (simp only [List.getElem?_toArray, List.getElem?_cons_zero, List.getElem?_cons_succ]; rfl)
              · exact (fun _ _ _ h => h)
              · rfl
              · (intro w hSw; (try dsimp only at hSw); go_simp; try with_reducible rfl)
              (try simp only [Act.put, List.setIfInBounds_toArray, List.set_cons_zero, List.set_cons_succ])
              refine wpAnyH_take (i := 4) (oi := ?_) (v := ?_) ?_ (by kernel_rfl) (by kernel_rfl) (by kernel_rfl) ?_ (Or.inl ⟨?_, ?_⟩) hHeld ?_
              rotate_left 2
              · (simp only [List.getElem?_toArray, List.getElem?_cons_zero, List.getElem?_cons_succ]; rfl)
              · exact (fun _ _ _ h => h)
              · rfl
              · (intro w hSw; (try dsimp only at hSw); obtain ⟨_, hSw⟩ := hSw; obtain ⟨z0, z1, z2, z3, z4, z5, z6, z7, z8, z9, z10⟩ := hSw.n.c11; go_simp; try with_reducible rfl)
              (try simp only [Act.put, List.setIfInBounds_toArray, List.set_cons_zero, List.set_cons_succ])
              refine wpAnyH_take (i := 5) (oi := ?_) (v := ?_) ?_ (by kernel_rfl) (by kernel_rfl) (by kernel_rfl) ?_ (Or.inl ⟨?_, ?_⟩) hHeld ?_
              rotate_left 2
              · (simp only [List.getElem?_toArray, List.getElem?_cons_zero, List.getElem?_cons_succ]; rfl)
              · exact (fun _ _ _ h => h)
              · rfl
              · (intro w hSw; (try dsimp only at hSw); obtain ⟨_, hSw⟩ := hSw; obtain ⟨d0, d1, d2⟩ := hSw.d.three; go_simp; try with_reducible rfl)
              (try simp only [Act.put, List.setIfInBounds_toArray, List.set_cons_zero, List.set_cons_succ])
              refine wpAnyH_take (i := 6) (oi := ?_) (v := ?_) ?_ (by kernel_rfl) (by kernel_rfl) (by kernel_rfl) ?_ (Or.inl ⟨?_, ?_⟩) hHeld ?_
              rotate_left 2
              · (simp only [List.getElem?_toArray, List.getElem?_cons_zero, List.getElem?_cons_succ]; rfl)
              · exact (fun _ _ _ h => h)
              · rfl
              · (intro w hSw; (try dsimp only at hSw); go_simp; try with_reducible rfl)
              (try simp only [Act.put, List.setIfInBounds_toArray, List.set_cons_zero, List.set_cons_succ])
              refine wpAnyH_take (i := 7) (oi := ?_) (v := ?_) ?_ (by kernel_rfl) (by kernel_rfl) (by kernel_rfl) ?_ (Or.inl ⟨?_, ?_⟩) hHeld ?_
              rotate_left 2
              · (simp only [List.getElem?_toArray, List.getElem?_cons_zero, List.getElem?_cons_succ]; rfl)
              · exact (fun _ _ _ h => h)
              · rfl
              · (intro w hSw; (try dsimp only at hSw); obtain ⟨_, hSw⟩ := hSw; obtain ⟨y0, y1, y2, y3, y4⟩ := hSw.c.five; go_simp; try with_reducible rfl)
              (try simp only [Act.put, List.setIfInBounds_toArray, List.set_cons_zero, List.set_cons_succ])
              refine wpAnyH_ready (rs := [8]) (by kernel_rfl) (by simp) ?_
              refine AllReadyH.cons (o := ?_) ?_ (fun K hK => ?_) AllReadyH.nil
              rotate_left
              · (simp only [List.getElem?_toArray, List.getElem?_cons_zero, List.getElem?_cons_succ]; rfl)
              go_simp
              (with_reducible refine (HT.out _).mono ?_)
              (obtain ⟨_, HV⟩ := hHeld; rintro e w9 ⟨rfl, hb⟩)
              go_wp2_with fail
              refine hK.out _ _ ⟨_, HV.call hb⟩ (fun hHeld => ?_)
              clear hK K
              (try simp only [Act.put, List.setIfInBounds_toArray, List.set_cons_zero, List.set_cons_succ])
              refine wpAnyH_take (i := 9) (oi := ?_) (v := ?_) ?_ (by kernel_rfl) (by kernel_rfl) (by kernel_rfl) ?_ (Or.inl ⟨?_, ?_⟩) hHeld ?_
              rotate_left 2
              · (simp only [List.getElem?_toArray, List.getElem?_cons_zero, List.getElem?_cons_succ]; rfl)
              · exact (fun _ _ _ h => h)
              · rfl
              · (intro w hSw; (try dsimp only at hSw); go_simp; try with_reducible rfl)
              (try simp only [Act.put, List.setIfInBounds_toArray, List.set_cons_zero, List.set_cons_succ])
              refine wpAnyH_take (i := 10) (oi := ?_) (v := ?_) ?_ (by kernel_rfl) (by kernel_rfl) (by kernel_rfl) ?_ (Or.inl ⟨?_, ?_⟩) hHeld ?_
              rotate_left 2
              · (simp only [List.getElem?_toArray, List.getElem?_cons_zero, List.getElem?_cons_succ]; rfl)
              · exact (fun _ _ _ h => h)
              · rfl
              · (intro w hSw; (try dsimp only at hSw); go_simp; try with_reducible rfl)
              (try simp only [Act.put, List.setIfInBounds_toArray, List.set_cons_zero, List.set_cons_succ])
              refine wpAnyH_take (i := 11) (oi := ?_) (v := ?_) ?_ (by kernel_rfl) (by kernel_rfl) (by kernel_rfl) ?_ (Or.inl ⟨?_, ?_⟩) hHeld ?_
              rotate_left 2
              · (simp only [List.getElem?_toArray, List.getElem?_cons_zero, List.getElem?_cons_succ]; rfl)
              · exact (fun _ _ _ h => h)
              · rfl
              · (intro w hSw; (try dsimp only at hSw); go_simp; try with_reducible rfl)
              (try simp only [Act.put, List.setIfInBounds_toArray, List.set_cons_zero, List.set_cons_succ])
              obtain ⟨v9, hV⟩ := hHeld
              have HV := Lib.hid hV
              clear hV HW
              obtain ⟨f0, f1, f2, f3, f4, f5, f6, f7, f8, f9, f10⟩ := HV.out.n.f11
              obtain ⟨z0, z1, z2, z3, z4, z5, z6, z7, z8, z9, z10⟩ := HV.out.n.c11
              refine wpAnyH_ready (rs := [12]) (by kernel_rfl) (by simp) ?_
              refine AllReadyH.cons (o := ?_) ?_ (fun K hK => ?_) AllReadyH.nil
              rotate_left
              · (simp only [List.getElem?_toArray, List.getElem?_cons_zero, List.getElem?_cons_succ]; rfl)
              go_simp
              try rw [hv]
              replace HV := Lib.hid (HV.out.put (keep_put1 _ _ 10 (.bool c')) (HV.out.n.put10 (.bool c')))
              refine hK.out _ _ ⟨_, HV.out⟩ (fun hHeld => ?_)
              clear hK K
              refine wpAnyH_done (by kernel_rfl) ?_ _
              go_wp2_with fail
              go_meet
              exact HV.out
            case rest =>
              clear HW
              have HW := Lib.hid hcut
              clear hcut
              clear f0 f1 f2 f3 f4 f5 f6 f7 f8 f9 f10 z0 z1 z2 z3 z4 z5 z6 z7 z8 z9 z10 x8 y0 y1 y2 y3 y4
              obtain ⟨z0, z1, z2, z3, z4, z5, z6, z7, z8, z9, z10⟩ := HW.out.n.c11
              obtain ⟨v0, v1, v2, v3, v4, v5, v6, v7, v8, v9, v10⟩ := HW.out.z.c11
              obtain ⟨f0, f1, f2, f3, f4, f5, f6, f7, f8, f9, f10⟩ := HW.out.z.f11
              go_wp2_with fail
              (try simp only [Exit.inBlock, Exit.then])
              refine bodyPost_ret (v := .agg #[.bool bh, .int .i64 bi, .int .i64 bo, .bool false, .int .i64 ql, .int .i64 qs, .bool false, .bool false, .int .i64 m, .bool false, .bool c']) ?_ rfl ⟨rfl, ?_⟩
              · rw [results_cell1 rfl]
                go_simp
              · exact below_keep HW.out.bel (keep_putT _ _ _ _ _ _ _ _ _ _ _ _ _) (fun g e => by omega)
          · obtain rfl : cl' = true := by rw [← hcl]; simp
            obtain rfl : n' = 0 := by rw [← hn]; simp
            obtain rfl : f' = false := by rw [← hf]; simp
            obtain rfl : c' = false := by rw [← hc]; simp
            clear hcl hn hf hc
            obtain ⟨f0, f1, f2, f3, f4, f5, f6, f7, f8, f9, f10⟩ := HW.out.n.f11
            obtain ⟨z0, z1, z2, z3, z4, z5, z6, z7, z8, z9, z10⟩ := HW.out.n.c11
            have x8 := HW.out.t.cell 8 (u := .int .i64 n) rfl
            obtain ⟨y0, y1, y2, y3, y4⟩ := HW.out.c.five
            go_wp2_with fail
            replace HW := Lib.hid (HW.out.put (keep_put1 W2 (w.heap.size + 1 + 1 + 1 + 1) 9 (.bool false)) (HW.out.n.put9 (.bool false)))
            generalize W2.setCell ⟨w.heap.size + 1 + 1 + 1 + 1, 9, none⟩ (.bool false) = W5 at *
            clear f0 f1 f2 f3 f4 f5 f6 f7 f8 f9 f10 z0 z1 z2 z3 z4 z5 z6 z7 z8 z9 z10 x8 y0 y1 y2 y3 y4
            obtain ⟨f0, f1, f2, f3, f4, f5, f6, f7, f8, f9, f10⟩ := HW.out.n.f11
            obtain ⟨z0, z1, z2, z3, z4, z5, z6, z7, z8, z9, z10⟩ := HW.out.n.c11
            have x8 := HW.out.t.cell 8 (u := .int .i64 n) rfl
            obtain ⟨y0, y1, y2, y3, y4⟩ := HW.out.c.five
            (with_reducible refine (HC1.out _).mono ?_)
            rintro e w5 ⟨rfl, hb⟩
            replace HW := Lib.hid (HW.out.call hb)
            clear hb
            clear f0 f1 f2 f3 f4 f5 f6 f7 f8 f9 f10 z0 z1 z2 z3 z4 z5 z6 z7 z8 z9 z10 x8 y0 y1 y2 y3 y4
            obtain ⟨f0, f1, f2, f3, f4, f5, f6, f7, f8, f9, f10⟩ := HW.out.n.f11
            obtain ⟨z0, z1, z2, z3, z4, z5, z6, z7, z8, z9, z10⟩ := HW.out.n.c11
            have x8 := HW.out.t.cell 8 (u := .int .i64 n) rfl
            obtain ⟨y0, y1, y2, y3, y4⟩ := HW.out.c.five
            go_wp2_with fail
            (with_reducible refine (HC2.out _).mono ?_)
            rintro e w6 ⟨rfl, hb⟩
            replace HW := Lib.hid (HW.out.call hb)
            clear hb
            clear f0 f1 f2 f3 f4 f5 f6 f7 f8 f9 f10 z0 z1 z2 z3 z4 z5 z6 z7 z8 z9 z10 x8 y0 y1 y2 y3 y4
            obtain ⟨f0, f1, f2, f3, f4, f5, f6, f7, f8, f9, f10⟩ := HW.out.n.f11
            obtain ⟨z0, z1, z2, z3, z4, z5, z6, z7, z8, z9, z10⟩ := HW.out.n.c11
            have x8 := HW.out.t.cell 8 (u := .int .i64 n) rfl
            obtain ⟨y0, y1, y2, y3, y4⟩ := HW.out.c.five
            go_upto_region 13 with fail
            replace HW := Lib.hid (HW.out.put (keep_put1 w6 (w.heap.size + 1 + 1 + 1 + 1) 7 (.bool true)) (HW.out.n.put7 (.bool true)))
            clear f0 f1 f2 f3 f4 f5 f6 f7 f8 f9 f10 z0 z1 z2 z3 z4 z5 z6 z7 z8 z9 z10 x8 y0 y1 y2 y3 y4
            generalize w6.setCell ⟨w.heap.size + 1 + 1 + 1 + 1, 7, none⟩ (.bool true) = W3 at *
            obtain ⟨z0, z1, z2, z3, z4, z5, z6, z7, z8, z9, z10⟩ := HW.out.n.c11
            obtain ⟨v0, v1, v2, v3, v4, v5, v6, v7, v8, v9, v10⟩ := HW.out.z.c11
            obtain ⟨f0, f1, f2, f3, f4, f5, f6, f7, f8, f9, f10⟩ := HW.out.z.f11
            go_wp2_with fail
            (try simp only [Exit.inBlock, Exit.then])
            refine bodyPost_ret (v := .agg #[.bool bh, .int .i64 bi, .int .i64 bo, .bool false, .int .i64 ql, .int .i64 qs, .bool false, .bool true, .int .i64 0, .bool false, .bool false]) ?_ rfl ⟨rfl, ?_⟩
            · rw [results_cell1 rfl]
              go_simp
            · exact below_keep HW.out.bel (keep_putT _ _ _ _ _ _ _ _ _ _ _ _ _) (fun g e => by omega)
end Go.Proofs.Yteknfjnfaedebaa
