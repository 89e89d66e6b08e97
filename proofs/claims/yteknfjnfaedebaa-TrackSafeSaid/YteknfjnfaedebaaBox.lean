/-
  The boxes of a law's arguments: a track, what is told of it, the delays.
-/
import Derived.Test.YteknfjnfaedebaaSmall
namespace Go.Proofs.Yteknfjnfaedebaa
open Go.RowKit

structure TcD (w wx : World) (T C D : Array Value) : Prop where
  bel : Below w.heap.size w wx
  t : Blk wx w.heap.size T 31
  c : Blk wx (w.heap.size + 1) C 34
  d : Blk wx (w.heap.size + 1 + 1) D 23
theorem tcd_new (w : World) (T C D : Array Value) : TcD w (((w.alloc (.cells T 31)).alloc (.cells C 34)).alloc (.cells D 23)) T C D := by
  have b1 := blk_new w T 31
  have b2 := blk_new (w.alloc (.cells T 31)) C 34
  have b3 := blk_new ((w.alloc (.cells T 31)).alloc (.cells C 34)) D 23
  have k2 := below_alloc (Below.refl _ (w.alloc (.cells T 31))) (.cells C 34)
  have k3 := below_alloc (Below.refl _ ((w.alloc (.cells T 31)).alloc (.cells C 34))) (.cells D 23)
  rw [show (w.alloc (.cells T 31)).heap.size = w.heap.size + 1 by simp] at b2
  rw [show ((w.alloc (.cells T 31)).alloc (.cells C 34)).heap.size = w.heap.size + 1 + 1 by simp] at b3
  exact ⟨below_alloc (below_alloc (below_alloc (Below.refl _ w) _) _) _, (b1.below k2).below k3, b2.below k3, b3⟩
theorem TcD.call {w wx w' : World} {T C D : Array Value} (h : TcD w wx T C D) (hb : Below wx.heap.size wx w') : TcD w w' T C D := ⟨below_call h.bel hb, h.t.below hb, h.c.below hb, h.d.below hb⟩
theorem TcD.keep {w wx w' : World} {T C D : Array Value} (h : TcD w wx T C D) {g : Nat} (k : Keep (fun x => x = g) wx w') (hg : w.heap.size + 1 + 1 < g) : TcD w w' T C D :=
  ⟨below_keep h.bel k (fun g e => by omega), h.t.keep k (by omega), h.c.keep k (by omega), h.d.keep k (by omega)⟩
theorem TcD.fresh {w wx : World} {T D : Array Value} {c0 c1 c2 c3 c4 : Value} (h : TcD w wx T #[c0, c1, c2, c3, c4] D) (u : Value) : TcD w (wx.setCell ⟨w.heap.size + 1, 0, none⟩ u) T #[u, c1, c2, c3, c4] D :=
  ⟨below_keep h.bel (keep_put1 wx (w.heap.size + 1) 0 u) (fun g e => by omega), h.t.keep (keep_put1 wx (w.heap.size + 1) 0 u) (by omega), h.c.set_ 0 u, h.d.keep (keep_put1 wx (w.heap.size + 1) 0 u) (by omega)⟩
theorem TcD.over {w wx : World} {T C D : Array Value} (h : TcD w wx T C D) : w.heap.size + 1 + 1 < wx.heap.size := h.d.lt
/-- The blocks of a law's own: the delays, the track. -/
structure TrW (w wx : World) (D : Array Value) (g : Nat) (X : Array Value) : Prop where
  bel : Below w.heap.size w wx
  d : Blk wx w.heap.size D 23
  t : Blk wx g X 31
  lt : w.heap.size < g
theorem TrW.call {w wx w' : World} {D X : Array Value} {g : Nat} (h : TrW w wx D g X) (hb : Below wx.heap.size wx w') : TrW w w' D g X := ⟨below_call h.bel hb, h.d.below hb, h.t.below hb, h.lt⟩
theorem TrW.put {w wx : World} {D : Array Value} {g : Nat} {c0 c1 c2 c3 c4 c5 c6 c7 c8 c9 c10 : Value} (h : TrW w wx D g #[c0, c1, c2, c3, c4, c5, c6, c7, c8, c9, c10]) (u0 u1 u2 u3 u4 u5 u6 u7 u8 u9 u10 : Value) : TrW w (((((((((((wx.setCell ⟨g, 0, none⟩ u0).setCell ⟨g, 1, none⟩ u1).setCell ⟨g, 2, none⟩ u2).setCell ⟨g, 3, none⟩ u3).setCell ⟨g, 4, none⟩ u4).setCell ⟨g, 5, none⟩ u5).setCell ⟨g, 6, none⟩ u6).setCell ⟨g, 7, none⟩ u7).setCell ⟨g, 8, none⟩ u8).setCell ⟨g, 9, none⟩ u9).setCell ⟨g, 10, none⟩ u10) D g #[u0, u1, u2, u3, u4, u5, u6, u7, u8, u9, u10] :=
  ⟨below_keep h.bel (keep_putT wx g u0 u1 u2 u3 u4 u5 u6 u7 u8 u9 u10) (fun x e => by have := h.lt; omega), h.d.keep (keep_putT wx g u0 u1 u2 u3 u4 u5 u6 u7 u8 u9 u10) (Nat.ne_of_lt h.lt), h.t.putT u0 u1 u2 u3 u4 u5 u6 u7 u8 u9 u10, h.lt⟩
end Go.Proofs.Yteknfjnfaedebaa
