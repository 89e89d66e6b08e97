/-
  errors.As at a target of type *api.Errno: the number behind the places is found; in an errors.New error none is found.
-/
import Derived.Test.YteggehjbkbfdfaaDoorAsC
namespace Go.Proofs.YteggehjbkbfdfaaDoor
open Go.RowKit Go.Extern.Stop Go.Stop Go.Extern

set_option maxHeartbeats 4000000 in
theorem as_loop_none (t a q : Addr) (w : World) :
    Calls Tryd.prog 29 #[.iface 65 (.pointer (some q)), .iface 39 (.pointer (some t)), .agg #[.pointer (some ⟨5, 39, none⟩), .pointer (some a), .int .u64 150], .iface 70 (.agg #[.pointer (some ⟨5, 24, none⟩)])] w
      fun e w' => e = .returned (.bool false) ∧ w' = w.alloc (.cells #[.pointer (some ⟨5, 39, none⟩), .pointer (some a), .int .u64 150] 58) := by
  have x1 := xTypeOf
  have x2 := xAssign
  have tS := typeOfS
  have mA := methodAssignableTo
  have aS := assignableS
  have nA := noAsS
  have nU := noUnwrapS
  have nV := noUnwrapsS
  go_enter Tryd.func29, Tryd.ntmps29
  go_wp2
  refine wp_loop_rounds 1 ?_
  rw [rounds_succ]
  go_wp2
  go_ret
  exact ⟨rfl, rfl⟩

/-- Where errors.As has put its copies: the world ahead of errors.as. -/
def asWorld (w : World) (t : Addr) : World := (w.alloc (.cells #[.pointer (some t)] 39)).alloc (.cells #[.pointer (some ⟨5, 39, none⟩), .pointer (some ⟨w.heap.size, 0, none⟩), .int .u64 150] 58)

set_option maxHeartbeats 4000000 in
theorem as_found (n : Int) (t : Addr) (old : Value) (ps : List ByteArray) (ty : TypeId) (x : Value) (w : World) (hch : Chain w (.iface 24 (.int .i64 n)) n ps (.iface ty x))
    (hg : w.cell? ⟨0, 0, none⟩ = some (.iface 70 (.agg #[.pointer (some ⟨5, 26, none⟩)])))
    (ht : w.cell? t = some old) (hf : w.frozen? t = false) :
    Calls Tryd.prog 17 #[.iface ty x, .iface 39 (.pointer (some t))] w
      fun e w' => e = .returned (.bool true) ∧ w' = (((asWorld w t).alloc (.cells #[.pointer (some ⟨5, 39, none⟩), .pointer (some ⟨w.heap.size, 0, none⟩), .int .u64 150] 58)).alloc (.cells #[.int .i64 n] 24)).setCell t (.int .i64 n) := by
  have x1 := xValueOf
  have x2 := xVType
  have x3 := xVIsNil
  have x4 := xKind
  have x5 := xElem
  have x6 := xImpl
  have f1 := valueOfPE
  have f2 := typePE
  have mK := methodKind
  have mE := methodElem
  have mI := methodImplements
  have k1 := kindPE
  have k2 := kindE
  have e1 := elemPE
  have i1 := implementsE
  have hlt := lt_of_cell hg
  have htl := lt_of_cell ht
  have n8 := isNilPE ⟨w.heap.size, 0, none⟩ t ((w.alloc (.cells #[.pointer (some t)] 39)).alloc (.cells #[.pointer (some ⟨5, 39, none⟩), .pointer (some ⟨w.heap.size, 0, none⟩), .int .u64 150] 58)) (by simp)
  have hg2 := keeps_alloc _ (.cells #[.pointer (some ⟨5, 39, none⟩), .pointer (some ⟨w.heap.size, 0, none⟩), .int .u64 150] 58) _ _ (keeps_alloc w (.cells #[.pointer (some t)] 39) _ _ hg)
  have hc := as_loop n t ⟨w.heap.size, 0, none⟩ old ps (.iface ty x) (asWorld w t) (hch.kept fun a v h => keeps_alloc _ _ _ _ (keeps_alloc _ _ _ _ h)) (by simp [asWorld])
    (keeps_alloc _ _ _ _ (keeps_alloc _ _ _ _ ht))
    (by unfold asWorld; rw [World.frozen?_alloc_old _ _ t (by simp; omega), World.frozen?_alloc_old _ _ t (Nat.ne_of_lt htl)]; exact hf)
  have HC := Lib.hid hc
  clear hc hch
  go_enter Tryd.func17, Tryd.ntmps17
  go_wp2_with (go_at_call 29; refine HC.out.mono ?_; rintro e w' ⟨rfl, rfl⟩)
  go_ret
  exact ⟨rfl, rfl⟩

set_option maxHeartbeats 4000000 in
theorem as_none (t q : Addr) (w : World)
    (hg : w.cell? ⟨0, 0, none⟩ = some (.iface 70 (.agg #[.pointer (some ⟨5, 26, none⟩)]))) :
    Calls Tryd.prog 17 #[.iface 65 (.pointer (some q)), .iface 39 (.pointer (some t))] w
      fun e w' => e = .returned (.bool false) ∧ w' = (asWorld w t).alloc (.cells #[.pointer (some ⟨5, 39, none⟩), .pointer (some ⟨w.heap.size, 0, none⟩), .int .u64 150] 58) := by
  have x1 := xValueOf
  have x2 := xVType
  have x3 := xVIsNil
  have x4 := xKind
  have x5 := xElem
  have x6 := xImpl
  have f1 := valueOfPE
  have f2 := typePE
  have mK := methodKind
  have mE := methodElem
  have mI := methodImplements
  have k1 := kindPE
  have k2 := kindE
  have e1 := elemPE
  have i1 := implementsE
  have hlt := lt_of_cell hg
  have n8 := isNilPE ⟨w.heap.size, 0, none⟩ t ((w.alloc (.cells #[.pointer (some t)] 39)).alloc (.cells #[.pointer (some ⟨5, 39, none⟩), .pointer (some ⟨w.heap.size, 0, none⟩), .int .u64 150] 58)) (by simp)
  have hg2 := keeps_alloc _ (.cells #[.pointer (some ⟨5, 39, none⟩), .pointer (some ⟨w.heap.size, 0, none⟩), .int .u64 150] 58) _ _ (keeps_alloc w (.cells #[.pointer (some t)] 39) _ _ hg)
  have hc := as_loop_none t ⟨w.heap.size, 0, none⟩ q (asWorld w t)
  have HC := Lib.hid hc
  clear hc
  go_enter Tryd.func17, Tryd.ntmps17
  go_wp2_with (go_at_call 29; refine HC.out.mono ?_; rintro e w' ⟨rfl, rfl⟩)
  go_ret
  exact ⟨rfl, rfl⟩
end Go.Proofs.YteggehjbkbfdfaaDoor
