/-
  errors.As at a target of type *api.Errno: the walks. 'Chain': an error that came through places, as it lies in memory.
-/
import Derived.Test.YteggehjbkbfdfaaDoorAs
import Derived.Below
import Derived.Lib.Hide
namespace Go.Proofs.YteggehjbkbfdfaaDoor
open Go.RowKit Go.Extern.Stop Go.Stop Go.Extern

/-- The error 'v' came through the places 'ps' (the outermost first), bears the number n, and has 'base' behind the last place. -/
def Chain (w : World) (base : Value) (n : Int) : List ByteArray → Value → Prop
  | [], v => v = base
  | p :: ps, v => ∃ b u, v = .iface 45 (.pointer (some ⟨b, 0, none⟩)) ∧ w.cell? ⟨b, 0, none⟩ = some (.string p) ∧ w.cell? ⟨b, 1, none⟩ = some (.int .i64 n) ∧ w.cell? ⟨b, 2, none⟩ = some u ∧ Chain w base n ps u

theorem Chain.shape {w : World} {tb : TypeId} {xb : Value} {n : Int} {ps : List ByteArray} {v : Value} (h : Chain w (.iface tb xb) n ps v) : ∃ t x, v = .iface t x := by
  cases ps with
  | nil => exact ⟨_, _, h⟩
  | cons p ps => obtain ⟨b, u, rfl, _⟩ := h; exact ⟨_, _, rfl⟩

theorem lt_of_cell {w : World} {a : Addr} {v : Value} (h : w.cell? a = some v) : a.block < w.heap.size := by
  rcases Nat.lt_or_ge a.block w.heap.size with h1 | h1
  · exact h1
  · simp [World.cell?, Array.getElem?_eq_none h1] at h

theorem Chain.kept {w w' : World} {base : Value} {n : Int} (hk : ∀ a v, w.cell? a = some v → w'.cell? a = some v) :
    ∀ {ps : List ByteArray} {v : Value}, Chain w base n ps v → Chain w' base n ps v
  | [], _, h => h
  | _ :: _, _, ⟨b, u, e, h0, h1, h2, h3⟩ => ⟨b, u, e, hk _ _ h0, hk _ _ h1, hk _ _ h2, Chain.kept hk h3⟩

theorem keeps_alloc (w : World) (o : Obj) : ∀ a v, w.cell? a = some v → (w.alloc o).cell? a = some v := by
  intro a v h
  rw [World.cell?_alloc_lt _ _ a (lt_of_cell h)]; exact h

theorem keeps_below {w w' : World} (hb : Below w.heap.size w w') : ∀ a v, w.cell? a = some v → w'.cell? a = some v := by
  intro a v h
  rw [hb.cell (lt_of_cell h)]; exact h

/-- The entry of a function of internal/reflectlite, by its own rule. -/
theorem xTypeOf (args : Array Value) (w : World) : (callFunc 24 args).run Tryd.prog w = (((ReflectliteType.typeOf) args).run Tryd.prog w).andThen fun v w' => .ok (.value v) w' :=
  run_callFunc_extern (e := ReflectliteType.typeOf) Tryd.func24 (by kernel_rfl) (by kernel_rfl) (by kernel_rfl) (by kernel_rfl) args w
theorem xAssign (args : Array Value) (w : World) : (callFunc 82 args).run Tryd.prog w = ((((ReflectliteType.relation "AssignableTo" ReflectliteType.assignableTo)) args).run Tryd.prog w).andThen fun v w' => .ok (.value v) w' :=
  run_callFunc_extern (e := (ReflectliteType.relation "AssignableTo" ReflectliteType.assignableTo)) Tryd.func82 (by kernel_rfl) (by kernel_rfl) (by kernel_rfl) (by kernel_rfl) args w
theorem xVElem (args : Array Value) (w : World) : (callFunc 32 args).run Tryd.prog w = ((((ReflectliteValue.method (ReflectliteValue.valueError "reflectlite.Value.Elem" 0) ReflectliteValue.elem)) args).run Tryd.prog w).andThen fun v w' => .ok (.value v) w' :=
  run_callFunc_extern (e := (ReflectliteValue.method (ReflectliteValue.valueError "reflectlite.Value.Elem" 0) ReflectliteValue.elem)) Tryd.func32 (by kernel_rfl) (by kernel_rfl) (by kernel_rfl) (by kernel_rfl) args w
theorem xVSet (args : Array Value) (w : World) : (callFunc 33 args).run Tryd.prog w = (((ReflectliteValue.set) args).run Tryd.prog w).andThen fun v w' => .ok (.value v) w' :=
  run_callFunc_extern (e := ReflectliteValue.set) Tryd.func33 (by kernel_rfl) (by kernel_rfl) (by kernel_rfl) (by kernel_rfl) args w
theorem xValueOf (args : Array Value) (w : World) : (callFunc 26 args).run Tryd.prog w = ((((fun args => ReflectliteValue.unpack (args.getD 0 (.tuple #[])))) args).run Tryd.prog w).andThen fun v w' => .ok (.value v) w' :=
  run_callFunc_extern (e := (fun args => ReflectliteValue.unpack (args.getD 0 (.tuple #[])))) Tryd.func26 (by kernel_rfl) (by kernel_rfl) (by kernel_rfl) (by kernel_rfl) args w
theorem xVType (args : Array Value) (w : World) : (callFunc 27 args).run Tryd.prog w = ((((ReflectliteValue.methodAny (ReflectliteValue.valueError "reflectlite.Value.Type" 0) (fun t _ _ _ => ReflectliteType.toType t))) args).run Tryd.prog w).andThen fun v w' => .ok (.value v) w' :=
  run_callFunc_extern (e := (ReflectliteValue.methodAny (ReflectliteValue.valueError "reflectlite.Value.Type" 0) (fun t _ _ _ => ReflectliteType.toType t))) Tryd.func27 (by kernel_rfl) (by kernel_rfl) (by kernel_rfl) (by kernel_rfl) args w
theorem xVIsNil (args : Array Value) (w : World) : (callFunc 28 args).run Tryd.prog w = ((((ReflectliteValue.method (ReflectliteValue.valueError "reflectlite.Value.IsNil" 0) ReflectliteValue.isNil)) args).run Tryd.prog w).andThen fun v w' => .ok (.value v) w' :=
  run_callFunc_extern (e := (ReflectliteValue.method (ReflectliteValue.valueError "reflectlite.Value.IsNil" 0) ReflectliteValue.isNil)) Tryd.func28 (by kernel_rfl) (by kernel_rfl) (by kernel_rfl) (by kernel_rfl) args w
theorem xKind (args : Array Value) (w : World) : (callFunc 61 args).run Tryd.prog w = ((((ReflectliteType.abiMethod fun t => do pure (.int .u8 (← Rtype.kind t)))) args).run Tryd.prog w).andThen fun v w' => .ok (.value v) w' :=
  run_callFunc_extern (e := (ReflectliteType.abiMethod fun t => do pure (.int .u8 (← Rtype.kind t)))) Tryd.func61 (by kernel_rfl) (by kernel_rfl) (by kernel_rfl) (by kernel_rfl) args w
theorem xElem (args : Array Value) (w : World) : (callFunc 84 args).run Tryd.prog w = ((((ReflectliteType.method ReflectliteType.elem)) args).run Tryd.prog w).andThen fun v w' => .ok (.value v) w' :=
  run_callFunc_extern (e := (ReflectliteType.method ReflectliteType.elem)) Tryd.func84 (by kernel_rfl) (by kernel_rfl) (by kernel_rfl) (by kernel_rfl) args w
theorem xImpl (args : Array Value) (w : World) : (callFunc 85 args).run Tryd.prog w = ((((ReflectliteType.relation "Implements" ReflectliteType.implements_)) args).run Tryd.prog w).andThen fun v w' => .ok (.value v) w' :=
  run_callFunc_extern (e := (ReflectliteType.relation "Implements" ReflectliteType.implements_)) Tryd.func85 (by kernel_rfl) (by kernel_rfl) (by kernel_rfl) (by kernel_rfl) args w

theorem pUnwrap_any (b : Nat) (u : Value) (w : World) (h2 : w.cell? ⟨b, 2, none⟩ = some u) :
    Calls Tryd.prog 66 #[.pointer (some ⟨b, 0, none⟩)] w fun e w' => e = .returned u ∧ w = w' := by
  go_enter Tryd.func66, Tryd.ntmps66
  go_wp2
  go_ret
  exact ⟨rfl, rfl⟩

set_option maxHeartbeats 4000000 in
theorem as_loop (n : Int) (t a : Addr) (old : Value) (ps : List ByteArray) (v : Value) (w : World) (hch : Chain w (.iface 24 (.int .i64 n)) n ps v)
    (ha : w.cell? a = some (.pointer (some t))) (ht : w.cell? t = some old) (hf : w.frozen? t = false) :
    Calls Tryd.prog 29 #[v, .iface 39 (.pointer (some t)), .agg #[.pointer (some ⟨5, 39, none⟩), .pointer (some a), .int .u64 150], .iface 70 (.agg #[.pointer (some ⟨5, 24, none⟩)])] w
      fun e w' => e = .returned (.bool true) ∧ w' = ((w.alloc (.cells #[.pointer (some ⟨5, 39, none⟩), .pointer (some a), .int .u64 150] 58)).alloc (.cells #[.int .i64 n] 24)).setCell t (.int .i64 n) := by
  have x1 := xTypeOf
  have x2 := xAssign
  have x3 := xVElem
  have x4 := xVSet
  have x5 := xValueOf
  have tE := typeOfE
  have tP := typeOfP
  have mA := methodAssignableTo
  have aE := assignableE
  have aP := assignableP
  have vE := valueOfE
  have hU := hasUnwrapP
  have nA := noAsP
  have mU := methodUnwrapP
  have htl := lt_of_cell ht
  have hal := lt_of_cell ha
  have el := elemVPE a t (w.alloc (.cells #[.pointer (some ⟨5, 39, none⟩), .pointer (some a), .int .u64 150] 58)) (keeps_alloc _ _ _ _ ha)
  have st := setE t ⟨w.heap.size + 1, 0, none⟩ n old ((w.alloc (.cells #[.pointer (some ⟨5, 39, none⟩), .pointer (some a), .int .u64 150] 58)).alloc (.cells #[.int .i64 n] 24))
    (by rw [World.cell?_alloc_at _ _ _ _ (by simp)]; rfl)
    (keeps_alloc _ _ _ _ (keeps_alloc _ _ _ _ ht))
    (by rw [World.frozen?_alloc_old _ _ t (by simp; omega), World.frozen?_alloc_old _ _ t (Nat.ne_of_lt htl)]; exact hf)
  have HC := Lib.hid hch
  clear hch
  go_enter Tryd.func29, Tryd.ntmps29
  go_wp2
  go_loopg [0] (ps.length) (fun k x wr => ∃ qs, qs.length = k ∧ Chain w (.iface 24 (.int .i64 n)) n qs x ∧ wr = w.alloc (.cells #[.pointer (some ⟨5, 39, none⟩), .pointer (some a), .int .u64 150] 58))
  case atStart => exact ⟨ps, rfl, HC.out, rfl⟩
  case round =>
    obtain ⟨qs, rfl, hq, rfl⟩ := hrel
    cases qs with
    | nil =>
      simp only [Chain] at hq
      subst hq
      go_wp2
      go_ret
      exact ⟨rfl, rfl⟩
    | cons p qs =>
      obtain ⟨b, u, rfl, h0, h1, h2, h3⟩ := hq
      obtain ⟨tu, xu, rfl⟩ := h3.shape
      have H3 := Lib.hid h3
      clear h3
      have h2' := keeps_alloc w (.cells #[.pointer (some ⟨5, 39, none⟩), .pointer (some a), .int .u64 150] 58) _ _ h2
      clear h0 h1 h2
      go_wp2
      go_roundg qs.length
      case measure => simp
      case rel => exact ⟨qs, rfl, H3.out, rfl⟩
end Go.Proofs.YteggehjbkbfdfaaDoor
