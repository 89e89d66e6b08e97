/-
  fault.New, fault.numberIn, fault.Code, fault.Wrap, fault.Is by contracts.
-/
import Derived.Test.YteggehjbkbfdfaaDoorAsD
import Derived.Test.YteggehjbkbfdfaaDoorIs
import Derived.Defers
import Derived.Recover
namespace Go.Proofs.YteggehjbkbfdfaaDoor
open Go.RowKit Go.Extern.Stop Go.Stop Go.Extern

/-- What the variable errors.errorType holds. -/
def ErrType (w : World) : Prop := w.cell? ⟨0, 0, none⟩ = some (.iface 70 (.agg #[.pointer (some ⟨5, 26, none⟩)]))

theorem ErrType.below {w w' : World} (h : ErrType w) (hb : Below w.heap.size w w') : ErrType w' := keeps_below hb _ _ h
theorem ErrType.alloc {w : World} (h : ErrType w) (o : Obj) : ErrType (w.alloc o) := keeps_alloc _ _ _ _ h

theorem as_found2 (n : Int) (t : Addr) (old : Value) (ps : List ByteArray) (ty : TypeId) (x : Value) (w : World) (hch : Chain w (.iface 24 (.int .i64 n)) n ps (.iface ty x))
    (hg : ErrType w) (ht : w.cell? t = some old) (hf : w.frozen? t = false) :
    Calls Tryd.prog 17 #[.iface ty x, .iface 39 (.pointer (some t))] w
      fun e w' => e = .returned (.bool true) ∧ w'.cell? t = some (.int .i64 n) ∧ Below t.block w w' ∧ w.heap.size ≤ w'.heap.size := by
  have htl := lt_of_cell ht
  refine (as_found n t old ps ty x w hch hg ht hf).mono fun e w' ⟨he, hw⟩ => ⟨he, ?_, ?_, ?_⟩
  · subst hw
    exact World.cell?_setCell_same _ _ _ (keeps_alloc _ _ _ _ (keeps_alloc _ _ _ _ (keeps_alloc _ _ _ _ (keeps_alloc _ _ _ _ ht))))
  · subst hw
    exact ((((((Below.refl _ _).alloc (by omega) _).alloc (by simp; omega) _).alloc (by simp; omega) _).alloc (by simp; omega) _).setCell (Nat.le_refl _) _)
  · subst hw
    simp [asWorld]; omega

theorem as_none2 (t q : Addr) (w : World) (hg : ErrType w) :
    Calls Tryd.prog 17 #[.iface 65 (.pointer (some q)), .iface 39 (.pointer (some t))] w
      fun e w' => e = .returned (.bool false) ∧ Below w.heap.size w w' ∧ w.heap.size ≤ w'.heap.size := by
  refine (as_none t q w hg).mono fun e w' ⟨he, hw⟩ => ⟨he, ?_, ?_⟩
  · subst hw
    exact ((((Below.refl _ _).alloc (by omega) _).alloc (by simp) _).alloc (by simp; omega) _)
  · subst hw
    simp [asWorld]; omega

theorem numIn_idle (p : Addr) (w : World) :
    CallsD Tryd.prog 31 #[.pointer (some p)] .returning w fun e u' w' => e = .returned (.tuple #[]) ∧ u' = .returning ∧ w' = w := by
  refine callsD_of_wpS Tryd.func31 rfl fun c₀ cs hu => ?_
  apply wpS_seq
  apply wpS_region
  simp [wpOpsS, go_sem, recoverD, hu, Tryd.ntmps31, Exit.thenS]
  refine wpS_cond (t := false) (by simp [Act.eval, Array.replicate]) ?_
  simp only [Bool.false_eq_true, if_false]
  refine wpS_of_wp (wp_skip ?_)
  cases c₀
  simp_all [bodyPostS, results, Tryd.results31]

theorem two_cells (w w1 : World) (hb : Below (w.heap.size + 1) ((w.alloc (.cells #[.int .i64 0] 24)).alloc (.cells #[.int .i64 0] 24)) w1) :
    w1.cell? ⟨w.heap.size, 0, none⟩ = some (.int .i64 0) ∧ w1.frozen? ⟨w.heap.size, 0, none⟩ = false := by
  constructor
  · rw [hb.cell (by simp)]; exact keeps_alloc _ _ _ _ (by simp)
  · rw [hb.frozen (by simp)]; rw [World.frozen?_alloc_old _ _ _ (by simp)]; simp

set_option maxHeartbeats 1000000 in
theorem numIn_num (n : Int) (w : World) (hg : ErrType w) :
    Calls Tryd.prog 22 #[.iface 24 (.int .i64 n)] w fun e w' => e = .returned (.int .i64 n) ∧ Below w.heap.size w w' := by
  have hmf : ∀ (fn : Fn) (first cap : Array Value) (w : World), (Instr.makeFunc fn first cap).run Tryd.prog w = .ok (.func fn first cap) w := fun _ _ _ _ => rfl
  go_enter_defers Tryd.func22, Tryd.ntmps22
  go_wp2_with (go_at_call 17; refine (as_found2 n _ (.int .i64 0) [] _ _ _ rfl ((hg.alloc _).alloc _) (by simp) (by simp)).mono ?_; rintro e w1 ⟨rfl, hc, hb, hz⟩; obtain ⟨hr, hrf⟩ := two_cells w w1 hb)
  refine leaves_cons (f := 31) (args := #[.pointer (some ⟨w.heap.size, 0, none⟩)]) (by simp) (by simp [go_sem]) ?_
  refine (numIn_idle ⟨w.heap.size, 0, none⟩ _).mono ?_
  rintro e u' w'' ⟨rfl, rfl, rfl⟩
  have hfin : Below w.heap.size w (w1.setCell ⟨w.heap.size, 0, none⟩ (.int .i64 n)) :=
    ((((Below.refl _ w).alloc (Nat.le_refl _) _).alloc (by simp) _).trans (hb.mono (by omega))).setCell (Nat.le_refl _) _
  have hcell : (w1.setCell ⟨w.heap.size, 0, none⟩ (.int .i64 n)).cell? ⟨w.heap.size, 0, none⟩ = some (.int .i64 n) := World.cell?_setCell_same _ _ _ hr
  simp [Leaves, settle, results, Tryd.results22, go_sem, hcell, hfin]

set_option maxHeartbeats 1000000 in
theorem numIn_plain (q : Addr) (w : World) (hg : ErrType w) :
    Calls Tryd.prog 22 #[.iface 65 (.pointer (some q))] w fun e w' => e = .returned (.int .i64 99) ∧ Below w.heap.size w w' := by
  have hmf : ∀ (fn : Fn) (first cap : Array Value) (w : World), (Instr.makeFunc fn first cap).run Tryd.prog w = .ok (.func fn first cap) w := fun _ _ _ _ => rfl
  go_enter_defers Tryd.func22, Tryd.ntmps22
  go_wp2_with (go_at_call 17; refine (as_none2 _ _ _ ((hg.alloc _).alloc _)).mono ?_; rintro e w1 ⟨rfl, hb, hz⟩; obtain ⟨hr, hrf⟩ := two_cells w w1 (hb.mono (by simp)))
  refine leaves_cons (f := 31) (args := #[.pointer (some ⟨w.heap.size, 0, none⟩)]) (by simp) (by simp [go_sem]) ?_
  refine (numIn_idle ⟨w.heap.size, 0, none⟩ _).mono ?_
  rintro e u' w'' ⟨rfl, rfl, rfl⟩
  have hfin : Below w.heap.size w (w1.setCell ⟨w.heap.size, 0, none⟩ (.int .i64 99)) :=
    ((((Below.refl _ w).alloc (Nat.le_refl _) _).alloc (by simp) _).trans (hb.mono (by simp; omega))).setCell (Nat.le_refl _) _
  have hcell : (w1.setCell ⟨w.heap.size, 0, none⟩ (.int .i64 99)).cell? ⟨w.heap.size, 0, none⟩ = some (.int .i64 99) := World.cell?_setCell_same _ _ _ hr
  simp [Leaves, settle, results, Tryd.results22, go_sem, hcell, hfin]

theorem assertPP (v : Value) (xT : TypeId) (w : World) : (Instr.typeAssert (.iface 45 v) xT 45 true).run Tryd.prog w = .ok (.tuple #[v, .bool true]) w := by kernel_rfl
theorem assertPE (v : Value) (xT : TypeId) (w : World) : (Instr.typeAssert (.iface 24 v) xT 45 true).run Tryd.prog w = .ok (.tuple #[.pointer none, .bool false]) w := by kernel_rfl
theorem assertPS (v : Value) (xT : TypeId) (w : World) : (Instr.typeAssert (.iface 65 v) xT 45 true).run Tryd.prog w = .ok (.tuple #[.pointer none, .bool false]) w := by kernel_rfl
theorem assertPNil (xT : TypeId) (w : World) : (Instr.typeAssert .nilIface xT 45 true).run Tryd.prog w = .ok (.tuple #[.pointer none, .bool false]) w := by kernel_rfl

theorem code_nil (w : World) : Calls Tryd.prog 11 #[.nilIface] w fun e w' => e = .returned (.int .i64 0) ∧ w = w' := by
  go_enter Tryd.func11, Tryd.ntmps11
  go_wp2
  go_ret
  exact ⟨rfl, rfl⟩

theorem code_place (b : Nat) (n : Int) (w : World) (h1 : w.cell? ⟨b, 1, none⟩ = some (.int .i64 n)) :
    Calls Tryd.prog 11 #[.iface 45 (.pointer (some ⟨b, 0, none⟩))] w fun e w' => e = .returned (.int .i64 n) ∧ w = w' := by
  have a1 := assertPP
  go_enter Tryd.func11, Tryd.ntmps11
  go_wp2
  go_ret
  exact ⟨rfl, rfl⟩

theorem code_num (n : Int) (w : World) (hg : ErrType w) :
    Calls Tryd.prog 11 #[.iface 24 (.int .i64 n)] w fun e w' => e = .returned (.int .i64 n) ∧ Below w.heap.size w w' := by
  have a1 := assertPE
  go_enter Tryd.func11, Tryd.ntmps11
  go_wp2_with (go_at_call 22; refine (numIn_num n _ hg).mono ?_; rintro e w1 ⟨rfl, hb⟩)
  go_ret
  exact ⟨rfl, hb⟩

theorem code_plain (q : Addr) (w : World) (hg : ErrType w) :
    Calls Tryd.prog 11 #[.iface 65 (.pointer (some q))] w fun e w' => e = .returned (.int .i64 99) ∧ Below w.heap.size w w' := by
  have a1 := assertPS
  go_enter Tryd.func11, Tryd.ntmps11
  go_wp2_with (go_at_call 22; refine (numIn_plain q _ hg).mono ?_; rintro e w1 ⟨rfl, hb⟩)
  go_ret
  exact ⟨rfl, hb⟩

theorem new_ok (s : ByteArray) (w : World) : Calls Tryd.prog 21 #[.int .i64 0, .string s] w fun e w' => e = .returned .nilIface ∧ w = w' := by
  go_enter Tryd.func21, Tryd.ntmps21
  go_wp2
  go_ret
  exact ⟨rfl, rfl⟩

theorem new_num (n : Int) (hn : n ≠ 0) (s : ByteArray) (w : World) :
    Calls Tryd.prog 21 #[.int .i64 n, .string s] w fun e w' => e = .returned (.iface 45 (.pointer (some ⟨w.heap.size, 0, none⟩))) ∧ w' = w.alloc (.cells #[.string s, .int .i64 n, .iface 24 (.int .i64 n)] 48) := by
  have h0 : (n == 0) = false := by simp [hn]
  go_enter Tryd.func21, Tryd.ntmps21
  go_wp2
  go_ret
  exact ⟨rfl, rfl⟩

theorem wrap_nil (s : ByteArray) (w : World) : Calls Tryd.prog 19 #[.nilIface, .string s] w fun e w' => e = .returned .nilIface ∧ w = w' := by
  go_enter Tryd.func19, Tryd.ntmps19
  go_wp2
  go_ret
  exact ⟨rfl, rfl⟩

theorem wrap_place (b : Nat) (n : Int) (s : ByteArray) (w : World) (h1 : w.cell? ⟨b, 1, none⟩ = some (.int .i64 n)) :
    Calls Tryd.prog 19 #[.iface 45 (.pointer (some ⟨b, 0, none⟩)), .string s] w fun e w' => e = .returned (.iface 45 (.pointer (some ⟨w.heap.size, 0, none⟩))) ∧ w' = w.alloc (.cells #[.string s, .int .i64 n, .iface 45 (.pointer (some ⟨b, 0, none⟩))] 48) := by
  go_enter Tryd.func19, Tryd.ntmps19
  go_wp2_with (go_at_call 11; refine (code_place b n _ h1).mono ?_; rintro e w1 ⟨rfl, rfl⟩)
  go_ret
  exact ⟨rfl, rfl⟩

theorem wrap_plain (q : Addr) (s : ByteArray) (w : World) (hg : ErrType w) :
    Calls Tryd.prog 19 #[.iface 65 (.pointer (some q)), .string s] w fun e w' => ∃ b, e = .returned (.iface 45 (.pointer (some ⟨b, 0, none⟩))) ∧ w'.cell? ⟨b, 0, none⟩ = some (.string s) ∧ w'.cell? ⟨b, 1, none⟩ = some (.int .i64 99) ∧ w'.cell? ⟨b, 2, none⟩ = some (.iface 65 (.pointer (some q))) ∧ Below w.heap.size w w' := by
  go_enter Tryd.func19, Tryd.ntmps19
  go_wp2_with (go_at_call 11; refine (code_plain q _ hg).mono ?_; rintro e w1 ⟨rfl, hb⟩)
  go_ret
  exact ⟨w1.heap.size, rfl, by simp, by simp, by simp, hb.alloc hb.size _⟩

theorem fis_nil (m : Int) (w : World) : Calls Tryd.prog 15 #[.nilIface, .int .i64 m] w fun e w' => e = .returned (.bool (0 == m)) ∧ w = w' := by
  go_enter Tryd.func15, Tryd.ntmps15
  go_wp2_with (first | (go_at_call 11; refine (code_nil _).mono ?_; rintro e w1 ⟨rfl, rfl⟩) | (go_at_call 16; refine (is_num _ _ _).mono ?_; rintro e w1 ⟨rfl, rfl⟩))
  go_ret
  exact ⟨rfl, rfl⟩

theorem fis_place (b : Nat) (n m : Int) (w : World) (h1 : w.cell? ⟨b, 1, none⟩ = some (.int .i64 n)) :
    Calls Tryd.prog 15 #[.iface 45 (.pointer (some ⟨b, 0, none⟩)), .int .i64 m] w fun e w' => e = .returned (.bool (n == m)) ∧ w = w' := by
  go_enter Tryd.func15, Tryd.ntmps15
  go_wp2_with (first | (go_at_call 11; refine (code_place b n _ h1).mono ?_; rintro e w1 ⟨rfl, rfl⟩) | (go_at_call 16; refine (is_num _ _ _).mono ?_; rintro e w1 ⟨rfl, rfl⟩))
  go_ret
  exact ⟨rfl, rfl⟩

theorem fis_num (n m : Int) (w : World) (hg : ErrType w) :
    Calls Tryd.prog 15 #[.iface 24 (.int .i64 n), .int .i64 m] w fun e w' => e = .returned (.bool (n == m)) ∧ Below w.heap.size w w' := by
  go_enter Tryd.func15, Tryd.ntmps15
  go_wp2_with (first | (go_at_call 11; refine (code_num n _ hg).mono ?_; rintro e w1 ⟨rfl, hb⟩) | (go_at_call 16; refine (is_num _ _ _).mono ?_; rintro e w1 ⟨rfl, rfl⟩))
  go_ret
  exact ⟨rfl, hb⟩
end Go.Proofs.YteggehjbkbfdfaaDoor
