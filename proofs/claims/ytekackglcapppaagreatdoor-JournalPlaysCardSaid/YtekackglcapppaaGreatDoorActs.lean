/-
  Deeds among the arguments; Few.
-/
import Derived.Test.YtekackglcapppaaGreatDoorEls
import Derived.Test.YtekackglcapppaaGreatDoorFrame

namespace Go.Proofs.YtekackglcapppaaGreatDoor
open Go.ChangeShapes Go.WideShapes Go.ChangeAt Go.RowKit Go.Joins

theorem cells_int : Tryz.prog.cellsOf 3 = 1 := by kernel_rfl
theorem cells_byts : Tryz.prog.cellsOf 22 = 1 := by kernel_rfl
theorem cells_act : Tryz.prog.cellsOf 35 = 3 := by kernel_rfl
/-- A deed: what is done, a number, bytes. -/
structure Dd where
  k : Int
  n : Int
  d : List (BitVec 8)
/-- A deed at a place. -/
def RAct (w : World) (g o : Nat) (y : Dd) : Prop := w.cell? ⟨g, o, none⟩ = some (.int .i64 y.k) ∧ w.cell? ⟨g, o + 1, none⟩ = some (.int .i64 y.n) ∧ (-9223372036854775808 ≤ y.n ∧ y.n ≤ 9223372036854775807) ∧ RByts w g (o + 2) y.d
theorem RAct.below {w w' : World} {g o : Nat} {y : Dd} (h : RAct w g o y) (hb : Below w.heap.size w w') : RAct w' g o y := ⟨below_cell hb h.1, below_cell hb h.2.1, h.2.2.1, h.2.2.2.below hb⟩
section
variable {H : Type} {enc : TypeId × Value → H} {W : World}
set_option maxRecDepth 100000 in
theorem read_act (g o n : Nat) (cs : List Value) (x : DataW H × List MemPlace) (hl : cs.length = 3) (hc : ∀ i, i < 3 → W.cell? ⟨g, o + i, none⟩ = cs[i]?) (h : DataW.trod enc Tryz.prog W 0 (fun _ => true) true n 35 cs = some x) : ∃ y : Dd, RAct W g o y := by
  match cs, hl with
  | [v0, v1, v2], _ =>
    obtain ⟨xs, m, _, _, _, hlen, hf⟩ := DataW.trod_struct Tryz.underlying35 h
    have t0 := hf 0 _ rfl
    have t1 := hf 1 _ rfl
    have t2 := hf 2 _ rfl
    obtain ⟨y0, q0⟩ : ∃ y, xs[0]? = some y := ⟨_, List.getElem?_eq_getElem (by rw [hlen]; decide)⟩
    obtain ⟨y1, q1⟩ : ∃ y, xs[1]? = some y := ⟨_, List.getElem?_eq_getElem (by rw [hlen]; decide)⟩
    obtain ⟨y2, q2⟩ : ∃ y, xs[2]? = some y := ⟨_, List.getElem?_eq_getElem (by rw [hlen]; decide)⟩
    rw [q0] at t0
    rw [q1] at t1
    rw [q2] at t2
    simp [cells_int, cells_byts] at t0 t1 t2
    obtain ⟨a, e0, _, _⟩ := DataW.trod_int Tryz.underlying3 t0
    obtain ⟨b, e1, _, wf⟩ := DataW.trod_int Tryz.underlying3 t1
    simp at e0 e1
    subst e0 e1
    have g0 := hc 0 (by omega)
    have g1 := hc 1 (by omega)
    have g2 := hc 2 (by omega)
    obtain ⟨zs, hz⟩ := read_byts g (o + 2) _ v2 _ (by simpa using g2) t2
    exact ⟨⟨a, b, zs⟩, by simpa using g0, by simpa using g1, i64_of_wf (by first | exact wf | exact wf.1 | exact wf.2), hz⟩
set_option maxRecDepth 100000 in
theorem open_acts {base : Nat} {v : Value} {d : DataW H} {p : List MemPlace} (hv : Value.okWide Tryz.prog W .any base 23 v) (h : DataW.Trod enc Tryz.prog W 0 (fun _ => true) true 23 v d p) : ∃ ls : List Dd, Els RAct 3 W v ls ∧ ls.length ≤ maxLen :=
  haveI : Inhabited Dd := ⟨⟨0, 0, []⟩⟩
  open_els (R := RAct) (sz := 3) Tryz.underlying23 cells_act (by decide) (fun g o n cs x hl hc ht => read_act g o n cs x hl hc ht) hv h
end
set_option maxHeartbeats 1000000 in
/-- Few answers one thing or the other. -/
theorem few_any (v : Value) (ls : List Dd) (w : World) (hv : Els RAct 3 w v ls) (hl : ls.length ≤ maxLen) :
    Calls Tryz.prog 5 #[v] w fun e w' => ∃ r : Bool, e = .returned (.bool r) ∧ w = w' := by
  obtain ⟨ra, rc, ev⟩ := hv.len
  have HV := Lib.hid hv
  subst ev
  obtain ⟨n, hn⟩ : ∃ n, n = ls.length := ⟨_, rfl⟩
  have HN := Lib.hid hn
  rw [← hn] at HV ⊢
  have hnb : (n : Int) ≤ 9223372036854775807 := by unfold maxLen at hl; omega
  clear hv hn hl
  go_enter Tryz.func5, Tryz.ntmps5
  go_wp2_with fail
  go_loop [3, 4] (fun s3 i => ∃ (k : Nat) (t : Int), k ≤ n ∧ i = .int .i64 (k : Int) ∧ s3 = .int .i64 t) (fun _ i => n - (intOf i).toNat)
  case atStart => exact ⟨0, 0, by omega, rfl, rfl⟩
  case round =>
    obtain ⟨k, t, hk, rfl, rfl⟩ := hrel
    rcases Nat.lt_or_ge k n with hlt | hge
    · obtain ⟨d, hd⟩ : ∃ d, ls[k]? = some d := ⟨_, List.getElem?_eq_getElem (by rw [← HN.out]; exact hlt)⟩
      obtain ⟨gr, kr, er, _, _, _, da, dc, hc, _⟩ := HV.out.at_ hd
      subst er
      obtain ⟨dn, hdn⟩ : ∃ dn, dn = d.d.length := ⟨_, rfl⟩
      rw [← hdn] at hc
      obtain ⟨t', ht⟩ : ∃ t' : Int, IntKind.i64.wrap (t + (dn : Int)) = t' := ⟨_, rfl⟩
      have hki : (k : Int) < (n : Int) := by omega
      have hk0 : (0 : Int) ≤ (k : Int) := by omega
      clear hd hdn
      go_wp2
      go_round
      case rel => exact ⟨k + 1, _, by omega, by go_num, rfl⟩
      case measure => simp [intOf]; omega
    · obtain rfl : k = n := by omega
      clear hge hk
      by_cases h1 : k ≤ 60
      · have q1 : decide ((k : Int) ≤ 60) = true := by simp; omega
        have q1' : decide (k ≤ 60) = true := by simp; omega
        clear h1
        by_cases h2 : t ≤ 2000
        · have q2 : decide (t ≤ 2000) = true := decide_eq_true h2
          clear h2
          go_wp2
          go_ret
          first | exact ⟨_, rfl, rfl⟩ | exact ⟨true, rfl⟩ | exact ⟨false, rfl⟩ | simp
        · have q2 : decide (t ≤ 2000) = false := decide_eq_false h2
          clear h2
          go_wp2
          go_ret
          first | exact ⟨_, rfl, rfl⟩ | exact ⟨true, rfl⟩ | exact ⟨false, rfl⟩ | simp
      · have q1 : decide ((k : Int) ≤ 60) = false := by simp; omega
        have q1' : decide (k ≤ 60) = false := by simp; omega
        clear h1
        go_wp2
        go_ret
        first | exact ⟨_, rfl, rfl⟩ | exact ⟨true, rfl⟩ | exact ⟨false, rfl⟩ | simp
end Go.Proofs.YtekackglcapppaaGreatDoor
