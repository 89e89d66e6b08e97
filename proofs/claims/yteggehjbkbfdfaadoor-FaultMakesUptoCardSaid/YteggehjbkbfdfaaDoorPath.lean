/-
  fault.through and fault.Path by contracts: the places of a chain, and what lies behind the last one.
-/
import Derived.Test.YteggehjbkbfdfaaDoorNum
namespace Go.Proofs.YteggehjbkbfdfaaDoor
open Go.RowKit Go.Extern.Stop Go.Stop Go.Extern

/-- What lies behind the last place: a number, or an errors.New error. -/
def IsBase (v : Value) : Prop := (∃ n, v = .iface 24 (.int .i64 n)) ∨ ∃ q : Addr, v = .iface 65 (.pointer (some q))

theorem IsBase.no {v : Value} (h : IsBase v) (xT : TypeId) (w : World) : (Instr.typeAssert v xT 45 true).run Tryd.prog w = .ok (.tuple #[.pointer none, .bool false]) w := by
  rcases h with ⟨n, rfl⟩ | ⟨q, rfl⟩
  · exact assertPE _ _ _
  · exact assertPS _ _ _

theorem infoStr : (Tryd.prog.info? 9).map (fun i => (i.zero, i.size, i.bytes)) = some (some (.string ByteArray.empty), 1, 16) := by kernel_rfl

theorem own_below {w w' : World} {B : Nat} {e : TypeId} {size : Nat} {v : Value} {n : Nat} {xs : List Value} (h : w.ownsRow B e size v n xs) (hb : Below w.heap.size w w') : w'.ownsRow B e size v n xs := by
  refine ⟨h.1, ?_⟩
  rcases h.2 with hn | ⟨g, cap, cur, hv, hB, hg, rest⟩
  · exact .inl hn
  · refine .inr ⟨g, cap, cur, hv, hB, ?_, rest⟩
    have hlt : g < w.heap.size := by
      rcases Nat.lt_or_ge g w.heap.size with h1 | h1
      · exact h1
      · rw [Array.getElem?_eq_none h1] at hg; cases hg
    rw [hb.block g hlt]; exact hg

theorem src1 (w : World) (x : Value) (t : TypeId) : ∀ (j : Nat) u, [x][j]? = some u → (w.alloc (.cells #[x] t)).cell? ((⟨w.heap.size, 0, none⟩ : Addr).add j) = some u := by
  intro j u hj
  match j, hj with
  | 0, hj => simp at hj; subst hj; simp [Addr.add]
theorem str1 (p : ByteArray) : ∀ u ∈ [Value.string p], u.oneCell' = true := by
  intro u hu
  simp at hu
  subst hu
  rfl
theorem len_one {k : Nat} (h : k ≤ 1000) : k + 1 ≤ maxLen ∧ (k + 1) * 16 ≤ 140737488355328 := by unfold maxLen; omega
theorem le_alloc {B : Nat} {w : World} (h : B ≤ w.heap.size) (o : Obj) : B ≤ (w.alloc o).heap.size := by simp; omega

/-- A slice of one element, just laid, owns it. -/
theorem own_one (w : World) (x : Value) (e : TypeId) (B : Nat) (hB : B ≤ w.heap.size) : (w.alloc (.cells #[x] e)).ownsRow B e 1 (.slice (some ⟨w.heap.size, 0, none⟩) 1 1) 1 [x] := by
  refine ⟨rfl, .inr ⟨w.heap.size, 1, #[x], rfl, hB, ?_, Nat.le_refl _, by unfold maxLen; omega, rfl, rfl⟩⟩
  unfold World.alloc; simp

theorem grown_below {w wr w1 : World} {e : TypeId} {size : Nat} {s : Value} {n : Nat} {xs : List Value} {o : Obj} (hb : Below w.heap.size w wr) (hown : wr.ownsRow w.heap.size e size s n xs)
    (hg : (wr.alloc o).grownBy w1 s.ownBlock) : Below w.heap.size w w1 :=
  (hb.alloc hb.size o).grown hg (le_alloc hb.size o) fun k hk => (hown.lt k hk).1

set_option maxHeartbeats 2000000 in
theorem through_any (base : Value) (n : Int) (ps : List ByteArray) (v : Value) (w : World) (hbase : IsBase base) (hch : Chain w base n ps v) (hl : ps.length ≤ 1000) :
    Calls Tryd.prog 23 #[v] w fun e w' => ∃ s, e = .returned (.tuple #[s, base]) ∧ w'.ownsRow w.heap.size 9 1 s ps.length (ps.map Value.string) ∧ Below w.heap.size w w' := by
  have a1 := assertPP
  have a2 := hbase.no
  obtain ⟨i0, hi, hz0, hz1, hz2⟩ := info_parts infoStr
  have HC := Lib.hid hch
  have HB := Lib.hid hbase
  clear hch hbase
  go_enter Tryd.func23, Tryd.ntmps23
  go_wp2
  go_loopg [0, 4] (ps.length) (fun k x s wr => ∃ done rest, ps = done ++ rest ∧ rest.length = k ∧ Chain w base n rest x ∧ wr.ownsRow w.heap.size 9 1 s done.length (done.map Value.string) ∧ Below w.heap.size w wr)
  case atStart => exact ⟨[], ps, rfl, rfl, HC.out, World.ownsRow_nil _ _ _ _, Below.refl _ _⟩
  case round =>
    obtain ⟨done, rest, hps, rfl, hq, hown, hb⟩ := hrel
    have HP := Lib.hid hps
    have hlen : done.length + rest.length = ps.length := by rw [hps]; simp
    clear hps HC
    cases rest with
    | nil =>
      simp only [Chain] at hq
      subst hq
      have HO := Lib.hid hown
      clear hown hlen
      go_wp2
      go_ret2
      refine ⟨_, rfl, ?_, hb⟩
      have := HP.out
      rw [List.append_nil] at this
      rw [this]; exact HO.out
    | cons p rest =>
      obtain ⟨b, u, rfl, h0, h1, h2, h3⟩ := hq
      have HL := Lib.hid hlen
      have hlen' : done.length ≤ 1000 := by simp at hlen; omega
      clear hlen
      have h0' := keeps_below hb _ _ h0
      have H3 := Lib.hid h3
      have H2 := Lib.hid h2
      have hbz := hb.size
      clear h3 h0 h1 h2
      go_wp2_with (at_builtin; refine wpList_append_own _ rfl _ _ 22 rfl w.heap.size 9 i0 (.string ByteArray.empty) 1 16 Tryd.underlying22 hi hz0 hz1 hz2 rfl (by decide) _ _ _ rfl (hown.alloc _) ⟨wr.heap.size, 0, none⟩ 1 1 [.string p] rfl rfl (src1 _ _ _) (str1 _) (len_one hlen').1 (len_one hlen').2 (le_alloc hbz _) ?_; intro s1 w1 hown1 hgrow _; have hb1 := grown_below hb hown hgrow; have h2'' := keeps_below hb1 _ _ H2.out; clear hgrow)
      go_roundg rest.length
      case measure => simp
      case rel =>
        refine ⟨done ++ [p], rest, ?_, rfl, H3.out, ?_, hb1⟩
        · rw [List.append_assoc]; exact HP.out
        · rw [List.length_append, List.map_append]; exact hown1

/-- fault.Path of a chain. -/
theorem path_any (base : Value) (n : Int) (ps : List ByteArray) (v : Value) (w : World) (hbase : IsBase base) (hch : Chain w base n ps v) (hl : ps.length ≤ 1000) :
    Calls Tryd.prog 12 #[v] w fun e w' => ∃ s, e = .returned s ∧ w'.ownsRow w.heap.size 9 1 s ps.length (ps.map Value.string) ∧ Below w.heap.size w w' := by
  have HC := Lib.hid (through_any base n ps v w hbase hch hl)
  clear hbase hch
  go_enter Tryd.func12, Tryd.ntmps12
  go_wp2_with (go_at_call 23; refine HC.out.mono ?_; rintro e w1 ⟨s, rfl, hown, hb⟩)
  go_ret
  exact ⟨s, rfl, hown, hb⟩

theorem path_nil (w : World) : Calls Tryd.prog 12 #[.nilIface] w fun e w' => e = .returned (.slice none 0 0) ∧ w = w' := by
  have a1 := assertPNil
  have hn : ∀ w, (Instr.typeAssert .nilIface 26 45 true).run Tryd.prog w = .ok (.tuple #[.pointer none, .bool false]) w := fun w => assertPNil _ _
  go_enter Tryd.func12, Tryd.ntmps12
  go_wp2
  refine wp_loop_rounds 1 ?_
  rw [rounds_succ]
  go_wp2
  go_ret
  exact ⟨rfl, rfl⟩
end Go.Proofs.YteggehjbkbfdfaaDoor
