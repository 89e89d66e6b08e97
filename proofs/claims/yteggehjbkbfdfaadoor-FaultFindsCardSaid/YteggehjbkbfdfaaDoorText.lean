/-
  The texts of errors, by contracts: (api.Errno).Error, fault.textOf, (*fault.place).Error.
-/
import Derived.Test.YteggehjbkbfdfaaDoorPath
import Derived.Test.YteggehjbkbfdfaaDoorShelf
namespace Go.Proofs.YteggehjbkbfdfaaDoor
open Go.RowKit Go.Extern.Stop Go.Stop Go.Extern

/-- 'error ', and the number. -/
def numText (n : Int) : ByteArray := (⟨#[101, 114, 114, 111, 114, 32]⟩ : ByteArray) ++ ⟨(Lib.itoa n).toArray⟩

/-- strconv.Itoa tells n's numeral, from this world on. -/
def ItoaOk (n : Int) (w : World) : Prop := (Lib.itoa n).length ≤ 100 ∧ ∀ w', Below w.heap.size w w' →
  Calls Tryd.prog 30 #[.int .i64 n] w' fun e w'' => e = .returned (.string ⟨(Lib.itoa n).toArray⟩) ∧ Below w'.heap.size w' w''

theorem ItoaOk.below {n : Int} {w w' : World} (h : ItoaOk n w) (hb : Below w.heap.size w w') : ItoaOk n w' :=
  ⟨h.1, fun w'' hb' => h.2 w'' (hb.trans (hb'.mono hb.size))⟩

theorem decDigits_length (k : Nat) : ∀ u : Nat, u < 10 ^ (k + 1) → (Lib.decDigits u).length ≤ k + 1 := by
  induction k with
  | zero => intro u hu; rw [Lib.decDigits, dif_pos (by omega)]; simp
  | succ k ih =>
    intro u hu
    rw [Lib.decDigits]
    split
    · simp
    · have := ih (u / 10) (by rw [Nat.pow_succ] at hu; omega)
      simp; omega

theorem itoa_length (n : Int) (h0 : -9223372036854775808 ≤ n) (h1 : n ≤ 9223372036854775807) : (Lib.itoa n).length ≤ 100 := by
  unfold Lib.itoa
  split
  · have := decDigits_length 19 n.natAbs (by omega)
    simp; omega
  · have := decDigits_length 19 n.toNat (by omega)
    omega

theorem itoa_small (n : Nat) (hn : n < 100) (w : World) : ItoaOk n w := by
  refine ⟨itoa_length n (by omega) (by omega), ?_⟩
  intro w' _
  refine (Tryd.strconv_Itoa_small n hn w').mono fun e w'' ⟨he, hw⟩ => ⟨?_, by subst hw; exact Below.refl _ _⟩
  rw [he]; simp [Lib.itoa]

theorem errno_text (n : Int) (w : World) (hi : ItoaOk n w) :
    Calls Tryd.prog 20 #[.int .i64 n] w fun e w' => e = .returned (.string (numText n)) ∧ Below w.heap.size w w' := by
  have HC := Lib.hid (hi.2 w (Below.refl _ _))
  have hLl := hi.1
  have hT : numText n = (⟨#[101, 114, 114, 111, 114, 32]⟩ : ByteArray) ++ ⟨(Lib.itoa n).toArray⟩ := rfl
  generalize numText n = T at *
  generalize Lib.itoa n = L at *
  have HT := Lib.hid hT
  clear hi hT
  go_enter Tryd.func20, Tryd.ntmps20
  go_wp2_with (go_at_call 30; refine HC.out.mono ?_; rintro e w1 ⟨rfl, hb⟩)
  go_ret
  exact ⟨by rw [HT.out]; rfl, hb⟩

theorem plain_text (q : Addr) (s : ByteArray) (w : World) (h : w.cell? q = some (.string s)) :
    Calls Tryd.prog 80 #[.pointer (some q)] w fun e w' => e = .returned (.string s) ∧ w = w' := by
  go_enter Tryd.func80, Tryd.ntmps80
  go_wp2
  go_ret
  exact ⟨rfl, rfl⟩

/-- The text of what lies behind the last place. -/
def BaseText (w : World) (base : Value) (s : ByteArray) : Prop :=
  (∃ n, base = .iface 24 (.int .i64 n) ∧ ItoaOk n w ∧ s = numText n) ∨ ∃ q : Addr, base = .iface 65 (.pointer (some q)) ∧ w.cell? q = some (.string s)

theorem BaseText.base {w : World} {base : Value} {s : ByteArray} (h : BaseText w base s) : IsBase base := by
  rcases h with ⟨n, h, _⟩ | ⟨q, h, _⟩
  · exact .inl ⟨n, h⟩
  · exact .inr ⟨q, h⟩
theorem BaseText.below {w w' : World} {base : Value} {s : ByteArray} (h : BaseText w base s) (hb : Below w.heap.size w w') : BaseText w' base s := by
  rcases h with ⟨n, h, hi, hs⟩ | ⟨q, h, hc⟩
  · exact .inl ⟨n, h, hi.below hb, hs⟩
  · exact .inr ⟨q, h, keeps_below hb _ _ hc⟩

theorem methodErrorE (v : Value) (w : World) : (Go.method 243 24 v "Error").run Tryd.prog w = .ok (20, v) w := by kernel_rfl
theorem methodErrorS (v : Value) (w : World) : (Go.method 243 65 v "Error").run Tryd.prog w = .ok (80, v) w := by kernel_rfl
theorem methodErrorP (v : Value) (w : World) : (Go.method 243 45 v "Error").run Tryd.prog w = .ok (64, v) w := by kernel_rfl

theorem textOf_idle (p q : Addr) (w : World) :
    CallsD Tryd.prog 72 #[.pointer (some p), .pointer (some q)] .returning w fun e u' w' => e = .returned (.tuple #[]) ∧ u' = .returning ∧ w' = w := by
  refine callsD_of_wpS Tryd.func72 rfl fun c₀ cs hu => ?_
  apply wpS_seq
  apply wpS_region
  simp [wpOpsS, go_sem, recoverD, hu, Tryd.ntmps72, Exit.thenS]
  refine wpS_cond (t := false) (by simp [Act.eval, Array.replicate]) ?_
  simp only [Bool.false_eq_true, if_false]
  refine wpS_of_wp (wp_skip ?_)
  cases c₀
  simp_all [bodyPostS, results, Tryd.results72]

theorem two_cells2 (w w1 : World) (n : Int) (hb : Below (w.heap.size + 2) ((w.alloc (.cells #[.int .i64 n] 24)).alloc (.cells #[.string ByteArray.empty] 9)) w1) :
    w1.cell? ⟨w.heap.size + 1, 0, none⟩ = some (.string ByteArray.empty) ∧ w1.frozen? ⟨w.heap.size + 1, 0, none⟩ = false := by
  constructor
  · rw [hb.cell (by simp)]; simp
  · rw [hb.frozen (by simp)]; simp

set_option maxHeartbeats 1000000 in
theorem textOf_any (base : Value) (s : ByteArray) (n : Int) (w : World) (hbt : BaseText w base s) :
    Calls Tryd.prog 68 #[base, .int .i64 n] w fun e w' => e = .returned (.string s) ∧ Below w.heap.size w w' := by
  have hmf : ∀ (fn : Fn) (first cap : Array Value) (w : World), (Instr.makeFunc fn first cap).run Tryd.prog w = .ok (.func fn first cap) w := fun _ _ _ _ => rfl
  have hb0 : Below w.heap.size w ((w.alloc (.cells #[.int .i64 n] 24)).alloc (.cells #[.string ByteArray.empty] 9)) := ((Below.refl _ w).alloc (Nat.le_refl _) _).alloc (by simp) _
  have fin : ∀ w1, Below (w.heap.size + 2) ((w.alloc (.cells #[.int .i64 n] 24)).alloc (.cells #[.string ByteArray.empty] 9)) w1 → Below w.heap.size w (w1.setCell ⟨w.heap.size + 1, 0, none⟩ (.string s)) ∧ (w1.setCell ⟨w.heap.size + 1, 0, none⟩ (.string s)).cell? ⟨w.heap.size + 1, 0, none⟩ = some (.string s) :=
    fun w1 hb => ⟨(hb0.trans (hb.mono (by omega))).setCell (by simp) _, World.cell?_setCell_same _ _ _ (two_cells2 w w1 n hb).1⟩
  rcases hbt with ⟨m, rfl, hi, rfl⟩ | ⟨q, rfl, hc⟩
  · have HC := Lib.hid (errno_text m _ (hi.below hb0))
    have HF := Lib.hid fin
    have HB0 := Lib.hid hb0
    have mE := methodErrorE
    clear hi fin hb0
    generalize numText m = T at *
    go_enter_defers Tryd.func68, Tryd.ntmps68
    go_wp2_with (go_at_call 20; refine HC.out.mono ?_; rintro e w1 ⟨rfl, hb⟩; obtain ⟨hr, hrf⟩ := two_cells2 w w1 n (hb.mono (by simp)))
    refine leaves_cons (f := 72) (args := #[.pointer (some ⟨w.heap.size, 0, none⟩), .pointer (some ⟨w.heap.size + 1, 0, none⟩)]) (by simp) (by simp [go_sem]) ?_
    refine (textOf_idle ⟨w.heap.size, 0, none⟩ ⟨w.heap.size + 1, 0, none⟩ _).mono ?_
    rintro e u' w'' ⟨rfl, rfl, rfl⟩
    obtain ⟨f1, f2⟩ := HF.out w1 (hb.mono (by simp))
    simp [Leaves, settle, results, Tryd.results68, go_sem, f1, f2]
  · have hc0 := keeps_below hb0 _ _ hc
    have HF := Lib.hid fin
    have HB0 := Lib.hid hb0
    have mS := methodErrorS
    clear fin hb0 hc
    go_enter_defers Tryd.func68, Tryd.ntmps68
    go_wp2_with (go_at_call 80; refine (plain_text q s _ hc0).mono ?_; rintro e w1 ⟨rfl, rfl⟩)
    refine leaves_cons (f := 72) (args := #[.pointer (some ⟨w.heap.size, 0, none⟩), .pointer (some ⟨w.heap.size + 1, 0, none⟩)]) (by simp) (by simp [go_sem]) ?_
    refine (textOf_idle ⟨w.heap.size, 0, none⟩ ⟨w.heap.size + 1, 0, none⟩ _).mono ?_
    rintro e u' w'' ⟨rfl, rfl, rfl⟩
    have f1 : Below w.heap.size w ((w.alloc (.cells #[.int .i64 n] 24)).alloc (.cells #[.string s] 9)) := ((Below.refl _ w).alloc (Nat.le_refl _) _).alloc (by simp) _
    simp [Leaves, settle, results, Tryd.results68, go_sem, f1]

theorem own_some {w : World} {B : Nat} {e : TypeId} {v : Value} {n : Nat} {xs : List Value} (h : w.ownsRow B e 1 v n xs) (hn : 0 < n) :
    ∃ g cap, v = .slice (some ⟨g, 0, none⟩) n cap ∧ n ≤ cap ∧ g < w.heap.size ∧ B ≤ g ∧ ∀ (j : Nat) u, xs[j]? = some u → w.cell? ⟨g, 0 + j, none⟩ = some u := by
  rcases h.2 with ⟨_, h0⟩ | ⟨g, cap, cur, hv, hB, hg, hcap, _⟩
  · omega
  · have hlt : g < w.heap.size := by
      rcases Nat.lt_or_ge g w.heap.size with h1 | h1
      · exact h1
      · rw [Array.getElem?_eq_none h1] at hg; cases hg
    refine ⟨g, cap, hv, hcap, hlt, hB, fun j u hj => ?_⟩
    have := h.cells (g := g) (by rw [hv]; rfl) j u hj
    rw [Nat.zero_add]
    by_cases h0 : j = 0
    · subst h0; simpa [Addr.add] using this
    · simpa [Addr.add, h0] using this

/-- The text of an error that came through the places ps: each, a colon and a blank; and what lies behind. -/
def chainText (ps : List ByteArray) (s : ByteArray) : ByteArray := ⟨(Lib.join ((ps ++ [s]).map (·.data.toList)) [58, 32]).toArray⟩

/-- strings.Join of such a row of texts. -/
theorem join_own (cs : List ByteArray) (s : ByteArray) (g cap : Nat) (w : World) (hg : g < w.heap.size) (hcap : cs.length + 1 ≤ cap) (hcl : cs.length ≤ 1000) (hlen : (chainText cs s).size ≤ 140737488355328)
    (hcells : ∀ (j : Nat) u, (cs.map Value.string ++ [Value.string s])[j]? = some u → w.cell? ⟨g, 0 + j, none⟩ = some u) :
    Calls Tryd.prog 67 #[.slice (some ⟨g, 0, none⟩) (cs.length + 1) cap, .string ⟨#[58, 32]⟩] w fun e w' => e = .returned (.string (chainText cs s)) ∧ Below w.heap.size w w' := by
  have h := Tryd.strings_Join g 0 cap (cs ++ [s]) ⟨#[58, 32]⟩ w (fun j x hx => hcells j _ (by
      have : (cs.map Value.string ++ [Value.string s]) = (cs ++ [s]).map Value.string := by simp
      rw [this, List.getElem?_map, hx]; rfl)) hg (by simp; omega) (by simpa using hcap) (by
      have : (chainText cs s).size = (Lib.join ((cs ++ [s]).map (·.data.toList)) (⟨#[58, 32]⟩ : ByteArray).data.toList).length := by
        unfold chainText; simp [ByteArray.size]
      omega)
  rw [List.length_append] at h
  exact h

theorem str_cells {w : World} {g : Nat} {xs : List ByteArray} (h : ∀ (j : Nat) u, (xs.map Value.string)[j]? = some u → w.cell? ⟨g, 0 + j, none⟩ = some u) :
    ∀ (j : Nat) x, xs[j]? = some x → w.cell? ⟨g, 0 + j, none⟩ = some (.string x) := by
  intro j x hx
  exact h j _ (by rw [List.getElem?_map, hx]; rfl)

set_option maxHeartbeats 1000000 in
theorem place_text (base : Value) (s p : ByteArray) (n : Int) (ps : List ByteArray) (b : Nat) (w : World) (hbt : BaseText w base s)
    (hch : Chain w base n (p :: ps) (.iface 45 (.pointer (some ⟨b, 0, none⟩)))) (hl : ps.length < 1000) (hlen : (chainText (p :: ps) s).size ≤ 140737488355328) :
    Calls Tryd.prog 64 #[.pointer (some ⟨b, 0, none⟩)] w fun e w' => e = .returned (.string (chainText (p :: ps) s)) ∧ Below w.heap.size w w' := by
  obtain ⟨i0, hi, hz0, hz1, hz2⟩ := info_parts infoStr
  have HT := Lib.hid (through_any base n (p :: ps) _ w hbt.base hch (by simp; omega))
  have hnum : w.cell? ⟨b, 1, none⟩ = some (.int .i64 n) := by
    obtain ⟨b', u, e, _, h1, _⟩ := hch
    simp only [Value.iface.injEq, Value.pointer.injEq, Option.some.injEq, Addr.mk.injEq] at e
    obtain ⟨_, rfl, _⟩ := e
    exact h1
  have HB := Lib.hid hbt
  have HL := Lib.hid hlen
  clear hch hbt hlen
  generalize hcs : p :: ps = cs at *
  have hcl : cs.length ≤ 1000 := by rw [← hcs]; simp; omega
  have hc0 : 0 < cs.length := by rw [← hcs]; simp
  clear hcs hl
  go_enter Tryd.func64, Tryd.ntmps64
  go_wp2_with (first
    | (go_at_call 23; refine HT.out.mono ?_; rintro e w1 ⟨s1, rfl, hown, hb⟩; have hnum1 := keeps_below hb _ _ hnum)
    | (go_at_call 68; refine (textOf_any base s n _ (HB.out.below hb)).mono ?_; rintro e w2 ⟨rfl, hb2⟩; have hown2 := own_below hown hb2; have hb12 := hb.trans (hb2.mono hb.size))
    | (at_builtin; refine wpList_append_own _ rfl _ _ 22 rfl w.heap.size 9 i0 (.string ByteArray.empty) 1 16 Tryd.underlying22 hi hz0 hz1 hz2 rfl (by decide) _ _ _ rfl (hown2.alloc _) ⟨_, 0, none⟩ 1 1 [.string s] rfl rfl (src1 _ _ _) (str1 _) (len_one hcl).1 (len_one hcl).2 (le_alloc hb12.size _) ?_; intro s3 w3 hown3 hgrow hnil; clear hnil; have hb3 := grown_below hb12 hown2 hgrow; clear hgrow; obtain ⟨g, cap, rfl, hcap, hg, hBg, hcells⟩ := own_some hown3 (Nat.succ_pos _); have HJ := Lib.hid (join_own cs s g cap _ hg hcap hcl HL.out hcells); clear hcells hown3)
    | (go_at_call 67; refine HJ.out.mono ?_; rintro e w4 ⟨rfl, hb4⟩))
  go_ret
  exact ⟨rfl, hb3.trans (hb4.mono hb3.size)⟩
end Go.Proofs.YteggehjbkbfdfaaDoor
