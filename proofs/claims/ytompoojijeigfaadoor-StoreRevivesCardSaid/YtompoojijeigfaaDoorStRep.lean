/-
  bytes.Repeat of one byte.
-/
import Derived.Test.YtompoojijeigfaaDoorStMem
import Derived.StillTailTactics
import Derived.Lib.MakeNoZero
import Derived.Laws.Externs
import Derived.Laws.Bits64b
namespace Go.Proofs.YtompoojijeigfaaDoor
open Go.RowKit

theorem and_low (n : Nat) (h : n ≤ 65536) : bits .and .u64 (n : Int) 4294967295 = (n : Int) := by
  have h1 := bits_and_u64_nat n 4294967295 (by omega) (by omega)
  have e : n &&& 4294967295 = n % 4294967296 := Nat.and_two_pow_sub_one_eq_mod n 32
  rw [e, Nat.mod_eq_of_lt (by omega)] at h1
  exact h1
theorem mul64_one (n : Nat) (h : n ≤ 65536) (w : World) :
    Calls Tryd.prog 27 #[.int .u64 1, .int .u64 (n : Int)] w fun e w' => e = .returned (.tuple #[.int .u64 0, .int .u64 (n : Int)]) ∧ w = w' := by
  have e1 : bits .and .u64 1 4294967295 = 1 := and_low 1 (by omega)
  have e2 := and_low n h
  have e3 : (n : Int) / 4294967296 = 0 := by omega
  have e4 : IntKind.u64.wrap (n : Int) = (n : Int) := by rw [IntKind.wrap_u64]; omega
  have e5 : bits .and .u64 0 4294967295 = 0 := and_low 0 (by omega)
  go_enter Tryd.func27, Tryd.ntmps27
  go_wp2_with fail
  go_ret2
  exact ⟨rfl, rfl⟩
theorem mul_one (n : Nat) (h : n ≤ 65536) (w : World) :
    Calls Tryd.prog 22 #[.int .u64 1, .int .u64 (n : Int)] w fun e w' => e = .returned (.tuple #[.int .u64 0, .int .u64 (n : Int)]) ∧ w = w' := by
  have HM := Lib.hid (mul64_one n h)
  have e4 : IntKind.u64.wrap (n : Int) = (n : Int) := by rw [IntKind.wrap_u64]; omega
  go_enter Tryd.func22, Tryd.ntmps22
  go_wp2_with fail
  (with_reducible refine (HM.out _).mono ?_)
  rintro e w1 ⟨rfl, rfl⟩
  go_wp2_with fail
  go_ret2
  exact ⟨rfl, rfl⟩

/-- The row g begins with b bytes x, and has room for n. -/
def Fill (w : World) (g b n : Nat) (x : BitVec 8) : Prop := ∃ rest : List Value, w.heap[g]? = some (.cells (List.replicate b (cel x) ++ rest).toArray 5 (0, 0)) ∧ n ≤ b + rest.length
theorem Fill.cell {w : World} {g b n : Nat} {x : BitVec 8} (h : Fill w g b n x) (j : Nat) (hj : j < b) : w.cell? ⟨g, j, none⟩ = some (cel x) := by
  obtain ⟨rest, h, _⟩ := h
  rw [cell_of_row _ _ _ _ _ _ h, ← Array.getElem?_toList, List.toList_toArray, List.getElem?_append_left (by simpa using hj), List.getElem?_replicate, if_pos hj]
theorem Fill.drw {w : World} {g b n : Nat} {x : BitVec 8} (h : Fill w g b n x) : Fill w.drew g b n x := h
theorem Fill.room {w : World} {g b : Nat} {x : BitVec 8} {n : Nat} (h : Fill w g b n x) : Room w g (List.replicate b x) := by
  obtain ⟨rest, h, _⟩ := h
  exact ⟨rest, _, by rw [List.map_replicate]; exact h⟩
/-- More of the same bytes, laid behind them. -/
theorem run_fill (w : World) (g b n : Nat) (x : BitVec 8) (hf : Fill w g b n x) (k dLen dCap sLen sCap : Nat) (ad : Addr)
    (hk : k = Nat.min sLen dLen) (hsrc : ∀ j, j < k → w.cell? (ad.add j) = some (cel x)) (hfit : b + k ≤ n) (B : Nat) (w0 : World) (hb : Below B w0 w) (hBg : B ≤ g) :
    ∃ w', (∀ T, (Builtin.copy_ #[22, 22] T #[.slice (some ⟨g, b, none⟩) dLen dCap, .slice (some ad) sLen sCap]).run Tryd.prog w = .ok (.int .i64 (k : Int)) w') ∧ Hid (Fill w' g (b + k) n x) ∧ Hid (Below B w0 w') := by
  obtain ⟨tail, hg, hn⟩ := hf
  have hsz : (Tryd.prog.info? 5).map (·.size) = some 1 := by kernel_rfl
  have hrun := fun T => run_copy_row (P := Tryd.prog) w 22 22 T 5 g b dLen dCap ad sLen sCap _ 5 (List.replicate k (cel x)) Tryd.underlying22 hsz hg (by simpa using hk) (fun j v hv => by
    have hj := (List.getElem?_eq_some_iff.1 hv).1
    simp only [List.length_replicate] at hj
    rw [List.getElem?_replicate, if_pos hj] at hv
    rw [← hv]
    exact hsrc j hj) (by simp; omega) (fun v hv => by obtain ⟨_, rfl⟩ := List.mem_replicate.1 hv; rfl)
  refine ⟨_, fun T => by simpa [goInt] using hrun T, Lib.hid ⟨tail.drop k, ?_, by simp; omega⟩, Lib.hid (below_setRow hb hBg _)⟩
  rw [setRow_heap w g _ _ _ _ hg]
  rw [List.drop_append, List.length_replicate, List.drop_eq_nil_of_le (by simp), List.nil_append, show b + k - b = k by omega]

theorem repeat_none (v : Value) (w : World) :
    Calls Tryd.prog 16 #[v, .int .i64 0] w fun e w' => e = .returned (.slice (some ⟨w.heap.size, 0, none⟩) 0 0) ∧ Room w' w.heap.size [] ∧ Below w.heap.size w w' := by
  go_enter Tryd.func16, Tryd.ntmps16
  go_wp2_with fail
  go_ret
  exact ⟨rfl, ⟨[], _, heap_alloc_new w _⟩, below_alloc (Below.refl _ w) _⟩
set_option maxRecDepth 100000 in
theorem repeat_some (v : Value) (x : BitVec 8) (n : Nat) (hn : n ≤ 65536) (h1 : 0 < n) (w : World) (hv : Byts w v [x]) :
    Calls Tryd.prog 16 #[v, .int .i64 (n : Int)] w fun e w' => e = .returned (.slice (some ⟨w.heap.size, 0, none⟩) n n) ∧ Room w' w.heap.size (List.replicate n x) ∧ Below w.heap.size w w' := by
  obtain ⟨g, o, cap, y, rfl, hcap, hg, hy, hc⟩ := hv.at_ 0 (by simp)
  have hyx : y = x := by simpa using hy.symm
  subst hyx
  obtain ⟨cs, hrunM, hle, _⟩ := Lib.run_makeNoZero (P := Tryd.prog) w #[3] 22 5 Tryd.underlying22 n (by omega)
  have hcall : (callFunc 23 #[.int .i64 (n : Int)]).run Tryd.prog w = .ok (.value (.slice (some ⟨w.heap.size, 0, none⟩) n cs.size)) (w.drew.drew.alloc (.cells cs 5)) := by
    rw [run_callFunc_extern Tryd.func23 (by kernel_rfl) (by kernel_rfl) (by kernel_rfl) (e := Extern.BytealgMakeNoZero.makeNoZero #[3] #[22]) (by kernel_rfl), hrunM]
    rfl
  clear hrunM hy
  have HC := Lib.hid hcall
  have HCc := Lib.hid hc
  have HM := Lib.hid (mul_one n hn)
  have e4 : IntKind.u64.wrap (n : Int) = (n : Int) := by rw [IntKind.wrap_u64]; omega
  have e5 : IntKind.i64.wrap (n : Int) = (n : Int) := by rw [IntKind.wrap_i64]; omega
  have n0 : ((n : Int) == 0) = false := beq_eq_false_iff_ne.2 (by omega)
  have n1 : decide ((n : Int) < 0) = false := by simp
  have n2 : decide ((n : Int) > 9223372036854775807) = false := by simp; omega
  have n3 : decide (9223372036854775807 < (n : Int)) = false := by simp; omega
  clear hc hcall
  have hlen : decide (1 = 0) = false := rfl
  rcases Nat.lt_or_ge 8192 n with h8 | h8
  all_goals
    (first | have n4 : decide ((n : Int) > 8192) = true := by simp; omega | have n4 : decide ((n : Int) > 8192) = false := by simp; omega)
    (first | have n5 : decide (8192 < (n : Int)) = true := by simp; omega | have n5 : decide (8192 < (n : Int)) = false := by simp; omega)
    go_enter Tryd.func16, Tryd.ntmps16
    go_wp2_with fail
    (with_reducible refine (HM.out _).mono ?_)
    rintro e w1 ⟨rfl, rfl⟩
    have hcall := HC.out
    have i1 : (n : Int) ≤ (cs.size : Int) := by omega
    have hk0 : Hid (1 = Nat.min 1 n) := Lib.hid (show 1 = min 1 n by omega)
    have hn0 : 0 + 1 ≤ n := by omega
    have HF0 : Hid (Fill ((w.alloc (.cells cs 5)).drew.drew) w.heap.size 0 n y) := Lib.hid (Fill.drw (Fill.drw ⟨cs.toList, by
      rw [heap_alloc_new w (.cells cs 5)]
      simp, by simpa using hle⟩))
    have HB0 : Hid (Below w.heap.size w (w.alloc (.cells cs 5)).drew.drew) := Lib.hid (below_call (below_call (below_alloc (Below.refl _ w) (.cells cs 5)) (bel_drew _)) (bel_drew _))
    have HS0 : Hid (∀ j, j < 1 → ((w.alloc (.cells cs 5)).drew.drew).cell? ((⟨g, o, none⟩ : Addr).add j) = some (cel y)) := Lib.hid fun j hj => by
      obtain rfl : j = 0 := by omega
      rw [add_zero]
      exact below_cell HB0.out HCc.out
    obtain ⟨W2, hr2, HF2, HB2⟩ := run_fill _ w.heap.size 0 n y HF0.out 1 n n 1 cap ⟨g, o, none⟩ hk0.out HS0.out hn0 w.heap.size w HB0.out (Nat.le_refl _)
    go_wp2_with ((with_reducible refine wpList_copy ?_ ?_ hr2 ?_); rfl; rfl)
    rw [Nat.zero_add] at HF2
    clear HF0 HB0 HS0 hr2 hcall HC HM HCc hv e4 e5 n0 n1 n4 n5 hle i1
    go_loopw [10] (fun s10 wr => ∃ b : Nat, 1 ≤ b ∧ b ≤ n ∧ s10 = .int .i64 (b : Int) ∧ Hid (Fill wr w.heap.size b n y) ∧ Hid (Below w.heap.size w wr)) (fun s10 _ => n - (intOf s10).toNat)
    case atStart => exact ⟨1, by omega, by omega, rfl, HF2, HB2⟩
    case round =>
      obtain ⟨b, hb1, hbn, rfl, HFr, HBr⟩ := hrel
      clear HF2 HB2
      rcases Nat.lt_or_ge b n with hlt | hge
      · obtain ⟨c, HCc⟩ : ∃ c : Nat, Hid (c = min b 8192) := ⟨_, Lib.hid rfl⟩
        obtain ⟨r, HR⟩ : ∃ r : Nat, Hid (r = n - b) := ⟨_, Lib.hid rfl⟩
        obtain ⟨k, HK⟩ : ∃ k : Nat, Hid (k = min c r) := ⟨_, Lib.hid rfl⟩
        have hu : Tryd.prog.underlying 22 = some (.slice (Tryd.prog.elem 22)) := by rw [elemB]; exact Tryd.underlying22
        have q1 : ∀ w', (Instr.slice 22 (.slice (some ⟨w.heap.size, 0, none⟩) n n) (some (.int .i64 (b : Int))) none none).run Tryd.prog w' = .ok (.slice (some ⟨w.heap.size, b, none⟩) r r) w' := fun w' => by
          rw [run_slice_l _ _ _ _ _ hu _ _ (by omega) (by omega), elemB, sizeU8]
          have e : ¬ n = b := by omega
          simp [Result.andThen, sliced, e, plain_add, HR.out]
        have q2 : ∀ w', (Instr.slice 22 (.slice (some ⟨w.heap.size, 0, none⟩) n n) none (some (.int .i64 (c : Int))) none).run Tryd.prog w' = .ok (.slice (some ⟨w.heap.size, 0, none⟩) c n) w' := fun w' => by
          have := HCc.out
          rw [run_slice_h _ _ _ _ _ hu _ _ (by omega) (by omega), elemB, sizeU8]
          simp [Result.andThen, sliced, add_zero]
        have m1 : ∀ (ts : Array TypeId) (t : TypeId) (w : World), (Builtin.min_ ts t #[.int .i64 (b : Int), .int .i64 8192]).run Tryd.prog w = .ok (.int .i64 (c : Int)) w := fun ts t w => by
          rw [run_min_int2, show (if (8192 : Int) < (b : Int) then (8192 : Int) else (b : Int)) = (c : Int) by have := HCc.out; split <;> omega]
        have m2 : n ≤ 8192 → ∀ (ts : Array TypeId) (t : TypeId) (w : World), (Builtin.min_ ts t #[.int .i64 (b : Int), .int .i64 (n : Int)]).run Tryd.prog w = .ok (.int .i64 (c : Int)) w := fun h ts t w => by
          rw [run_min_int2, show (if (n : Int) < (b : Int) then (n : Int) else (b : Int)) = (c : Int) by have := HCc.out; split <;> omega]
        try have m3 := m2 h8
        clear m2 hu
        have hbk : b + k ≤ n := by have := HR.out; have := HK.out; omega
        have hk1 : 0 < k := by have := HR.out; have := HK.out; have := HCc.out; omega
        have e6 : IntKind.i64.wrap ((b : Int) + (k : Int)) = (b : Int) + (k : Int) := by rw [IntKind.wrap_i64]; omega
        have HFd := Lib.hid HFr.out.drw
        have HBd : Hid (Below w.heap.size w wr.drew) := Lib.hid (HBr.out.trans ((bel_drew wr).mono HBr.out.size))
        have HSd : Hid (∀ j, j < k → wr.drew.cell? ((⟨w.heap.size, 0, none⟩ : Addr).add j) = some (cel y)) := Lib.hid fun j hj => by
          rw [plain_add, Nat.zero_add]
          exact HFd.out.cell j (by have := HK.out; have := HCc.out; omega)
        obtain ⟨W3, hr3, HF3, HB3⟩ := run_fill _ w.heap.size b n y HFd.out k r r c n ⟨w.heap.size, 0, none⟩ HK.out HSd.out hbk w.heap.size w HBd.out (Nat.le_refl _)
        go_wp2_with fail
        go_region_law (refine step_copy rfl _ _ rfl rfl rfl hr3 ?_)
        all_goals
          go_simp
          go_roundw
          case rel =>
            refine ⟨_, _, _, _, _, _, _, _, _, _, _, _, _, _, _, _, _, ⟨b + k, by omega, hbk, ?_, HF3, HB3⟩, rfl⟩
            go_num
          case measure => simp [intOf]; omega
      · obtain rfl : b = n := by omega
        go_wp2_with fail
        go_ret
        exact ⟨rfl, HFr.out.room, HBr.out⟩
end Go.Proofs.YtompoojijeigfaaDoor
