/-
  The calls of octet by contracts: lay, Over, next, number, U32.
-/
import Derived.Test.YtecfobmmbdmdgaaOcRd
namespace Go.Proofs.Ytecfobmmbdmdgaa
open Go.RowKit

set_option maxHeartbeats 1000000 in
theorem lay_any (v u : Value) (xs ys : List (BitVec 8)) (w : World) (hv : Byts w v xs) (hu : Byts w u ys) (hl : xs.length + ys.length ≤ 140737488355328) :
    Calls Try.prog 27 #[v, u] w fun e w' => ∃ r, e = .returned r ∧ Own w' w.heap.size r (xs ++ ys) ∧ Below w.heap.size w w' := by
  obtain ⟨av, cv, ev⟩ := hv.len
  obtain ⟨au, cu, eu⟩ := hu.len
  obtain ⟨M, hM, _, hmk⟩ := run_make_u8 (xs.length + ys.length) hl 0 (by omega)
  have HM := Lib.hid hM
  have HV := Lib.hid hv
  have HU := Lib.hid hu
  clear hv hu hM
  subst ev eu
  rw [show (((0 : Nat) : Int)) = 0 from rfl, show ((xs.length + ys.length : Nat) : Int) = (xs.length : Int) + (ys.length : Int) by simp] at hmk
  have HO := Lib.hid (own_made w w.heap.size M _ HM.out (Nat.le_refl _) (by unfold maxLen; omega))
  have HB := Lib.hid ((Below.refl w.heap.size w).alloc (Nat.le_refl _) (.cells M 5))
  have HV1 := Lib.hid (HV.out.below HB.out)
  have HU1 := Lib.hid (HU.out.below HB.out)
  have tok1 : True := trivial
  have hsz := HB.out.size
  go_enter Try.func27, Try.ntmps27
  go_wp2_with (first
    | (at_builtin; have _t := tok1; refine wpList_app rfl _ _ rfl w.heap.size _ [] rfl HO.out _ xs rfl HV1.out (by simp; omega) hsz ?_; intro v1 w1 hown1 hg1; have HO1 := Lib.hid hown1; have HB1 := Lib.hid (HO.out.grown HB.out hg1); have HU2 := Lib.hid (HU.out.below HB1.out); have hsz1 := HB1.out.size; clear hown1 hg1 tok1 _t HO HB HV1 HU1 hsz hmk)
    | (at_builtin; refine wpList_app rfl _ _ rfl w.heap.size _ _ rfl HO1.out _ ys rfl HU2.out (by simpa using hl) hsz1 ?_; intro v2 w2 hown2 hg2; have HO2 := Lib.hid hown2; have HB2 := Lib.hid (HO1.out.grown HB1.out hg2); clear hown2 hg2 HO1 HB1 hsz1))
  go_ret
  exact ⟨_, rfl, by simpa using HO2.out, HB2.out⟩

theorem over_any (v : Value) (xs : List (BitVec 8)) (w : World) (hv : Byts w v xs) (hl : xs.length ≤ 140737488355328) :
    Calls Try.prog 39 #[v] w fun e w' => ∃ b, e = .returned (.pointer (some ⟨b, 0, none⟩)) ∧ Rd w' 72 b w.heap.size b xs false ∧ w.heap.size ≤ b ∧ Below w.heap.size w w' := by
  have HL := Lib.hid (lay_any v _ xs [] w hv (byts_nil w) (by simpa using hl))
  clear hv hl
  go_enter Try.func39, Try.ntmps39
  go_wp2_with fail
  (with_reducible refine HL.out.mono ?_)
  rintro e w1 ⟨r, rfl, hown, hb⟩
  rw [List.append_nil] at hown
  have HO := Lib.hid hown.left
  have HB := Lib.hid hb
  obtain ⟨ar, cr, er⟩ := hown.byts.len
  clear hown hb HL
  subst er
  go_wp2_with fail
  go_ret
  exact ⟨_, rfl, Rd.made 72 w.heap.size w1.heap.size HO.out (Nat.le_refl _) false, HB.out.size, below_alloc HB.out _⟩

theorem next_none (T b lo L : Nat) (bad : Bool) (w : World) (h : Rd w T b lo L [] bad) :
    Calls Try.prog 45 #[.pointer (some ⟨b, 0, none⟩)] w fun e w' => e = .returned (.tuple #[.int .u8 0, .bool false]) ∧ Rd w' T b lo L [] true ∧ Apart b w w' := by
  obtain ⟨v, h0, h1, f0, f1, hl⟩ := h.cells
  obtain ⟨av, cv, ev⟩ := hl.1.len
  have HR := Lib.hid h
  clear h hl
  subst ev
  go_enter Try.func45, Try.ntmps45
  go_wp2
  go_ret2
  exact ⟨rfl, HR.out.setBad true, Apart.set_ b 1 w _⟩
theorem next_some (T b lo L : Nat) (x : BitVec 8) (xs : List (BitVec 8)) (bad : Bool) (w : World) (h : Rd w T b lo L (x :: xs) bad) :
    Calls Try.prog 45 #[.pointer (some ⟨b, 0, none⟩)] w fun e w' => e = .returned (.tuple #[.int .u8 (x.toNat : Int), .bool true]) ∧ Rd w' T b lo L xs bad ∧ Apart b w w' := by
  obtain ⟨v, h0, h1, f0, f1, hl⟩ := h.cells
  obtain ⟨g, o, cap, x', ev, hc, hg, hx, hcell⟩ := hl.1.at_ 0 (by simp)
  obtain rfl : x = x' := by simpa using hx
  obtain ⟨v2, hrun, hb2, hblk⟩ := cutR hl.1 1 (by simp)
  have HR := Lib.hid h
  have HL2 := Lib.hid (show Left w lo L v2 xs from ⟨by simpa using hb2, fun a n c he => by
    obtain ⟨a', n', c', hv', hbl⟩ := hblk a n c he
    rcases hl.2 a' n' c' hv' with h0 | ⟨h0, h0'⟩
    · rw [ev] at hv'
      simp only [Value.slice.injEq] at hv'
      obtain ⟨_, h2, _⟩ := hv'
      rw [h0] at h2
      simp at h2
    · right; constructor <;> omega⟩)
  obtain ⟨a2, c2, e2⟩ := HL2.out.1.len
  clear h hl hx hb2 hblk
  subst ev e2
  rw [show ((1 : Nat) : Int) = 1 from rfl] at hrun
  rw [Nat.add_zero] at hcell
  simp only [List.length_cons] at h0 hc hrun
  have hnz : (((xs.length + 1 : Nat) : Int) == 0) = false := by simp; omega
  have h0lt : 0 < xs.length + 1 := by omega
  go_enter Try.func45, Try.ntmps45
  go_wp2
  go_ret2
  exact ⟨rfl, HR.out.setLeft HL2.out, Apart.set_ b 0 w _⟩

theorem or_byte (n : Nat) (hn : n < 16777216) (x : BitVec 8) : bits .or .u32 ((n : Int) * 256) (x.toNat : Int) = ((n * 256 + x.toNat : Nat) : Int) := by
  have hx := x.isLt
  have h1 : n * 256 + x.toNat = n * 256 ||| x.toNat := by
    have := Nat.shiftLeft_add_eq_or_of_lt (i := 8) (b := x.toNat) (by omega) n
    rw [Nat.shiftLeft_eq] at this
    simpa using this
  have e1 : (BitVec.ofInt 32 ((n : Int) * 256)).toNat = n * 256 := by
    rw [show (n : Int) * 256 = ((n * 256 : Nat) : Int) by simp, BitVec.ofInt_natCast, BitVec.toNat_ofNat]
    exact Nat.mod_eq_of_lt (by omega)
  have e2 : (BitVec.ofInt 32 (x.toNat : Int)).toNat = x.toNat := by
    rw [BitVec.ofInt_natCast, BitVec.toNat_ofNat]
    exact Nat.mod_eq_of_lt (by omega)
  show IntKind.u32.wrap ((BitVec.ofInt 32 ((n : Int) * 256) ||| BitVec.ofInt 32 (x.toNat : Int)).toNat : Int) = _
  rw [BitVec.toNat_or, e1, e2, ← h1]
  simp [IntKind.wrap, IntKind.bits, IntKind.signed]
  omega

/-- What a call that asks for k bytes leaves of a reader. -/
def Took (T b lo L : Nat) (xs : List (BitVec 8)) (bad : Bool) (k : Nat) (w w' : World) : Prop := Rd w' T b lo L (xs.drop k) (bad || decide (xs.length < k)) ∧ Apart b w w'

set_option maxHeartbeats 1000000 in
theorem number_any (k : Nat) (hk : k ≤ 4) (T b lo L : Nat) (xs : List (BitVec 8)) (bad : Bool) (w : World) (h : Rd w T b lo L xs bad) :
    Calls Try.prog 44 #[.func (.func 45) #[.pointer (some ⟨b, 0, none⟩)] #[], .int .i64 (k : Int)] w fun e w' => e = .returned (.int .u32 (val k xs : Int)) ∧ Took T b lo L xs bad k w w' := by
  have HR := Lib.hid h
  clear h
  go_enter Try.func44, Try.ntmps44
  go_wp2
  go_loopw [5, 9] (fun n i wr => ∃ j : Nat, j ≤ k ∧ j ≤ xs.length ∧ i = .int .i64 j ∧ n = .int .u32 (num (xs.take j) : Int) ∧ Rd wr T b lo L (xs.drop j) bad ∧ Apart b w wr) (fun _ i _ => k - (intOf i).toNat)
  case atStart => exact ⟨0, by omega, by omega, rfl, rfl, HR.out, Apart.refl b w⟩
  case round =>
    obtain ⟨j, hj, hjl, rfl, rfl, hr, ha⟩ := hrel
    have HW := Lib.hid hr
    have HA := Lib.hid ha
    clear hr ha
    by_cases hlt : j < k
    · by_cases hlx : j < xs.length
      · obtain ⟨x, hx⟩ : ∃ x, xs[j]? = some x := ⟨_, List.getElem?_eq_getElem hlx⟩
        have HD := Lib.hid (show xs.drop j = x :: xs.drop (j + 1) by
          rw [List.drop_eq_getElem_cons hlx]
          congr 1
          rw [List.getElem?_eq_getElem hlx] at hx
          exact Option.some.inj hx)
        have HS := Lib.hid (num_next xs j x hx)
        have hn := take_lt xs j (by omega)
        have hor := or_byte (num (xs.take j)) hn x
        have hxl := x.isLt
        clear hx
        generalize num (xs.take j) = n at *
        go_wp2_with fail
        (with_reducible refine (next_some T b lo L x (xs.drop (j + 1)) bad _ (by rw [← HD.out]; exact HW.out)).mono ?_)
        rintro e w1 ⟨rfl, hr, ha⟩
        have HW1 := Lib.hid hr
        have HA1 := Lib.hid (HA.out.trans ha)
        clear hr ha HW HA
        go_wp2_with fail
        go_roundw
        case rel => exact ⟨j + 1, by omega, by omega, by go_num, by rw [HS.out]; simp, HW1.out, HA1.out⟩
        case measure => simp [intOf]; omega
      · have HE := Lib.hid (show xs.drop j = [] from List.drop_eq_nil_of_le (by omega))
        go_wp2_with fail
        (with_reducible refine (next_none T b lo L bad _ (by rw [← HE.out]; exact HW.out)).mono ?_)
        rintro e w1 ⟨rfl, hr, ha⟩
        have HW1 := Lib.hid hr
        have HA1 := Lib.hid (HA.out.trans ha)
        clear hr ha HW HA
        go_wp2_with fail
        go_ret
        refine ⟨by rw [val_few (by omega)]; rfl, ?_, HA1.out⟩
        rw [List.drop_eq_nil_of_le (by omega), show decide (xs.length < k) = true by simp; omega, Bool.or_true]
        exact HW1.out
    · go_wp2
      go_ret
      obtain rfl : j = k := by omega
      refine ⟨by rw [val_all hjl]; rfl, ?_, HA.out⟩
      rw [show decide (xs.length < j) = false by simp; omega, Bool.or_false]
      exact HW.out

theorem made_next (b : Nat) : ∀ w : World, (Instr.makeFunc (.func 45) #[.pointer (some ⟨b, 0, none⟩)] #[]).run Try.prog w = .ok (.func (.func 45) #[.pointer (some ⟨b, 0, none⟩)] #[]) w := fun _ => rfl

theorem u32_any (T b lo L : Nat) (xs : List (BitVec 8)) (bad : Bool) (w : World) (h : Rd w T b lo L xs bad) :
    Calls Try.prog 40 #[.pointer (some ⟨b, 0, none⟩)] w fun e w' => e = .returned (.int .u32 (val 4 xs : Int)) ∧ Took T b lo L xs bad 4 w w' := by
  have hmf := made_next b
  have HN := Lib.hid (number_any 4 (by omega) T b lo L xs bad w h)
  rw [show ((4 : Nat) : Int) = 4 from rfl] at HN
  have hv := val4_lt xs
  clear h
  go_enter Try.func40, Try.ntmps40
  go_wp2_with fail
  (with_reducible refine HN.out.mono ?_)
  rintro e w1 ⟨rfl, ht⟩
  have HT := Lib.hid ht
  clear ht HN
  go_wp2_with fail
  go_ret
  exact ⟨rfl, HT.out⟩
end Go.Proofs.Ytecfobmmbdmdgaa
