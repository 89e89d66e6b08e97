/-
  The walk of crossbucklaw17.JournalMany: true, whatever it is given.
-/
import Derived.Test.YtekackglcapppaaDoorSmall

namespace Go.Proofs.YtekackglcapppaaDoor
open Go.RowKit

/-- Between two rounds: k records of one byte each. -/
def ManyI (w wr : World) (s B hh b m k : Nat) : Prop :=
  ∃ S j, MineS w wr s B hh S ∧ MineJ w wr s B hh b j ∧ Fine S j m ∧ j.s = k ∧ (k = 0 ∨ (j.d = [BitVec.ofNat 8 (k - 1)] ∧ j.is = true))
set_option maxHeartbeats 4000000 in
set_option maxRecDepth 10000 in
theorem many_any (size : Int) (hsz : -9223372036854775808 ≤ size ∧ size ≤ 9223372036854775807) (n : Int) (hnb : -9223372036854775808 ≤ n ∧ n ≤ 9223372036854775807) (w : World) :
    Calls Tryd.prog 6 #[.int .i64 size, .int .i64 n] w fun e w' => e = .returned (.bool true) ∧ Below w.heap.size w w' := by
  have HSM := Lib.hid (small_true w)
  obtain ⟨m, hm⟩ : ∃ m : Nat, (m : Int) = min (max size 0) 65536 := ⟨(min (max size 0) 65536).toNat, by omega⟩
  have HM0 := Lib.hid hm
  clear hm hsz
  go_enter Tryd.func6, Tryd.ntmps6
  go_wp2_with fail
  (with_reducible refine HSM.out.mono ?_)
  rintro e w1 ⟨rfl, hb⟩
  have HNEW := Lib.hid (new_S size m HM0.out hb)
  clear HSM hb
  go_wp2_with fail
  (with_reducible refine HNEW.out.mono ?_)
  rintro e w2 ⟨s, B, rfl, hM, _⟩
  have HM := Lib.hid hM
  clear hM HNEW
  by_cases c0 : size < 18
  · have q0 : decide (size < 18) = true := decide_eq_true c0
    clear c0
    go_wp2_with fail
    go_ret
    exact ⟨rfl, HM.out.bel⟩
  have q0 : decide (size < 18) = false := decide_eq_false c0
  by_cases c1 : 600 < size
  · have q1 : decide (600 < size) = true := decide_eq_true c1
    clear c0 c1
    go_wp2_with fail
    go_ret
    exact ⟨rfl, HM.out.bel⟩
  have q1 : decide (600 < size) = false := decide_eq_false c1
  by_cases c2 : n < 1
  · have q2 : decide (n < 1) = true := decide_eq_true c2
    clear c0 c1 c2
    go_wp2_with fail
    go_ret
    exact ⟨rfl, HM.out.bel⟩
  have q2 : decide (n < 1) = false := decide_eq_false c2
  by_cases c3 : 500 < n
  · have q3 : decide (500 < n) = true := decide_eq_true c3
    clear c0 c1 c2 c3
    go_wp2_with fail
    go_ret
    exact ⟨rfl, HM.out.bel⟩
  have q3 : decide (500 < n) = false := decide_eq_false c3
  obtain ⟨r, hr⟩ : ∃ r : Nat, n = (r : Int) := ⟨n.toNat, by omega⟩
  have HMB := Lib.hid (show 18 ≤ m ∧ m ≤ 600 by have := HM0.out; omega)
  have HR := Lib.hid (show 1 ≤ r ∧ r ≤ 500 by omega)
  have HF0 := Lib.hid (Fine.new m)
  have HO := Lib.hid HM.out.open_
  rw [HF0.out.opn] at HO
  clear c0 c1 c2 c3 HM0
  subst hr
  go_wp2_with fail
  (with_reducible refine HO.out.mono ?_)
  rintro e w3 ⟨b, rfl, hJ, hb⟩
  have HI0 : Hid (ManyI w w3 s B (m / 2) b m 0) := Lib.hid ⟨_, _, HM.out.below hb, hJ, HF0.out, rfl, .inl rfl⟩
  clear HO HM HF0 hJ hb q0 q1 q2 q3
  go_wp2_with fail
  go_loopw [8] (fun i wr => ∃ k : Nat, k ≤ r ∧ i = .int .i64 (k : Int) ∧ Hid (ManyI w wr s B (m / 2) b m k)) (fun i _ => r - (intOf i).toNat)
  case atStart => exact ⟨0, by omega, rfl, HI0⟩
  case round =>
    clear HI0
    obtain ⟨k, hk, rfl, HI⟩ := hrel
    rcases Nat.lt_or_ge k r with hlt | hge
    · obtain ⟨S, j, hM, hJ, hf, hjs, hjd⟩ := HI.out
      obtain ⟨x, hx⟩ : ∃ x : BitVec 8, x = BitVec.ofNat 8 k := ⟨_, rfl⟩
      have hw : IntKind.u8.wrap (k : Int) = (x.toNat : Int) := by rw [hx, BitVec.toNat_ofNat]; simp [IntKind.wrap, IntKind.bits, IntKind.signed]
      have HX := Lib.hid hx
      have HB := Lib.hid (lit_byts wr #[.int .u8 (x.toNat : Int)] 1 (0, 0) [x] rfl rfl)
      obtain ⟨S', k', e', hp, hf'⟩ := hf.ok (d := [x]) (by have := HMB.out; have := HR.out; simp [jcode]; omega)
      have HF' := Lib.hid hf'
      have HA := Lib.hid ((hM.alloc (.cells #[.int .u8 (x.toNat : Int)] 5)).append (hJ.alloc _) _ [x] (hJ.lit hM HB.out) 0 hp)
      have HJS := Lib.hid hjs
      clear hM hJ hf hjs hjd hp hf' HI hx
      have hltI : decide ((k : Int) < (r : Int)) = true := decide_eq_true (by omega)
      go_wp2_with fail
      (with_reducible refine HA.out.mono ?_)
      rintro e w4 ⟨u, rfl, he, hM, hJ, hkk⟩
      obtain rfl := he.nil
      have HI4 : Hid (ManyI w w4 s B (m / 2) b m (k + 1)) := Lib.hid ⟨S', _, hM, hJ, HF'.out, by show j.s + 1 = k + 1; rw [HJS.out], .inr ⟨by show [x] = _; rw [HX.out]; rfl, rfl⟩⟩
      clear HA he hM hJ hkk HB HF' hltI
      go_wp2_with fail
      go_roundw
      case rel => exact ⟨k + 1, by omega, by go_num, HI4⟩
      case measure => simp [intOf]; omega
    · obtain rfl : k = r := by omega
      clear hge hk
      obtain ⟨S, j, hM, hJ, hf, hjs, hjd⟩ := HI.out
      have HM := Lib.hid hM
      have HJ := Lib.hid hJ
      have HO := Lib.hid hM.open_
      rw [hf.opn] at HO
      obtain ⟨hjd1, hji⟩ : j.d = [BitVec.ofNat 8 (k - 1)] ∧ j.is = true := hjd.resolve_left (by have := HR.out; omega)
      have HJS := Lib.hid hjs
      have HJD := Lib.hid hjd1
      have HJI := Lib.hid hji
      clear hM hJ hf hjs hjd hjd1 hji HI
      go_wp2_with fail
      (with_reducible refine HO.out.mono ?_)
      rintro e w4 ⟨b2, rfl, hK, hb⟩
      have HK4 := Lib.hid hK
      have HM4 := Lib.hid (HM.out.below hb)
      have HJ4 := Lib.hid (HJ.out.below hb)
      have HL := Lib.hid hK.last
      rw [HJI.out, HJD.out] at HL
      clear HO HM HJ hK hb
      go_wp2_with fail
      (with_reducible refine HL.out.mono ?_)
      rintro e w5 ⟨v, rfl, ho, hb⟩
      have HK5 := Lib.hid (HK4.out.below hb)
      have HM5 := Lib.hid (HM4.out.below hb)
      have HJ5 := Lib.hid (HJ4.out.below hb)
      obtain ⟨g, c, hv, _, _⟩ := ho.form (by simp)
      have hv' : v = .slice (some ⟨g, 0, none⟩) 1 c := hv
      subst hv'
      obtain ⟨x, hx⟩ : ∃ x : BitVec 8, x = BitVec.ofNat 8 (k - 1) := ⟨_, rfl⟩
      rw [← hx] at ho
      have hc := ho.cell rfl 0 x rfl
      obtain ⟨p, hp⟩ : ∃ p : Nat, p = k - 1 := ⟨_, rfl⟩
      have hw0 : IntKind.i64.wrap ((k : Int) - 1) = (p : Int) := by have := HR.out; rw [IntKind.wrap_i64]; omega
      have hw1 : IntKind.u8.wrap (p : Int) = (x.toNat : Int) := by rw [hx, BitVec.toNat_ofNat, hp]; simp [IntKind.wrap, IntKind.bits, IntKind.signed]
      have hw2 : IntKind.u32.wrap (k : Int) = (k : Int) := by have := HR.out; rw [IntKind.wrap_u32]; omega
      have HSK := Lib.hid (HK5.out.seq k HJS.out)
      have HSJ := Lib.hid (HJ5.out.seq k HJS.out)
      clear HL HM4 HJ4 HK4 ho hb hv hx hp
      go_wp2_with fail
      (with_reducible refine HSK.out.mono ?_)
      rintro e w' ⟨rfl, rfl⟩
      go_wp2_with fail
      (with_reducible refine HSJ.out.mono ?_)
      rintro e w' ⟨rfl, rfl⟩
      go_wp2_with fail
      (with_reducible refine HSK.out.mono ?_)
      rintro e w' ⟨rfl, rfl⟩
      go_wp2_with fail
      go_ret
      exact ⟨by simp, HM5.out.bel⟩
end Go.Proofs.YtekackglcapppaaDoor
