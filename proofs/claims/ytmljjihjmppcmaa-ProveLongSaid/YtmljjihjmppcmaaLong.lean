/-
  The walk of crossbucklaw18.ProveLong: true, whatever it is given.
-/
import Derived.Test.YtmljjihjmppcmaaRow
namespace Go.Proofs.Ytmljjihjmppcmaa
open Go.RowKit

theorem long_out (v : Value) (ls : List Br) (l : Int) (w : World) (hv : Els RBr 4 w v ls) (h : ¬ (ls.length ≤ 300 ∧ 1 ≤ l)) : Calls Try.prog 4 #[v, .int .i64 l] w fun e w' => e = .returned (.bool true) ∧ Below w.heap.size w w' := by
  obtain ⟨a, c, rfl⟩ := hv.len
  obtain ⟨K, hn⟩ : ∃ n, n = ls.length := ⟨_, rfl⟩
  rw [← hn] at h ⊢
  clear hn hv
  rcases (show 300 < (K : Int) ∨ (¬ 300 < (K : Int) ∧ l < 1) by omega) with h1 | ⟨h1, h2⟩
  all_goals
    clear h
    go_enter Try.func4, Try.ntmps4
    go_wp2_with fail
    (with_reducible refine (small_true _).mono ?_)
    rintro e w1 ⟨rfl, hb⟩
    have HB1 := Lib.hid hb
    clear hb
    go_wp2_with fail
    go_ret
    exact ⟨rfl, HB1.out⟩
set_option maxHeartbeats 4000000 in
set_option maxRecDepth 10000 in
theorem long_main (v : Value) (ls : List Br) (L : Nat) (w : World) (hv : Els RBr 4 w v ls) (hK : ls.length ≤ 300) (h1 : 1 ≤ L) (hl : (L : Int) ≤ 9223372036854775807) : Calls Try.prog 4 #[v, .int .i64 (L : Int)] w fun e w' => e = .returned (.bool true) ∧ Below w.heap.size w w' := by
  obtain ⟨a, c, ev⟩ := hv.len
  obtain ⟨K, hn⟩ : ∃ n, n = ls.length := ⟨_, rfl⟩
  rw [← hn] at ev hK
  subst ev
  have HV := Lib.hid hv
  have HN := Lib.hid hn
  have p0 : ¬ 300 < (K : Int) := by omega
  have p1 : ¬ (L : Int) < 1 := by omega
  have HA := Lib.hid h1
  have HL := Lib.hid hl
  have HK := Lib.hid hK
  clear hv hn h1 hl hK
  go_enter Try.func4, Try.ntmps4
  go_wp2_with fail
  (with_reducible refine (small_true _).mono ?_)
  rintro e w1 ⟨rfl, hb⟩
  have HB := Lib.hid hb
  clear hb
  go_wp2_with fail
  go_loopw [6, 7] (fun x z wr => ∃ k : Nat, k ≤ K ∧ x = .int .i64 ((pcap (prun (dwn ls) k) L : Nat) : Int) ∧ z = .int .i64 (k : Int) ∧ Hid (Below w.heap.size w wr)) (fun _ z _ => K - (intOf z).toNat)
  case atStart => exact ⟨0, by omega, rfl, rfl, HB⟩
  case round =>
    obtain ⟨k, hk, rfl, rfl, HB2⟩ := hrel
    clear HB
    by_cases hlt : k < K
    · have hltI : (k : Int) < (K : Int) := by omega
      obtain ⟨y, hy⟩ : ∃ y, ls[k]? = some y := ⟨_, List.getElem?_eq_getElem (by rw [← HN.out]; exact hlt)⟩
      obtain ⟨g2, o2, ea, hr⟩ := HV.out.at_ hy
      subst ea
      have hd := dwn_at hy
      obtain ⟨ya, yb, yc, yd⟩ := y
      have HR := Lib.hid (hr.below HB2.out)
      obtain ⟨n, hn⟩ : ∃ n : Nat, n = pcap (prun (dwn ls) (k + 1)) L := ⟨_, rfl⟩
      have H1 := Lib.hid (step_to ((pcap (prun (dwn ls) k) L : Nat) : Int) ya yb yc yd (L : Int) (n : Int) (by rw [hn, ← pvs_run (dwn ls) k L HA.out, hd]) HL.out)
      have HE := Lib.hid hn
      have hkw : wrap64 ((k : Int) + 1) = (k : Int) + 1 := IntWalk.wrap64_in _ (by have := HK.out; omega)
      clear hy hr hd hn
      obtain ⟨r0, r1, r2, r3⟩ := HR.out
      dsimp only at r0 r1 r2 r3
      go_wp2_with fail
      (with_reducible refine (H1.out _).mono ?_)
      rintro e w5 ⟨rfl, hb⟩
      replace HB2 := Lib.hid (below_call HB2.out hb)
      clear hb r0 r1 r2 r3 HR H1
      have HLT := Lib.hid hlt
      clear hlt hltI
      go_wp2_with fail
      go_loopw [8, 9] (fun x z wx => ∃ (j : Nat) (q : Bool), (j ≤ L ∧ j ≤ k + 1) ∧ x = .bool q ∧ z = .int .i64 (j : Int) ∧ Hid (q = (decide (L ≤ k + 1) && pall (dwn ls) k j)) ∧ Hid (Below w.heap.size w wx)) (fun _ z _ => k + 1 - (intOf z).toNat)
      case atStart => exact ⟨0, _, ⟨by omega, by omega⟩, rfl, rfl, Lib.hid (by unfold pall; rw [Bool.and_true]; exact decide_eq_decide.2 (by omega)), HB2⟩
      case round =>
        obtain ⟨j, q, hj, rfl, rfl, HQ, HB3⟩ := hrel
        clear HB2
        obtain ⟨j0, j1⟩ := hj
        by_cases hjl : j < L
        · have hjI : (j : Int) < (L : Int) := by omega
          by_cases hjk : j ≤ k
          · have hkI : (j : Int) ≤ (k : Int) := by omega
            obtain ⟨r, hr⟩ : ∃ r : Nat, r = k - j := ⟨_, rfl⟩
            have hrI : (k : Int) - (j : Int) = (r : Int) := by omega
            have hrw : wrap64 ((k : Int) - (j : Int)) = (r : Int) := by rw [hrI]; exact IntWalk.wrap64_in _ (by have := HK.out; have := HLT.out; omega)
            have hrK : r < K := by have := HLT.out; omega
            have hrKI : (r : Int) < (K : Int) := by omega
            obtain ⟨y, hy⟩ : ∃ y, ls[r]? = some y := ⟨_, List.getElem?_eq_getElem (by rw [← HN.out]; exact hrK)⟩
            have hR := (HV.out.at2 hy).below HB3.out
            have HD := Lib.hid (dwn_at hy)
            have HP := Lib.hid hr
            obtain ⟨ya, yb, yc, yd⟩ := y
            obtain ⟨r0, r1, r2, r3⟩ := hR
            dsimp only at r0 r1 r2 r3
            clear hy hr
            cases q
            · go_wp2_with fail
              go_roundw
              case rel => exact ⟨j + 1, false, ⟨by omega, by omega⟩, rfl, by go_num, Lib.hid (by unfold pall; rw [← Bool.and_assoc, ← HQ.out]; rfl), HB3⟩
              case measure => simp [intOf]; omega
            · cases ya
              · go_wp2_with fail
                go_roundw
                case rel => exact ⟨j + 1, false, ⟨by omega, by omega⟩, rfl, by go_num, Lib.hid (by unfold pall; rw [← Bool.and_assoc, ← HQ.out, ← HP.out, HD.out]; rfl), HB3⟩
                case measure => simp [intOf]; omega
              · go_wp2_with fail
                go_roundw
                case rel => exact ⟨j + 1, yc, ⟨by omega, by omega⟩, rfl, by go_num, Lib.hid (by unfold pall; rw [← Bool.and_assoc, ← HQ.out, ← HP.out, HD.out]; simp), HB3⟩
                case measure => simp [intOf]; omega
          · have hkI : ¬ (j : Int) ≤ (k : Int) := by omega
            have H3 := Lib.hid (proved_to (n : Int) (L : Int) q (by rw [HE.out, HQ.out]; exact proved_run (dwn ls) k L j HA.out (Or.inr ⟨by omega, by omega⟩)))
            have hqq : (q != q) = false := by simp
            go_wp2_with fail
            (with_reducible refine (H3.out _).mono ?_)
            rintro e w7 ⟨rfl, rfl⟩
            go_wp2_with fail
            go_roundw
            case rel => exact ⟨k + 1, by have := HLT.out; omega, by rw [HE.out], by go_num, HB3⟩
            case measure => have := HLT.out; simp [intOf]; omega
        · have hjI : ¬ (j : Int) < (L : Int) := by omega
          have H3 := Lib.hid (proved_to (n : Int) (L : Int) q (by rw [HE.out, HQ.out]; exact proved_run (dwn ls) k L j HA.out (Or.inl (by omega))))
          have hqq : (q != q) = false := by simp
          go_wp2_with fail
          (with_reducible refine (H3.out _).mono ?_)
          rintro e w7 ⟨rfl, rfl⟩
          go_wp2_with fail
          go_roundw
          case rel => exact ⟨k + 1, by have := HLT.out; omega, by rw [HE.out], by go_num, HB3⟩
          case measure => have := HLT.out; simp [intOf]; omega
    · have hltI : ¬ (k : Int) < (K : Int) := by omega
      go_wp2_with fail
      go_ret
      exact ⟨rfl, HB2.out⟩
theorem long_any (v : Value) (ls : List Br) (l : Int) (w : World) (hv : Els RBr 4 w v ls) (hl : l ≤ 9223372036854775807) : Calls Try.prog 4 #[v, .int .i64 l] w fun e w' => e = .returned (.bool true) ∧ Below w.heap.size w w' := by
  by_cases h : ls.length ≤ 300 ∧ 1 ≤ l
  · obtain ⟨h0, h1⟩ := h
    obtain ⟨k, rfl⟩ : ∃ k : Nat, l = (k : Int) := ⟨l.toNat, by omega⟩
    exact long_main v ls k w hv h0 (by omega) hl
  · exact long_out v ls l w hv h
end Go.Proofs.Ytmljjihjmppcmaa
