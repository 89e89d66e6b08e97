/-
  The walk of crossbucklaw18.ProveSooner: true, whatever it is given.
-/
import Derived.Test.YtmljjihjmppcmaaRow
namespace Go.Proofs.Ytmljjihjmppcmaa
open Go.RowKit

theorem sooner_out (v : Value) (ls : List Br) (l m : Int) (w : World) (hv : Els RBr 4 w v ls) (h : ¬ (ls.length ≤ 300 ∧ 1 ≤ l ∧ l ≤ m)) : Calls Try.prog 7 #[v, .int .i64 l, .int .i64 m] w fun e w' => e = .returned (.bool true) ∧ Below w.heap.size w w' := by
  obtain ⟨a, c, rfl⟩ := hv.len
  obtain ⟨K, hn⟩ : ∃ n, n = ls.length := ⟨_, rfl⟩
  rw [← hn] at h ⊢
  clear hn hv
  rcases (show 300 < (K : Int) ∨ (¬ 300 < (K : Int) ∧ l < 1) ∨ (¬ 300 < (K : Int) ∧ ¬ l < 1 ∧ m < l) by omega) with h1 | ⟨h1, h2⟩ | ⟨h1, h2, h3⟩
  all_goals
    clear h
    go_enter Try.func7, Try.ntmps7
    go_wp2_with fail
    (with_reducible refine (small_true _).mono ?_)
    rintro e w1 ⟨rfl, hb⟩
    have HB1 := Lib.hid hb
    clear hb
    go_wp2_with fail
    go_ret
    exact ⟨rfl, HB1.out⟩
set_option maxHeartbeats 4000000 in
set_option maxRecDepth 10000 in
theorem sooner_main (v : Value) (ls : List Br) (L M : Nat) (w : World) (hv : Els RBr 4 w v ls) (hK : ls.length ≤ 300) (h1 : 1 ≤ L) (h2 : L ≤ M) (hl : (M : Int) ≤ 9223372036854775807) : Calls Try.prog 7 #[v, .int .i64 (L : Int), .int .i64 (M : Int)] w fun e w' => e = .returned (.bool true) ∧ Below w.heap.size w w' := by
  obtain ⟨a, c, ev⟩ := hv.len
  obtain ⟨K, hn⟩ : ∃ n, n = ls.length := ⟨_, rfl⟩
  rw [← hn] at ev hK
  subst ev
  have HV := Lib.hid hv
  have HN := Lib.hid hn
  have p0 : ¬ 300 < (K : Int) := by omega
  have p1 : ¬ (L : Int) < 1 := by omega
  have p2 : ¬ (M : Int) < (L : Int) := by omega
  have p3 : ¬ M < L := by omega
  have HA := Lib.hid h1
  have HM := Lib.hid h2
  have HL := Lib.hid hl
  clear hv hn h1 h2 hl hK
  go_enter Try.func7, Try.ntmps7
  go_wp2_with fail
  (with_reducible refine (small_true _).mono ?_)
  rintro e w1 ⟨rfl, hb⟩
  have HB := Lib.hid hb
  clear hb
  go_wp2_with fail
  go_loopw [8, 9, 10] (fun x y z wr => ∃ k : Nat, k ≤ K ∧ x = .int .i64 ((pcap (prun (dwn ls) k) L : Nat) : Int) ∧ y = .int .i64 ((pcap (prun (dwn ls) k) M : Nat) : Int) ∧ z = .int .i64 (k : Int) ∧ Hid (Below w.heap.size w wr)) (fun _ _ z _ => K - (intOf z).toNat)
  case atStart => exact ⟨0, by omega, rfl, rfl, rfl, HB⟩
  case round =>
    obtain ⟨k, hk, rfl, rfl, rfl, HB2⟩ := hrel
    clear HB
    by_cases hlt : k < K
    · have hltI : (k : Int) < (K : Int) := by omega
      obtain ⟨y, hy⟩ : ∃ y, ls[k]? = some y := ⟨_, List.getElem?_eq_getElem (by rw [← HN.out]; exact hlt)⟩
      obtain ⟨g2, o2, ea, hr⟩ := HV.out.at_ hy
      subst ea
      have hd := dwn_at hy
      obtain ⟨ya, yb, yc, yd⟩ := y
      have HR := Lib.hid (hr.below HB2.out)
      have H1 := Lib.hid (step_to ((pcap (prun (dwn ls) k) L : Nat) : Int) ya yb yc yd (L : Int) ((pcap (prun (dwn ls) (k + 1)) L : Nat) : Int) (by rw [← pvs_run (dwn ls) k L HA.out, hd]) (by have := HL.out; have := HM.out; omega))
      have H2 := Lib.hid (step_to ((pcap (prun (dwn ls) k) M : Nat) : Int) ya yb yc yd (M : Int) ((pcap (prun (dwn ls) (k + 1)) M : Nat) : Int) (by rw [← pvs_run (dwn ls) k M (by have := HA.out; have := HM.out; omega), hd]) HL.out)
      obtain ⟨n, hn⟩ : ∃ n : Nat, n = pcap (prun (dwn ls) (k + 1)) L := ⟨_, rfl⟩
      obtain ⟨m, hm⟩ : ∃ m : Nat, m = pcap (prun (dwn ls) (k + 1)) M := ⟨_, rfl⟩
      have hnm : (m < L ∧ n = m) ∨ (L ≤ m ∧ n = L) := by
        have := HM.out
        rw [hn, hm]
        unfold pcap
        by_cases e1 : prun (dwn ls) (k + 1) ≤ L
        · rw [if_pos e1, if_pos (by omega)]; omega
        · rw [if_neg e1]
          by_cases e2 : prun (dwn ls) (k + 1) ≤ M
          · rw [if_pos e2]; omega
          · rw [if_neg e2]; omega
      rw [← hn] at H1
      rw [← hm] at H2
      have HE := Lib.hid (And.intro hn hm)
      clear hy hr hd hn hm
      obtain ⟨r0, r1, r2, r3⟩ := HR.out
      dsimp only at r0 r1 r2 r3
      go_wp2_with fail
      (with_reducible refine (H1.out _).mono ?_)
      rintro e w5 ⟨rfl, hb⟩
      replace HB2 := Lib.hid (below_call HB2.out hb)
      replace HR := Lib.hid (HR.out.below hb)
      clear hb r0 r1 r2 r3
      obtain ⟨r0, r1, r2, r3⟩ := HR.out
      dsimp only at r0 r1 r2 r3
      go_wp2_with fail
      (with_reducible refine (H2.out _).mono ?_)
      rintro e w6 ⟨rfl, hb⟩
      replace HB2 := Lib.hid (below_call HB2.out hb)
      replace HR := Lib.hid (HR.out.below hb)
      clear hb r0 r1 r2 r3
      rcases hnm with ⟨e1, rfl⟩ | ⟨e1, rfl⟩
      · have H3 := Lib.hid (proved_to (n : Int) (M : Int) false (by have := HM.out; simp; omega))
        have g1 : (n : Int) ≤ (L : Int) := by omega
        have g2 : ((n : Int) != (n : Int)) = false := by simp
        go_wp2_with fail
        (with_reducible refine (H3.out _).mono ?_)
        rintro e w7 ⟨rfl, rfl⟩
        go_wp2_with fail
        go_roundw
        case rel => exact ⟨k + 1, by omega, by rw [← HE.out.1], by rw [← HE.out.2], by go_num, HB2⟩
        case measure => simp [intOf]; omega
      · obtain ⟨p, hp⟩ : ∃ p, decide ((M : Int) ≤ (m : Int) ∧ 1 ≤ (m : Int)) = p := ⟨_, rfl⟩
        have H3 := Lib.hid (proved_to (m : Int) (M : Int) p hp)
        have H4 := Lib.hid (proved_to (n : Int) (n : Int) true (by have := HA.out; simp; omega))
        have g2 : ((n : Int) != (n : Int)) = false := by simp
        clear hp
        rcases (show (m = n) ∨ n < m by omega) with e2 | e2
        · have g1 : (m : Int) ≤ (n : Int) := by omega
          have g3 : ((n : Int) != (m : Int)) = false := by simp [e2]
          have HX := Lib.hid e1
          have HY := Lib.hid e2
          clear e1 e2
          cases p
          · go_wp2_with fail
            (with_reducible refine (H3.out _).mono ?_)
            rintro e w7 ⟨rfl, rfl⟩
            go_wp2_with fail
            go_roundw
            case rel => exact ⟨k + 1, by omega, by rw [← HE.out.1], by rw [← HE.out.2], by go_num, HB2⟩
            case measure => simp [intOf]; omega
          · go_wp2_with fail
            (with_reducible refine (H3.out _).mono ?_)
            rintro e w7 ⟨rfl, rfl⟩
            go_wp2_with fail
            (with_reducible refine (H4.out _).mono ?_)
            rintro e w7 ⟨rfl, rfl⟩
            go_wp2_with fail
            go_roundw
            case rel => exact ⟨k + 1, by omega, by rw [← HE.out.1], by rw [← HE.out.2], by go_num, HB2⟩
            case measure => simp [intOf]; omega
        · have g1 : ¬ (m : Int) ≤ (n : Int) := by omega
          have g3 : (n : Int) < (m : Int) := by omega
          have HX := Lib.hid e1
          have HY := Lib.hid e2
          clear e1 e2
          cases p
          · go_wp2_with fail
            (with_reducible refine (H3.out _).mono ?_)
            rintro e w7 ⟨rfl, rfl⟩
            go_wp2_with fail
            go_roundw
            case rel => exact ⟨k + 1, by omega, by rw [← HE.out.1], by rw [← HE.out.2], by go_num, HB2⟩
            case measure => simp [intOf]; omega
          · go_wp2_with fail
            (with_reducible refine (H3.out _).mono ?_)
            rintro e w7 ⟨rfl, rfl⟩
            go_wp2_with fail
            (with_reducible refine (H4.out _).mono ?_)
            rintro e w7 ⟨rfl, rfl⟩
            go_wp2_with fail
            go_roundw
            case rel => exact ⟨k + 1, by omega, by rw [← HE.out.1], by rw [← HE.out.2], by go_num, HB2⟩
            case measure => simp [intOf]; omega
    · have hltI : ¬ (k : Int) < (K : Int) := by omega
      go_wp2_with fail
      go_ret
      exact ⟨rfl, HB2.out⟩
theorem sooner_any (v : Value) (ls : List Br) (l m : Int) (w : World) (hv : Els RBr 4 w v ls) (hm : m ≤ 9223372036854775807) : Calls Try.prog 7 #[v, .int .i64 l, .int .i64 m] w fun e w' => e = .returned (.bool true) ∧ Below w.heap.size w w' := by
  by_cases h : ls.length ≤ 300 ∧ 1 ≤ l ∧ l ≤ m
  · obtain ⟨h0, h1, h2⟩ := h
    obtain ⟨k, rfl⟩ : ∃ k : Nat, l = (k : Int) := ⟨l.toNat, by omega⟩
    obtain ⟨j, rfl⟩ : ∃ j : Nat, m = (j : Int) := ⟨m.toNat, by omega⟩
    exact sooner_main v ls k j w hv h0 (by omega) (by omega) hm
  · exact sooner_out v ls l m w hv h
end Go.Proofs.Ytmljjihjmppcmaa
