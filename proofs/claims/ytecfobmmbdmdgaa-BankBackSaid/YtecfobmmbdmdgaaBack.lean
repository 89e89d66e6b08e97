/-
  The walk of crossbucklaw16.BankBack: true, whatever it is given.
-/
import Derived.Test.YtecfobmmbdmdgaaSmall
import Derived.Test.YtecfobmmbdmdgaaElb
import Derived.Test.YtecfobmmbdmdgaaOwnI
import Derived.Deep.RegionHeld3
namespace Go.Proofs.Ytecfobmmbdmdgaa
open Go.RowKit

/-- Where the records of the first rows end. -/
def ends_ (s : Nat) (ls : List (List (BitVec 8))) (k : Nat) : List Nat := (List.range k).map fun j => (flat s (ls.take (j + 1))).length
theorem ends_len (s : Nat) (ls : List (List (BitVec 8))) (k : Nat) : (ends_ s ls k).length = k := by simp [ends_]
theorem ends_succ (s : Nat) (ls : List (List (BitVec 8))) (k : Nat) : ends_ s ls (k + 1) = ends_ s ls k ++ [(flat s (ls.take (k + 1))).length] := by simp [ends_, List.range_succ]
theorem ends_at (s : Nat) (ls : List (List (BitVec 8))) (k j : Nat) (h : j < k) : (ends_ s ls k)[j]? = some (flat s (ls.take (j + 1))).length := by simp [ends_, List.getElem?_range h]
theorem take_more {ls : List (List (BitVec 8))} {k : Nat} {d : List (BitVec 8)} (h : ls[k]? = some d) : ls.take (k + 1) = ls.take k ++ [d] := by rw [List.take_add_one, h]; rfl
theorem flat_more {s k : Nat} {ls : List (List (BitVec 8))} {d : List (BitVec 8)} (h : ls[k]? = some d) : flat s (ls.take (k + 1)) = flat s (ls.take k) ++ pr (s + k) d := by
  have hk := (List.getElem?_eq_some_iff.1 h).1
  rw [take_more h, flat_snoc, List.length_take, Nat.min_eq_left (by omega)]
def Fits (l : List (List (BitVec 8))) : Prop := ∀ d ∈ l, 1 ≤ d.length ∧ d.length ≤ 40
theorem Fits.more {ls : List (List (BitVec 8))} {k : Nat} {d : List (BitVec 8)} (h : Fits (ls.take k)) (hd : ls[k]? = some d) (h1 : 1 ≤ d.length) (h2 : d.length ≤ 40) : Fits (ls.take (k + 1)) := by
  intro x hx
  rw [take_more hd] at hx
  rcases List.mem_append.1 hx with hx | hx
  · exact h x hx
  · simp at hx
    subst hx
    exact ⟨h1, h2⟩
theorem Fits.len {ls : List (List (BitVec 8))} {k : Nat} (s : Nat) (h : Fits (ls.take k)) (hk : k ≤ 20) : (flat s (ls.take k)).length ≤ 960 := by
  have h1 := flat_len_le s (ls.take k) fun d hd => (h d hd).2
  rw [List.length_take] at h1
  omega
/-- Ahead of row k: the records so far, and where they end. -/
def BInv (w0 : World) (s : Nat) (ls : List (List (BitVec 8))) (k : Nat) (b ends : Value) (wr : World) : Prop :=
  Own wr w0.heap.size b (flat s (ls.take k)) ∧ OwnI wr w0.heap.size ends (ends_ s ls k) ∧ Fits (ls.take k) ∧ Below w0.heap.size w0 wr
theorem own_low {w w1 w2 : World} {v : Value} {xs : List (BitVec 8)} (h : Below w.heap.size w w1) (ho : Own w1 w.heap.size v xs) (hg : w1.grownBy w2 v.ownBlock) : Below w.heap.size w w2 := Own.grown h ho hg
theorem ownI_low {w w1 w2 : World} {v : Value} {xs : List Nat} (h : Below w.heap.size w w1) (ho : OwnI w1 w.heap.size v xs) (hg : w1.grownBy w2 v.ownBlock) : Below w.heap.size w w2 := h.grown hg h.size fun k hk => (World.ownsRow.lt ho k hk).1
theorem keepI_grown {w w2 : World} {B B' : Nat} {u v : Value} {bs : List (BitVec 8)} {xs : List Nat} (hO : Own w B u bs) (hE : OwnI w B' v xs) (hg : w.grownBy w2 u.ownBlock) : OwnI w2 B' v xs :=
  hE.keep (Keep.grown (F := fun g => u.ownBlock = some g) hg fun _ h => h) fun g hv hu => own_ne hO hE g hu hv
theorem keepB_grown {w w2 : World} {B B' : Nat} {u v : Value} {bs : List (BitVec 8)} {xs : List Nat} (hO : Own w B u bs) (hE : OwnI w B' v xs) (hg : w.grownBy w2 v.ownBlock) : Own w2 B u bs :=
  hO.keepB (Keep.grown (F := fun g => v.ownBlock = some g) hg fun _ h => h) fun g hu hv => own_ne hO hE g hu hv
theorem u32_plus (s : BitVec 32) (k : Nat) (h : s.toNat ≤ 4294967266) (hk : k ≤ 20) : ∃ t : BitVec 32, t.toNat = s.toNat + k := ⟨BitVec.ofNat 32 (s.toNat + k), by rw [BitVec.toNat_ofNat]; omega⟩

set_option maxRecDepth 10000 in
set_option maxHeartbeats 8000000 in
theorem back_any (s : BitVec 32) (v : Value) (ls : List (List (BitVec 8))) (blanks : Int) (w : World) (hv : Els RB 1 w v ls) (hbi : -9223372036854775808 ≤ blanks ∧ blanks ≤ 9223372036854775807) :
    Calls Try.prog 5 #[.int .u32 (s.toNat : Int), v, .int .i64 blanks] w fun e w' => e = .returned (.bool true) ∧ Below w.heap.size w w' := by
  obtain ⟨ra, rc, ev⟩ := hv.len
  have HV := Lib.hid hv
  clear hv
  subst ev
  obtain ⟨n, hn⟩ : ∃ n, n = ls.length := ⟨_, rfl⟩
  have HN := Lib.hid hn
  rw [← hn] at HV ⊢
  clear hn
  go_enter Try.func5, Try.ntmps5
  go_wp2_with fail
  (with_reducible refine (small_true _).mono ?_)
  rintro e w1 ⟨rfl, hb⟩
  have HB1 := Lib.hid hb
  have HV1 := Lib.hid (HV.out.below (fun _ _ _ h => h.below hb))
  clear hb HV
  by_cases g0 : 20 < n
  · have g0q : decide ((20 : Int) < (n : Int)) = true := by simp; omega
    clear g0
    go_wp2_with fail
    go_ret
    exact ⟨rfl, HB1.out⟩
  have g0q : decide ((20 : Int) < (n : Int)) = false := by simp; omega
  by_cases g2 : blanks < 0
  · have g2q : decide (blanks < 0) = true := by simp; omega
    clear g2
    go_wp2_with fail
    go_ret
    exact ⟨rfl, HB1.out⟩
  have g2q : decide (blanks < 0) = false := by simp; omega
  by_cases g3 : 300 < blanks
  · have g3q : decide (300 < blanks) = true := by simp; omega
    clear g3
    go_wp2_with fail
    go_ret
    exact ⟨rfl, HB1.out⟩
  have g3q : decide (300 < blanks) = false := by simp; omega
  by_cases g5 : 4294967266 < s.toNat
  · have g5q : decide ((4294967266 : Int) < (s.toNat : Int)) = true := by simp; omega
    clear g5
    go_wp2_with fail
    go_ret
    exact ⟨rfl, HB1.out⟩
  have g5q : decide ((4294967266 : Int) < (s.toNat : Int)) = false := by simp; omega
  obtain ⟨bl, rfl⟩ : ∃ bl : Nat, blanks = (bl : Int) := ⟨blanks.toNat, by omega⟩
  have hbl : bl ≤ 300 := by omega
  have hn20 : n ≤ 20 := by omega
  have HS := Lib.hid (show s.toNat ≤ 4294967266 by omega)
  clear g0 g2 g3 g5 hbi
  have HI0 : Hid (BInv w1 s.toNat ls 0 (.slice none 0 0) (.slice none 0 0) w1) := Lib.hid ⟨World.ownsRow_nil w1 _ 5 1, ownI_nil _ _, fun d hd => by simp at hd, Below.refl _ _⟩
  go_wp2_with fail
  go_loopw [8, 9, 10] (fun b ends i wr => ∃ k : Nat, k ≤ n ∧ i = .int .i64 k ∧ BInv w1 s.toNat ls k b ends wr) (fun _ _ i _ => n - (intOf i).toNat)
  case atStart => exact ⟨0, by omega, rfl, HI0.out⟩
  case round =>
    clear HI0
    obtain ⟨k, hk, rfl, hinv⟩ := hrel
    by_cases hlt : k < n
    · obtain ⟨d, hd⟩ : ∃ d, ls[k]? = some d := ⟨_, List.getElem?_eq_getElem (by rw [← HN.out]; exact hlt)⟩
      obtain ⟨gr, kr, er, hrb⟩ := (HV1.out.below (fun _ _ _ h => h.below hinv.2.2.2)).at_ hd
      subst er
      obtain ⟨⟨da, dc, hc0, hdb⟩, hdl⟩ := hrb
      rw [Nat.mul_one] at hc0
      obtain ⟨t, ht⟩ := u32_plus s k HS.out (by omega)
      have e1 : IntKind.u32.wrap (k : Int) = (k : Int) := by simp [IntKind.wrap, IntKind.bits, IntKind.signed]; omega
      have e2 : IntKind.u32.wrap ((s.toNat : Int) + (k : Int)) = (t.toNat : Int) := by rw [ht]; have := HS.out; simp [IntKind.wrap, IntKind.bits, IntKind.signed]; omega
      have HT := Lib.hid ht
      have HD := Lib.hid hd
      have HINV := Lib.hid hinv
      have hki : (k : Int) < (n : Int) := by omega
      have hk0 : (0 : Int) ≤ (k : Int) := by omega
      by_cases hf : 1 ≤ d.length ∧ d.length ≤ 40
      · have HP := Lib.hid (print_yes t _ d wr hdb hf.1 hf.2)
        have HF := Lib.hid hf
        have b1 : decide ((1 : Int) ≤ (d.length : Int)) = true := by simp; omega
        have b2 : decide ((d.length : Int) ≤ 40) = true := by simp; omega
        have HC0 := Lib.hid hc0
        clear hinv hd hdb hdl ht hf
        go_wp2_with fail
        (with_reducible refine HP.out.mono ?_)
        rintro e w2 ⟨r, rfl, hown, hb⟩
        have hc2 := below_cell hb HC0.out
        have HR2 := Lib.hid (show Byts w2 r (pr (s.toNat + k) d) by rw [← HT.out]; exact hown.byts)
        have HB2 := Lib.hid (HINV.out.2.2.2.trans (hb.mono HINV.out.2.2.2.size))
        have HO2 := Lib.hid (HINV.out.1.below hb)
        have HE2 := Lib.hid (HINV.out.2.1.below hb)
        have hsz2 := HB2.out.size
        have HLN := Lib.hid (show (flat s.toNat (ls.take k)).length + (pr (s.toNat + k) d).length ≤ 140737488355328 by have := HINV.out.2.2.1.len s.toNat (by omega : k ≤ 20); have := HF.out; rw [len_pr]; omega)
        have tok1 : True := trivial
        clear hown hb hc0 HP
        go_wp2_with (first
          | (at_builtin; have _t := tok1; refine wpList_app rfl _ _ rfl w1.heap.size _ _ rfl HO2.out _ _ rfl HR2.out HLN.out hsz2 ?_; intro v3 w3 hown3 hg3; obtain ⟨a3, c3, e3⟩ := hown3.byts.len; obtain ⟨L, hL⟩ : ∃ L, L = (flat s.toNat (ls.take k) ++ pr (s.toNat + k) d).length := ⟨_, rfl⟩; rw [← hL] at e3; have HL := Lib.hid hL; have HE3 := Lib.hid (keepI_grown HO2.out HE2.out hg3); have HO3 := Lib.hid hown3; have HB3 := Lib.hid (own_low HB2.out HO2.out hg3); clear hown3 hg3 hL tok1 _t HO2 HE2 HB2 hsz2 HLN HR2; subst e3; have HC3 := Lib.hid (show (w3.alloc (.cells #[.int .i64 (L : Int)] 3)).cell? ⟨w3.heap.size, 0, none⟩ = some (.int .i64 (L : Int)) from (blk_new w3 #[.int .i64 (L : Int)] 3).cell 0 rfl); have HEL := Lib.hid (show (ends_ s.toNat ls k).length ≤ 1000000 by rw [ends_len]; omega); have hsz3 := HB3.out.size)
          | (at_builtin; refine wpList_appI rfl _ _ rfl w1.heap.size _ _ rfl (HE3.out.below (below_alloc (Below.refl _ w3) (.cells #[.int .i64 (L : Int)] 3))) w3.heap.size L rfl HC3.out HEL.out (le_alloc hsz3 _) ?_; intro v4 w4 hown4 hg4; have HO4 := Lib.hid (keepB_grown (HO3.out.alloc _) (HE3.out.below (below_alloc (Below.refl _ w3) (.cells #[.int .i64 (L : Int)] 3))) hg4); have HB4 := Lib.hid (ownI_low (below_alloc HB3.out _) (HE3.out.below (below_alloc (Below.refl _ w3) (.cells #[.int .i64 (L : Int)] 3))) hg4); have HE4 := Lib.hid hown4; clear hown4 hg4 HO3 HE3 HB3 HC3 HEL hsz3))
        have HNEXT : Hid (BInv w1 s.toNat ls (k + 1) (.slice a3 L c3) v4 w4) := Lib.hid ⟨by rw [flat_more HD.out]; exact HO4.out, by rw [ends_succ, flat_more HD.out, ← HL.out]; exact HE4.out, HINV.out.2.2.1.more HD.out HF.out.1 HF.out.2, HB4.out⟩
        go_roundw
        case rel => exact ⟨k + 1, by omega, by go_num, HNEXT.out⟩
        case measure => simp [intOf]; omega
      · have HP := Lib.hid (print_no (t.toNat : Int) _ d wr hdb (by omega : d.length = 0 ∨ 40 < d.length))
        have HB := Lib.hid (below_call HB1.out hinv.2.2.2)
        by_cases hd0 : d.length = 0
        · have b1 : decide ((1 : Int) ≤ (d.length : Int)) = false := by simp; omega
          clear hinv hd hdb hdl ht hf hd0
          go_wp2_with fail
          (with_reducible refine HP.out.mono ?_)
          rintro e w2 ⟨rfl, rfl⟩
          go_wp2_with fail
          go_ret
          exact ⟨rfl, HB.out⟩
        · have b1 : decide ((1 : Int) ≤ (d.length : Int)) = true := by simp; omega
          have b2 : decide ((d.length : Int) ≤ 40) = false := by simp; omega
          clear hinv hd hdb hdl ht hf hd0
          go_wp2_with fail
          (with_reducible refine HP.out.mono ?_)
          rintro e w2 ⟨rfl, rfl⟩
          go_wp2_with fail
          go_ret
          exact ⟨rfl, HB.out⟩
    · obtain rfl : k = n := by omega
      have htake : ls.take k = ls := by rw [HN.out, List.take_length]
      obtain ⟨hob, hoe, hfi, hbw⟩ := hinv
      rw [htake] at hob hfi
      obtain ⟨ea, ec, ee⟩ := hoe.len
      rw [ends_len] at ee
      subst ee
      have HFI := Lib.hid (show Fits ls from hfi)
      have HLN := Lib.hid (show (flat s.toNat ls).length ≤ 960 by have := Fits.len (k := k) s.toNat (by rw [htake]; exact hfi) hn20; rwa [htake] at this)
      have HJ0 := Lib.hid (show Own wr w1.heap.size u8 (flat s.toNat ls ++ List.replicate 0 255#8) ∧ OwnI wr w1.heap.size (.slice ea k ec) (ends_ s.toNat ls k) ∧ Below w1.heap.size w1 wr from ⟨by simpa using hob, hoe, hbw⟩)
      have hkn : decide ((k : Int) < (k : Int)) = false := by simp
      clear hob hoe hfi hbw htake hlt
      go_wp2_with fail
      go_loopw [8, 13] (fun b i wq => ∃ j : Nat, j ≤ bl ∧ i = .int .i64 j ∧ Own wq w1.heap.size b (flat s.toNat ls ++ List.replicate j 255#8) ∧ OwnI wq w1.heap.size (.slice ea k ec) (ends_ s.toNat ls k) ∧ Below w1.heap.size w1 wq) (fun _ i _ => bl - (intOf i).toNat)
      case atStart => exact ⟨0, by omega, rfl, HJ0.out⟩
      case round =>
        clear HJ0
        obtain ⟨j, hj, rfl, hob, hoe, hbw⟩ := hrel
        have HOB := Lib.hid hob
        have HOE := Lib.hid hoe
        have HBW := Lib.hid hbw
        by_cases hjl : j < bl
        · have hji : decide ((j : Int) < (bl : Int)) = true := by simp; omega
          have HLM := Lib.hid (show (flat s.toNat ls ++ List.replicate j 255#8).length + ([255#8] : List (BitVec 8)).length ≤ 140737488355328 by have := HLN.out; simp; omega)
          have hz1 := hbw.size
          clear hob hoe hbw
          go_wp2_with (at_builtin; refine wpList_app rfl _ _ rfl w1.heap.size _ _ rfl (HOB.out.alloc _) _ [255#8] rfl (lit_byts wr #[.int .u8 255] 1 (0, 0) [255#8] rfl rfl) HLM.out (le_alloc hz1 _) ?_; intro v7 w7 hown7 hg7; have HO7 := Lib.hid hown7; have HE7 := Lib.hid (keepI_grown (HOB.out.alloc (.cells #[.int .u8 255] 5)) (HOE.out.below (below_alloc (Below.refl _ _) (.cells #[.int .u8 255] 5))) hg7); have HB7 := Lib.hid ((HOB.out.alloc _).grown (below_alloc HBW.out _) hg7); clear hown7 hg7 HOB HOE HBW hz1)
          go_roundw
          case rel => exact ⟨j + 1, by omega, by go_num, by rw [List.replicate_succ', ← List.append_assoc]; exact HO7.out, HE7.out, HB7.out⟩
          case measure => simp [intOf]; omega
        · obtain rfl : j = bl := by omega
          have HNO := Lib.hid (notes_any _ _ wr hob.byts (by have := HLN.out; simp; omega))
          have hjj : decide ((j : Int) < (j : Int)) = false := by simp
          have HB := Lib.hid (below_call HB1.out hbw)
          clear hob hoe hbw hjl
          go_wp2_with fail
          (with_reducible refine HNO.out.mono ?_)
          rintro e w5 ⟨vl, ys, rfl, hys, hl, hd, hb⟩
          have hnt := bnotes_flat s.toNat ls (List.replicate j 255#8) HFI.out (by have := HS.out; have := HN.out; omega) (bone_blank j)
          rw [hnt] at hys
          have hyl : ys.length = k := by
            have := congrArg List.length hys
            rw [List.length_map, nts_len] at this
            rw [this, HN.out]
          obtain ⟨la, lc, el⟩ := hl.len
          rw [hyl] at el
          subst el
          have HYS := Lib.hid hys
          have HL5 := Lib.hid hl
          have HD5 := Lib.hid hd
          have HO5 := Lib.hid (HOB.out.below hb)
          have HE5 := Lib.hid (HOE.out.below hb)
          have HV5 := Lib.hid (HV1.out.below (fun _ _ _ h => h.below (HBW.out.trans (hb.mono HBW.out.size))))
          have HB5 := Lib.hid (below_call HB.out hb)
          have hkk : ((k : Int) != (k : Int)) = false := by simp
          clear hys hl hd hb hnt HNO HOB HOE HBW HB hyl
          go_wp2_with fail
          go_loopw [15] (fun i wq => ∃ m : Nat, m ≤ k ∧ i = .int .i64 m ∧ Below w5.heap.size w5 wq) (fun i _ => k - (intOf i).toNat)
          case atStart => exact ⟨0, by omega, rfl, Below.refl _ _⟩
          case round =>
            obtain ⟨m, hm, rfl, hbq⟩ := hrel
            by_cases hmk : m < k
            · obtain ⟨d, hd⟩ : ∃ d, ls[m]? = some d := ⟨_, List.getElem?_eq_getElem (by rw [← HN.out]; exact hmk)⟩
              obtain ⟨gr, kr, er, hrb⟩ := HV5.out.at_ hd
              subst er
              obtain ⟨⟨da, dc, hc0, hdb⟩, hdl⟩ := hrb
              rw [Nat.mul_one] at hc0
              have hnm := nts_at ls s.toNat 0 m d hd
              rw [Nat.zero_add] at hnm
              obtain ⟨y, hy, hyn⟩ : ∃ y, ys[m]? = some y ∧ y.nt = ⟨s.toNat + m, d, (flat s.toNat (ls.take (m + 1))).length⟩ := by
                rw [← HYS.out, List.getElem?_map] at hnm
                cases hy : ys[m]? with
                | none => rw [hy] at hnm; cases hnm
                | some y => rw [hy] at hnm; exact ⟨y, rfl, by simpa using hnm⟩
              simp only [NV.nt, Nt.mk.injEq] at hyn
              obtain ⟨hy1, hy2, hy3⟩ := hyn
              obtain ⟨gl, kl, el, _, _, a0, a1, a2⟩ := HL5.out.at_ hy
              simp only [Value.slice.injEq] at el
              obtain ⟨rfl, -, rfl⟩ := el
              have hem := ends_at s.toNat ls k m hmk
              rw [← hy3] at hem
              obtain ⟨ge, ke, ee, b0⟩ := HE5.out.at_ hem
              simp only [Value.slice.injEq] at ee
              obtain ⟨rfl, -, rfl⟩ := ee
              obtain ⟨t, ht⟩ := u32_plus s m HS.out (by omega)
              have e1 : IntKind.u32.wrap (m : Int) = (m : Int) := by simp [IntKind.wrap, IntKind.bits, IntKind.signed]; omega
              have e2 : IntKind.u32.wrap ((s.toNat : Int) + (m : Int)) = (t.toNat : Int) := by rw [ht]; have := HS.out; simp [IntKind.wrap, IntKind.bits, IntKind.signed]; omega
              rw [hy1, ← ht] at a0
              unfold NV.v at a1
              rw [hy2] at a1
              have HA0 := Lib.hid (below_cell hbq a0)
              have HA1 := Lib.hid (below_cell hbq a1)
              have HA2 := Lib.hid (below_cell hbq a2)
              have HEC := Lib.hid (below_cell hbq b0)
              have HRC := Lib.hid (below_cell hbq hc0)
              have HRB := Lib.hid (hdb.below hbq)
              have hyb := (HD5.out.1 y (List.mem_of_getElem? hy)).byts.below hbq
              unfold NV.v at hyb
              rw [hy2] at hyb
              have HYB := Lib.hid hyb
              have HBQ := Lib.hid hbq
              have hmi : (m : Int) < (k : Int) := by omega
              have hm0 : (0 : Int) ≤ (m : Int) := by omega
              have hmd : decide ((m : Int) < (k : Int)) = true := by simp; omega
              have f1 : ((t.toNat : Int) != (t.toNat : Int)) = false := by simp
              have f2 : ((y.e : Int) != (y.e : Int)) = false := by simp
              have f3 : ((txt d).toList != (txt d).toList) = false := by simp
              clear hd hc0 hdb hdl hnm hy hy1 hy2 hy3 a0 a1 a2 hem b0 ht hyb hbq
              go_wp2_with fail
              refine wp_region_held_drew (S := fun w' => Below wr.heap.size wr w') (by kernel_rfl) (bel_drew wr) (fun hHeld => ?_)
              refine wpAnyH_take (i := 0) (oi := ?_) (v := ?_) ?_ (by kernel_rfl) (by kernel_rfl) (by kernel_rfl) ?_ (Or.inl ⟨?_, ?_⟩) hHeld ?_
              rotate_left 2
              · (simp only [List.getElem?_toArray, List.getElem?_cons_zero]; rfl)
              · exact (fun _ _ _ h => h)
              · rfl
              · (intro w hSw; (try dsimp only at hSw); go_simp; try with_reducible rfl)
              (try simp only [Act.put, List.setIfInBounds_toArray, List.set_cons_zero, List.set_cons_succ])
              refine wpAnyH_take (i := 1) (oi := ?_) (v := ?_) ?_ (by kernel_rfl) (by kernel_rfl) (by kernel_rfl) ?_ (Or.inl ⟨?_, ?_⟩) hHeld ?_
              rotate_left 2
              · (simp only [List.getElem?_toArray, List.getElem?_cons_zero, List.getElem?_cons_succ]; rfl)
              · exact (fun _ _ _ h => h)
              · rfl
              · (intro w hSw; (try dsimp only at hSw); go_simp; try with_reducible rfl)
              (try simp only [Act.put, List.setIfInBounds_toArray, List.set_cons_zero, List.set_cons_succ])
              refine wpAnyH_take (i := 2) (oi := ?_) (v := ?_) ?_ (by kernel_rfl) (by kernel_rfl) (by kernel_rfl) ?_ (Or.inl ⟨?_, ?_⟩) hHeld ?_
              rotate_left 2
              · (simp only [List.getElem?_toArray, List.getElem?_cons_zero, List.getElem?_cons_succ]; rfl)
              · exact (fun _ _ _ h => h)
              · rfl
              · (intro w hSw; (try dsimp only at hSw); go_simp; try with_reducible rfl)
              (try simp only [Act.put, List.setIfInBounds_toArray, List.set_cons_zero, List.set_cons_succ])
              refine wpAnyH_take (i := 3) (oi := ?_) (v := ?_) ?_ (by kernel_rfl) (by kernel_rfl) (by kernel_rfl) ?_ (Or.inl ⟨?_, ?_⟩) hHeld ?_
              rotate_left 2
              · (simp only [List.getElem?_toArray, List.getElem?_cons_zero, List.getElem?_cons_succ]; rfl)
              · exact (fun _ _ _ h => h)
              · rfl
              · (intro w hSw; (try dsimp only at hSw); go_simp; try with_reducible rfl)
              (try simp only [Act.put, List.setIfInBounds_toArray, List.set_cons_zero, List.set_cons_succ])
              refine wpAnyH_take (i := 4) (oi := ?_) (v := ?_) ?_ (by kernel_rfl) (by kernel_rfl) (by kernel_rfl) ?_ (Or.inl ⟨?_, ?_⟩) hHeld ?_
              rotate_left 2
              · (simp only [List.getElem?_toArray, List.getElem?_cons_zero, List.getElem?_cons_succ]; rfl)
              · exact (fun _ _ _ h => h)
              · rfl
              · (intro w hSw; (try dsimp only at hSw); have q := below_cell hSw HA0.out; go_simp; try with_reducible rfl)
              (try simp only [Act.put, List.setIfInBounds_toArray, List.set_cons_zero, List.set_cons_succ])
              refine wpAnyH_take (i := 5) (oi := ?_) (v := ?_) ?_ (by kernel_rfl) (by kernel_rfl) (by kernel_rfl) ?_ (Or.inl ⟨?_, ?_⟩) hHeld ?_
              rotate_left 2
              · (simp only [List.getElem?_toArray, List.getElem?_cons_zero, List.getElem?_cons_succ]; rfl)
              · exact (fun _ _ _ h => h)
              · rfl
              · (intro w hSw; (try dsimp only at hSw); go_simp; try with_reducible rfl)
              (try simp only [Act.put, List.setIfInBounds_toArray, List.set_cons_zero, List.set_cons_succ])
              refine wpAnyH_take (i := 6) (oi := ?_) (v := ?_) ?_ (by kernel_rfl) (by kernel_rfl) (by kernel_rfl) ?_ (Or.inl ⟨?_, ?_⟩) hHeld ?_
              rotate_left 2
              · (simp only [List.getElem?_toArray, List.getElem?_cons_zero, List.getElem?_cons_succ]; rfl)
              · exact (fun _ _ _ h => h)
              · rfl
              · (intro w hSw; (try dsimp only at hSw); go_simp; try with_reducible rfl)
              (try simp only [Act.put, List.setIfInBounds_toArray, List.set_cons_zero, List.set_cons_succ])
              refine wpAnyH_take (i := 7) (oi := ?_) (v := ?_) ?_ (by kernel_rfl) (by kernel_rfl) (by kernel_rfl) ?_ (Or.inl ⟨?_, ?_⟩) hHeld ?_
              rotate_left 2
              · (simp only [List.getElem?_toArray, List.getElem?_cons_zero, List.getElem?_cons_succ]; rfl)
              · exact (fun _ _ _ h => h)
              · rfl
              · (intro w hSw; (try dsimp only at hSw); go_simp; try with_reducible rfl)
              (try simp only [Act.put, List.setIfInBounds_toArray, List.set_cons_zero, List.set_cons_succ])
              refine wpAnyH_take (i := 8) (oi := ?_) (v := ?_) ?_ (by kernel_rfl) (by kernel_rfl) (by kernel_rfl) ?_ (Or.inl ⟨?_, ?_⟩) hHeld ?_
              rotate_left 2
              · (simp only [List.getElem?_toArray, List.getElem?_cons_zero, List.getElem?_cons_succ]; rfl)
              · exact (fun _ _ _ h => h)
              · rfl
              · (intro w hSw; (try dsimp only at hSw); go_simp; try with_reducible rfl)
              (try simp only [Act.put, List.setIfInBounds_toArray, List.set_cons_zero, List.set_cons_succ])
              refine wpAnyH_take (i := 9) (oi := ?_) (v := ?_) ?_ (by kernel_rfl) (by kernel_rfl) (by kernel_rfl) ?_ (Or.inl ⟨?_, ?_⟩) hHeld ?_
              rotate_left 2
              · (simp only [List.getElem?_toArray, List.getElem?_cons_zero, List.getElem?_cons_succ]; rfl)
              · exact (fun _ _ _ h => h)
              · rfl
              · (intro w hSw; (try dsimp only at hSw); go_simp; try with_reducible rfl)
              (try simp only [Act.put, List.setIfInBounds_toArray, List.set_cons_zero, List.set_cons_succ])
              refine wpAnyH_take (i := 10) (oi := ?_) (v := ?_) ?_ (by kernel_rfl) (by kernel_rfl) (by kernel_rfl) ?_ (Or.inl ⟨?_, ?_⟩) hHeld ?_
              rotate_left 2
              · (simp only [List.getElem?_toArray, List.getElem?_cons_zero, List.getElem?_cons_succ]; rfl)
              · exact (fun _ _ _ h => h)
              · rfl
              · (intro w hSw; (try dsimp only at hSw); go_simp; try with_reducible rfl)
              (try simp only [Act.put, List.setIfInBounds_toArray, List.set_cons_zero, List.set_cons_succ])
              refine wpAnyH_take (i := 11) (oi := ?_) (v := ?_) ?_ (by kernel_rfl) (by kernel_rfl) (by kernel_rfl) ?_ (Or.inl ⟨?_, ?_⟩) hHeld ?_
              rotate_left 2
              · (simp only [List.getElem?_toArray, List.getElem?_cons_zero, List.getElem?_cons_succ]; rfl)
              · exact (fun _ _ _ h => h)
              · rfl
              · (intro w hSw; (try dsimp only at hSw); go_simp; try with_reducible rfl)
              (try simp only [Act.put, List.setIfInBounds_toArray, List.set_cons_zero, List.set_cons_succ])
              refine wpAnyH_take (i := 12) (oi := ?_) (v := ?_) ?_ (by kernel_rfl) (by kernel_rfl) (by kernel_rfl) ?_ (Or.inl ⟨?_, ?_⟩) hHeld ?_
              rotate_left 2
              · (simp only [List.getElem?_toArray, List.getElem?_cons_zero, List.getElem?_cons_succ]; rfl)
              · exact (fun _ _ _ h => h)
              · rfl
              · (intro w hSw; (try dsimp only at hSw); go_simp; try with_reducible rfl)
              (try simp only [Act.put, List.setIfInBounds_toArray, List.set_cons_zero, List.set_cons_succ])
              refine wpAnyH_take (i := 13) (oi := ?_) (v := ?_) ?_ (by kernel_rfl) (by kernel_rfl) (by kernel_rfl) ?_ (Or.inl ⟨?_, ?_⟩) hHeld ?_
              rotate_left 2
              · (simp only [List.getElem?_toArray, List.getElem?_cons_zero, List.getElem?_cons_succ]; rfl)
              · exact (fun _ _ _ h => h)
              · rfl
              · (intro w hSw; (try dsimp only at hSw); go_simp; try with_reducible rfl)
              (try simp only [Act.put, List.setIfInBounds_toArray, List.set_cons_zero, List.set_cons_succ])
              refine wpAnyH_take (i := 14) (oi := ?_) (v := ?_) ?_ (by kernel_rfl) (by kernel_rfl) (by kernel_rfl) ?_ (Or.inl ⟨?_, ?_⟩) hHeld ?_
              rotate_left 2
              · (simp only [List.getElem?_toArray, List.getElem?_cons_zero, List.getElem?_cons_succ]; rfl)
              · exact (fun _ _ _ h => h)
              · rfl
              · (intro w hSw; (try dsimp only at hSw); go_simp; try with_reducible rfl)
              (try simp only [Act.put, List.setIfInBounds_toArray, List.set_cons_zero, List.set_cons_succ])
              refine wpAnyH_take (i := 15) (oi := ?_) (v := ?_) ?_ (by kernel_rfl) (by kernel_rfl) (by kernel_rfl) ?_ (Or.inl ⟨?_, ?_⟩) hHeld ?_
              rotate_left 2
              · (simp only [List.getElem?_toArray, List.getElem?_cons_zero, List.getElem?_cons_succ]; rfl)
              · exact (fun _ _ _ h => h)
              · rfl
              · (intro w hSw; (try dsimp only at hSw); have q := below_cell hSw HA1.out; go_simp; try with_reducible rfl)
              (try simp only [Act.put, List.setIfInBounds_toArray, List.set_cons_zero, List.set_cons_succ])
              refine wpAnyH_take (i := 16) (oi := ?_) (v := ?_) ?_ (by kernel_rfl) (by kernel_rfl) (by kernel_rfl) ?_ (Or.inl ⟨?_, ?_⟩) hHeld ?_
              rotate_left 2
              · (simp only [List.getElem?_toArray, List.getElem?_cons_zero, List.getElem?_cons_succ]; rfl)
              · exact (fun _ _ _ h => h)
              · rfl
              · (intro w hSw; (try dsimp only at hSw); have hq := txt_run _ _ _ (HYB.out.below hSw); go_simp; try with_reducible rfl)
              (try simp only [Act.put, List.setIfInBounds_toArray, List.set_cons_zero, List.set_cons_succ])
              refine wpAnyH_take (i := 17) (oi := ?_) (v := ?_) ?_ (by kernel_rfl) (by kernel_rfl) (by kernel_rfl) ?_ (Or.inl ⟨?_, ?_⟩) hHeld ?_
              rotate_left 2
              · (simp only [List.getElem?_toArray, List.getElem?_cons_zero, List.getElem?_cons_succ]; rfl)
              · exact (fun _ _ _ h => h)
              · rfl
              · (intro w hSw; (try dsimp only at hSw); go_simp; try with_reducible rfl)
              (try simp only [Act.put, List.setIfInBounds_toArray, List.set_cons_zero, List.set_cons_succ])
              refine wpAnyH_take (i := 18) (oi := ?_) (v := ?_) ?_ (by kernel_rfl) (by kernel_rfl) (by kernel_rfl) ?_ (Or.inl ⟨?_, ?_⟩) hHeld ?_
              rotate_left 2
              · (simp only [List.getElem?_toArray, List.getElem?_cons_zero, List.getElem?_cons_succ]; rfl)
              · exact (fun _ _ _ h => h)
              · rfl
              · (intro w hSw; (try dsimp only at hSw); go_simp; try with_reducible rfl)
              (try simp only [Act.put, List.setIfInBounds_toArray, List.set_cons_zero, List.set_cons_succ])
              refine wpAnyH_take (i := 19) (oi := ?_) (v := ?_) ?_ (by kernel_rfl) (by kernel_rfl) (by kernel_rfl) ?_ (Or.inl ⟨?_, ?_⟩) hHeld ?_
              rotate_left 2
              · (simp only [List.getElem?_toArray, List.getElem?_cons_zero, List.getElem?_cons_succ]; rfl)
              · exact (fun _ _ _ h => h)
              · rfl
              · (intro w hSw; (try dsimp only at hSw); go_simp; try with_reducible rfl)
              (try simp only [Act.put, List.setIfInBounds_toArray, List.set_cons_zero, List.set_cons_succ])
              refine wpAnyH_take (i := 20) (oi := ?_) (v := ?_) ?_ (by kernel_rfl) (by kernel_rfl) (by kernel_rfl) ?_ (Or.inl ⟨?_, ?_⟩) hHeld ?_
              rotate_left 2
              · (simp only [List.getElem?_toArray, List.getElem?_cons_zero, List.getElem?_cons_succ]; rfl)
              · exact (fun _ _ _ h => h)
              · rfl
              · (intro w hSw; (try dsimp only at hSw); have q := below_cell hSw HRC.out; go_simp; try with_reducible rfl)
              (try simp only [Act.put, List.setIfInBounds_toArray, List.set_cons_zero, List.set_cons_succ])
              refine wpAnyH_take (i := 21) (oi := ?_) (v := ?_) ?_ (by kernel_rfl) (by kernel_rfl) (by kernel_rfl) ?_ (Or.inl ⟨?_, ?_⟩) hHeld ?_
              rotate_left 2
              · (simp only [List.getElem?_toArray, List.getElem?_cons_zero, List.getElem?_cons_succ]; rfl)
              · exact (fun _ _ _ h => h)
              · rfl
              · (intro w hSw; (try dsimp only at hSw); have hq := txt_run _ _ _ (HRB.out.below hSw); go_simp; try with_reducible rfl)
              (try simp only [Act.put, List.setIfInBounds_toArray, List.set_cons_zero, List.set_cons_succ])
              refine wpAnyH_take (i := 22) (oi := ?_) (v := ?_) ?_ (by kernel_rfl) (by kernel_rfl) (by kernel_rfl) ?_ (Or.inl ⟨?_, ?_⟩) hHeld ?_
              rotate_left 2
              · (simp only [List.getElem?_toArray, List.getElem?_cons_zero, List.getElem?_cons_succ]; rfl)
              · exact (fun _ _ _ h => h)
              · rfl
              · (intro w hSw; (try dsimp only at hSw); go_simp; try with_reducible rfl)
              (try simp only [Act.put, List.setIfInBounds_toArray, List.set_cons_zero, List.set_cons_succ])
              refine wpAnyH_take (i := 23) (oi := ?_) (v := ?_) ?_ (by kernel_rfl) (by kernel_rfl) (by kernel_rfl) ?_ (Or.inl ⟨?_, ?_⟩) hHeld ?_
              rotate_left 2
              · (simp only [List.getElem?_toArray, List.getElem?_cons_zero, List.getElem?_cons_succ]; rfl)
              · exact (fun _ _ _ h => h)
              · rfl
              · (intro w hSw; (try dsimp only at hSw); go_simp; try with_reducible rfl)
              (try simp only [Act.put, List.setIfInBounds_toArray, List.set_cons_zero, List.set_cons_succ])
              refine wpAnyH_take (i := 24) (oi := ?_) (v := ?_) ?_ (by kernel_rfl) (by kernel_rfl) (by kernel_rfl) ?_ (Or.inl ⟨?_, ?_⟩) hHeld ?_
              rotate_left 2
              · (simp only [List.getElem?_toArray, List.getElem?_cons_zero, List.getElem?_cons_succ]; rfl)
              · exact (fun _ _ _ h => h)
              · rfl
              · (intro w hSw; (try dsimp only at hSw); go_simp; try with_reducible rfl)
              (try simp only [Act.put, List.setIfInBounds_toArray, List.set_cons_zero, List.set_cons_succ])
              refine wpAnyH_take (i := 25) (oi := ?_) (v := ?_) ?_ (by kernel_rfl) (by kernel_rfl) (by kernel_rfl) ?_ (Or.inl ⟨?_, ?_⟩) hHeld ?_
              rotate_left 2
              · (simp only [List.getElem?_toArray, List.getElem?_cons_zero, List.getElem?_cons_succ]; rfl)
              · exact (fun _ _ _ h => h)
              · rfl
              · (intro w hSw; (try dsimp only at hSw); go_simp; try with_reducible rfl)
              (try simp only [Act.put, List.setIfInBounds_toArray, List.set_cons_zero, List.set_cons_succ])
              refine wpAnyH_take (i := 26) (oi := ?_) (v := ?_) ?_ (by kernel_rfl) (by kernel_rfl) (by kernel_rfl) ?_ (Or.inl ⟨?_, ?_⟩) hHeld ?_
              rotate_left 2
              · (simp only [List.getElem?_toArray, List.getElem?_cons_zero, List.getElem?_cons_succ]; rfl)
              · exact (fun _ _ _ h => h)
              · rfl
              · (intro w hSw; (try dsimp only at hSw); go_simp; try with_reducible rfl)
              (try simp only [Act.put, List.setIfInBounds_toArray, List.set_cons_zero, List.set_cons_succ])
              refine wpAnyH_take (i := 27) (oi := ?_) (v := ?_) ?_ (by kernel_rfl) (by kernel_rfl) (by kernel_rfl) ?_ (Or.inl ⟨?_, ?_⟩) hHeld ?_
              rotate_left 2
              · (simp only [List.getElem?_toArray, List.getElem?_cons_zero, List.getElem?_cons_succ]; rfl)
              · exact (fun _ _ _ h => h)
              · rfl
              · (intro w hSw; (try dsimp only at hSw); go_simp; try with_reducible rfl)
              (try simp only [Act.put, List.setIfInBounds_toArray, List.set_cons_zero, List.set_cons_succ])
              refine wpAnyH_take (i := 28) (oi := ?_) (v := ?_) ?_ (by kernel_rfl) (by kernel_rfl) (by kernel_rfl) ?_ (Or.inl ⟨?_, ?_⟩) hHeld ?_
              rotate_left 2
              · (simp only [List.getElem?_toArray, List.getElem?_cons_zero, List.getElem?_cons_succ]; rfl)
              · exact (fun _ _ _ h => h)
              · rfl
              · (intro w hSw; (try dsimp only at hSw); go_simp; try with_reducible rfl)
              (try simp only [Act.put, List.setIfInBounds_toArray, List.set_cons_zero, List.set_cons_succ])
              refine wpAnyH_take (i := 29) (oi := ?_) (v := ?_) ?_ (by kernel_rfl) (by kernel_rfl) (by kernel_rfl) ?_ (Or.inl ⟨?_, ?_⟩) hHeld ?_
              rotate_left 2
              · (simp only [List.getElem?_toArray, List.getElem?_cons_zero, List.getElem?_cons_succ]; rfl)
              · exact (fun _ _ _ h => h)
              · rfl
              · (intro w hSw; (try dsimp only at hSw); have q := below_cell hSw HA2.out; go_simp; try with_reducible rfl)
              (try simp only [Act.put, List.setIfInBounds_toArray, List.set_cons_zero, List.set_cons_succ])
              refine wpAnyH_take (i := 30) (oi := ?_) (v := ?_) ?_ (by kernel_rfl) (by kernel_rfl) (by kernel_rfl) ?_ (Or.inl ⟨?_, ?_⟩) hHeld ?_
              rotate_left 2
              · (simp only [List.getElem?_toArray, List.getElem?_cons_zero, List.getElem?_cons_succ]; rfl)
              · exact (fun _ _ _ h => h)
              · rfl
              · (intro w hSw; (try dsimp only at hSw); go_simp; try with_reducible rfl)
              (try simp only [Act.put, List.setIfInBounds_toArray, List.set_cons_zero, List.set_cons_succ])
              refine wpAnyH_take (i := 31) (oi := ?_) (v := ?_) ?_ (by kernel_rfl) (by kernel_rfl) (by kernel_rfl) ?_ (Or.inl ⟨?_, ?_⟩) hHeld ?_
              rotate_left 2
              · (simp only [List.getElem?_toArray, List.getElem?_cons_zero, List.getElem?_cons_succ]; rfl)
              · exact (fun _ _ _ h => h)
              · rfl
              · (intro w hSw; (try dsimp only at hSw); go_simp; try with_reducible rfl)
              (try simp only [Act.put, List.setIfInBounds_toArray, List.set_cons_zero, List.set_cons_succ])
              refine wpAnyH_take (i := 32) (oi := ?_) (v := ?_) ?_ (by kernel_rfl) (by kernel_rfl) (by kernel_rfl) ?_ (Or.inl ⟨?_, ?_⟩) hHeld ?_
              rotate_left 2
              · (simp only [List.getElem?_toArray, List.getElem?_cons_zero, List.getElem?_cons_succ]; rfl)
              · exact (fun _ _ _ h => h)
              · rfl
              · (intro w hSw; (try dsimp only at hSw); go_simp; try with_reducible rfl)
              (try simp only [Act.put, List.setIfInBounds_toArray, List.set_cons_zero, List.set_cons_succ])
              refine wpAnyH_take (i := 33) (oi := ?_) (v := ?_) ?_ (by kernel_rfl) (by kernel_rfl) (by kernel_rfl) ?_ (Or.inl ⟨?_, ?_⟩) hHeld ?_
              rotate_left 2
              · (simp only [List.getElem?_toArray, List.getElem?_cons_zero, List.getElem?_cons_succ]; rfl)
              · exact (fun _ _ _ h => h)
              · rfl
              · (intro w hSw; (try dsimp only at hSw); have q := below_cell hSw HEC.out; go_simp; try with_reducible rfl)
              (try simp only [Act.put, List.setIfInBounds_toArray, List.set_cons_zero, List.set_cons_succ])
              refine wpAnyH_take (i := 34) (oi := ?_) (v := ?_) ?_ (by kernel_rfl) (by kernel_rfl) (by kernel_rfl) ?_ (Or.inl ⟨?_, ?_⟩) hHeld ?_
              rotate_left 2
              · (simp only [List.getElem?_toArray, List.getElem?_cons_zero, List.getElem?_cons_succ]; rfl)
              · exact (fun _ _ _ h => h)
              · rfl
              · (intro w hSw; (try dsimp only at hSw); go_simp; try with_reducible rfl)
              (try simp only [Act.put, List.setIfInBounds_toArray, List.set_cons_zero, List.set_cons_succ])
              refine wpAnyH_take (i := 35) (oi := ?_) (v := ?_) ?_ (by kernel_rfl) (by kernel_rfl) (by kernel_rfl) ?_ (Or.inl ⟨?_, ?_⟩) hHeld ?_
              rotate_left 2
              · (simp only [List.getElem?_toArray, List.getElem?_cons_zero, List.getElem?_cons_succ]; rfl)
              · exact (fun _ _ _ h => h)
              · rfl
              · (intro w hSw; (try dsimp only at hSw); go_simp; try with_reducible rfl)
              (try simp only [Act.put, List.setIfInBounds_toArray, List.set_cons_zero, List.set_cons_succ])
              refine wpAnyH_done (by kernel_rfl) ?_ _
              have HBZ := Lib.hid (HBQ.out.trans (hHeld.mono HBQ.out.size))
              clear hHeld
              go_wp2_with fail
              go_roundw
              case rel => exact ⟨m + 1, by omega, by go_num, HBZ.out⟩
              case measure => simp [intOf]; omega
            · obtain rfl : m = k := by omega
              have hmm : decide ((m : Int) < (m : Int)) = false := by simp
              have HOQ := Lib.hid (HO5.out.below hbq)
              have HBQ := Lib.hid (below_call HB5.out hbq)
              have HLQ := Lib.hid (show (flat s.toNat ls ++ List.replicate j 255#8).length ≤ 140737488355328 by have := HLN.out; simp; omega)
              have HBE := Lib.hid (blank_end (flat s.toNat ls) j)
              rcases Nat.eq_zero_or_pos m with hm0 | hmp
              · have hz : flat s.toNat ls = [] := by
                  have : ls = [] := List.length_eq_zero_iff.1 (by have := HN.out; omega)
                  rw [this]
                  rfl
                have HBL := Lib.hid (blank_any _ _ wr HOQ.out.byts HLQ.out 0 (by decide))
                have p1 : decide ((0 : Int) < (m : Int)) = false := by simp; omega
                have p2 : decide (0 < m) = false := by simp; omega
                have HZ := Lib.hid (show bblank (flat s.toNat ls ++ List.replicate j 255#8) (0 : Int).toNat = true by have h := HBE.out; rw [hz] at h ⊢; exact h)
                clear hbq hm0 hz hmk
                go_wp2_with fail
                (with_reducible refine HBL.out.mono ?_)
                rintro e w' ⟨rfl, rfl⟩
                rw [HZ.out]
                go_wp2_with fail
                go_ret
                exact ⟨rfl, HBQ.out⟩
              · obtain ⟨p, hp⟩ : ∃ p, m = p + 1 := ⟨m - 1, by omega⟩
                have hem := ends_at s.toNat ls m p (by omega)
                obtain ⟨ge, ke, ee, b0⟩ := (HE5.out.below hbq).at_ hem
                simp only [Value.slice.injEq] at ee
                obtain ⟨rfl, -, rfl⟩ := ee
                rw [show ls.take (p + 1) = ls by rw [← hp, HN.out, List.take_length]] at b0
                obtain ⟨P, hP⟩ : ∃ P, P = (flat s.toNat ls).length := ⟨_, rfl⟩
                rw [← hP] at b0
                have HBL := Lib.hid (blank_any _ _ wr HOQ.out.byts HLQ.out (P : Int) (by have := HLN.out; omega))
                have HZ := Lib.hid (show bblank (flat s.toNat ls ++ List.replicate j 255#8) (P : Int).toNat = true by have h := HBE.out; rw [← hP] at h; simpa using h)
                have p1 : decide ((0 : Int) < (m : Int)) = true := by simp; omega
                have p2 : decide (0 < m) = true := by simp; omega
                have p3 : IntKind.i64.wrap ((m : Int) - 1) = (p : Int) := by rw [IntWalk.i64_in _ (by omega)]; omega
                have p4 : (p : Int) < (m : Int) := by omega
                have p5 : (0 : Int) ≤ (p : Int) := by omega
                have p6 : (0 : Int) < (m : Int) := by omega
                clear hbq hmk hem hP hp hmp
                go_wp2_with fail
                (with_reducible refine HBL.out.mono ?_)
                rintro e w' ⟨rfl, rfl⟩
                rw [HZ.out]
                go_wp2_with fail
                go_ret
                exact ⟨rfl, HBQ.out⟩
end Go.Proofs.Ytecfobmmbdmdgaa
