/-
  JnMath JnMem JnCalls JnApp JnGo JnTurn JnAppend JnFacts JnLaw: merged.
-/
import Derived.Deep.RegionHeld3
import Derived.BigQuiet
import Derived.StillTailTactics
import Derived.Test.YtekackglcapppaaGreatDoorYBk
import Derived.Test.YtekackglcapppaaGreatDoorYSt
/-
  A journal over a store: plain mathematics.
-/
namespace Go.Proofs.YtekackglcapppaaGreatDoor

/-- What a journal tells: its bank, its last record's number, data, end, and whether there is one. -/
structure Jt where
  k : Nat
  s : Nat
  d : List (BitVec 8)
  e : Nat
  is : Bool
/-- A store: its bytes, whether it is dead, how many bytes more it takes. -/
structure Ss where
  xs : List (BitVec 8)
  dead : Bool
  left : Option Nat
def jof (k : Nat) : Option Nt → Jt
  | none => ⟨k, 0, [], 0, false⟩
  | some n => ⟨k, n.s, n.d, n.e, true⟩
def bnk (xs : List (BitVec 8)) (k : Nat) : List (BitVec 8) := (xs.drop (k * (xs.length / 2))).take (xs.length / 2)
def blast (xs : List (BitVec 8)) (k : Nat) : Option Nt := (bnotes (bnk xs k)).getLast?
def jsnd (a b : Option Nt) : Bool :=
  match b with
  | none => false
  | some m => match a with
    | none => true
    | some n => decide (n.s < m.s)
def jopen (xs : List (BitVec 8)) : Jt := if jsnd (blast xs 0) (blast xs 1) = true then jof 1 (blast xs 1) else jof 0 (blast xs 0)
/-- A Write that stands in the store: the store behind it, and the code that is told. -/
def sput (S : Ss) (a : Nat) (ys : List (BitVec 8)) : Ss × Int :=
  if S.dead = true then (S, 7) else
  match S.left with
  | none => (⟨splice S.xs a ys, false, none⟩, 0)
  | some L => if ys.length ≤ L then (⟨splice S.xs a ys, false, some (L - ys.length)⟩, 0) else (⟨splice S.xs a (ys.take L), true, some 0⟩, 7)
def jcode (h : Nat) (j : Jt) (d : List (BitVec 8)) : Int := if d.length = 0 ∨ 40 < d.length then 1 else if h < d.length + 8 ∨ j.s = 4294967295 then 5 else 0
/-- Does it go on in its bank? -/
def jon (xs : List (BitVec 8)) (j : Jt) (n : Nat) : Bool := bblank (bnk xs j.k) j.e && decide (j.e + n ≤ xs.length / 2)
/-- What Append does: the store, the journal, the code. -/
def japp (S : Ss) (j : Jt) (d : List (BitVec 8)) : Ss × Jt × Int :=
  if jcode (S.xs.length / 2) j d ≠ 0 then (S, j, jcode (S.xs.length / 2) j d) else
  if jon S.xs j (d.length + 8) = true then
    let p := sput S (j.k * (S.xs.length / 2) + j.e) (pr (j.s + 1) d)
    (p.1, if p.2 = 0 then ⟨j.k, j.s + 1, d, j.e + (d.length + 8), true⟩ else j, p.2)
  else
    let p := sput S ((1 - j.k) * (S.xs.length / 2)) (List.replicate (S.xs.length / 2) 255#8)
    if p.2 ≠ 0 then (p.1, j, p.2) else
    let q := sput p.1 ((1 - j.k) * (S.xs.length / 2)) (pr (j.s + 1) d)
    (q.1, if q.2 = 0 then ⟨1 - j.k, j.s + 1, d, d.length + 8, true⟩ else j, q.2)

theorem bnk_len (xs : List (BitVec 8)) (k : Nat) (hk : k ≤ 1) : (bnk xs k).length = xs.length / 2 := by
  unfold bnk
  rw [List.length_take, List.length_drop]
  rcases show k = 0 ∨ k = 1 by omega with rfl | rfl <;> omega
theorem btodo_mem (xs : List (BitVec 8)) : ∀ (f : Nat) (c : Option Nt), (∀ n, c = some n → ∃ o, brec xs o = some n) → ∀ n ∈ btodo xs f c, ∃ o, brec xs o = some n
  | 0, _, _, n, h => by simp [btodo] at h
  | f + 1, none, _, n, h => by simp [btodo] at h
  | f + 1, some m, hc, n, h => by
    simp only [btodo, List.mem_cons] at h
    rcases h with rfl | h
    · exact hc n rfl
    · exact btodo_mem xs f (bnxt xs m) (fun k hk => ⟨_, (bnxt_some hk).2.1⟩) n h
theorem blast_some {xs : List (BitVec 8)} {k : Nat} {n : Nt} (hk : k ≤ 1) (h : blast xs k = some n) : 1 ≤ n.d.length ∧ n.d.length ≤ 40 ∧ n.s ≤ 4294967295 ∧ n.e ≤ xs.length / 2 := by
  unfold blast at h
  have hm := List.mem_of_getLast? h
  obtain ⟨o, ho⟩ := btodo_mem _ _ _ (fun m hm => ⟨0, hm⟩) n hm
  obtain ⟨h1, h2, h3, h4, h5, _⟩ := brec_some ho
  rw [bnk_len xs k hk] at h5
  omega
theorem sput_len (S : Ss) (a : Nat) (ys : List (BitVec 8)) (h : a + ys.length ≤ S.xs.length) : (sput S a ys).1.xs.length = S.xs.length := by
  unfold sput
  split
  · rfl
  · split
    · exact length_splice _ _ _ h
    · split
      · exact length_splice _ _ _ h
      · exact length_splice _ _ _ (by rw [List.length_take]; omega)
theorem sput_code (S : Ss) (a : Nat) (ys : List (BitVec 8)) : (sput S a ys).2 = 0 ∨ (sput S a ys).2 = 7 := by
  unfold sput
  split
  · exact .inr rfl
  · split
    · exact .inl rfl
    · split
      · exact .inl rfl
      · exact .inr rfl
end Go.Proofs.YtekackglcapppaaGreatDoor
/-
  A journal in memory: its six cells, its data; a store as plain data.
-/
namespace Go.Proofs.YtekackglcapppaaGreatDoor
open Go.RowKit

theorem Blk.six {w : World} {g : Nat} {T : TypeId} {c0 c1 c2 c3 c4 c5 : Value} (h : Blk w g #[c0, c1, c2, c3, c4, c5] T) : w.cell? ⟨g, 0, none⟩ = some c0 ∧ w.cell? ⟨g, 1, none⟩ = some c1 ∧ w.cell? ⟨g, 2, none⟩ = some c2 ∧ w.cell? ⟨g, 3, none⟩ = some c3 ∧ w.cell? ⟨g, 4, none⟩ = some c4 ∧ w.cell? ⟨g, 5, none⟩ = some c5 :=
  ⟨h.cell 0 rfl, h.cell 1 rfl, h.cell 2 rfl, h.cell 3 rfl, h.cell 4 rfl, h.cell 5 rfl⟩

/-- The store as plain data. -/
def StoS (w : World) (s B : Nat) (S : Ss) : Prop := ∃ left, Sto w s B S.xs S.dead S.left.isSome left ∧ ∀ L, S.left = some L → left = L
theorem StoS.keep {w w' : World} {s B : Nat} {S : Ss} (h : StoS w s B S) {G : Nat → Prop} (hk : Keep G w w') (h1 : ¬ G s) (h2 : ¬ G B) : StoS w' s B S := by
  obtain ⟨l, h, h3⟩ := h
  exact ⟨l, h.keep hk h1 h2, h3⟩
theorem StoS.below {w w' : World} {s B : Nat} {S : Ss} (h : StoS w s B S) (hb : Below w.heap.size w w') : StoS w' s B S := h.keep (Keep.of_below (F := fun _ => False) hb) id id
theorem StoS.lt {w : World} {s B : Nat} {S : Ss} (h : StoS w s B S) : s < w.heap.size ∧ B < w.heap.size := by
  obtain ⟨l, h, _⟩ := h
  exact ⟨h.blk.lt, h.row.lt⟩
theorem StoS.ne {w : World} {s B : Nat} {S : Ss} (h : StoS w s B S) : s ≠ B := by obtain ⟨l, h, _⟩ := h; exact h.ne
theorem StoS.len {w : World} {s B : Nat} {S : Ss} (h : StoS w s B S) : S.xs.length ≤ 65536 := by obtain ⟨l, h, _⟩ := h; exact h.len

/-- The journal at block b over the store at block s, whose banks have h bytes; its data lie in no block of X. -/
def Jo (w : World) (X : Nat → Prop) (b s h : Nat) (j : Jt) : Prop :=
  ∃ a n c, Blk w b #[.pointer (some ⟨s, 0, none⟩), .int .i64 ((j.k * h : Nat) : Int), .int .u32 (j.s : Int), .slice a n c, .int .i64 (j.e : Int), .bool j.is] 62 ∧ Byts w (.slice a n c) j.d ∧
    (∀ ad, a = some ad → n = 0 ∨ (¬ X ad.block ∧ ad.block ≠ b ∧ ad.block < w.heap.size)) ∧ ¬ X b ∧ j.s ≤ 4294967295 ∧ j.k ≤ 1 ∧ j.d.length ≤ 40 ∧ j.e ≤ h
theorem Jo.lt {w : World} {X : Nat → Prop} {b s h : Nat} {j : Jt} (H : Jo w X b s h j) : b < w.heap.size := by obtain ⟨_, _, _, h, _⟩ := H; exact h.lt
theorem Jo.keep {w w' : World} {X : Nat → Prop} {b s h : Nat} {j : Jt} (H : Jo w X b s h j) {G : Nat → Prop} (hk : Keep G w w') (h1 : ¬ G b) (h2 : ∀ k, G k → X k ∨ w.heap.size ≤ k) : Jo w' X b s h j := by
  obtain ⟨a, n, c, hb, hv, hX, r⟩ := H
  refine ⟨a, n, c, hb.keep hk h1, hv.keep hk fun ad n' c' e => ?_, fun ad e => (hX ad e).imp id fun ⟨p, q, t⟩ => ⟨p, q, Nat.lt_of_lt_of_le t hk.size⟩, r⟩
  simp only [Value.slice.injEq] at e
  obtain ⟨e1, e2, _⟩ := e
  subst e2
  exact (hX ad e1).imp id fun ⟨p, q, t⟩ hG => by
    rcases h2 _ hG with h3 | h3
    · exact p h3
    · omega
theorem Jo.below {w w' : World} {X : Nat → Prop} {b s h : Nat} {j : Jt} (H : Jo w X b s h j) (hb : Below w.heap.size w w') : Jo w' X b s h j := H.keep (Keep.of_below (F := fun _ => False) hb) id (fun _ h => h.elim)
theorem Jo.more {w : World} {X Y : Nat → Prop} {b s h : Nat} {j : Jt} (H : Jo w X b s h j) (hY : ∀ k, Y k → X k ∨ w.heap.size ≤ k) : Jo w Y b s h j := by
  obtain ⟨a, n, c, hb, hv, hX, hXb, r⟩ := H
  exact ⟨a, n, c, hb, hv, fun ad e => (hX ad e).imp id fun ⟨p, q, t⟩ => ⟨fun hy => (hY _ hy).elim p (by omega), q, t⟩, fun hy => (hY _ hy).elim hXb (by have := hb.lt; omega), r⟩
theorem Jo.facts {w : World} {X : Nat → Prop} {b s h : Nat} {j : Jt} (H : Jo w X b s h j) : j.s ≤ 4294967295 ∧ j.k ≤ 1 ∧ j.d.length ≤ 40 ∧ j.e ≤ h := by
  obtain ⟨_, _, _, _, _, _, _, r⟩ := H
  exact r
theorem Jo.not {w : World} {X : Nat → Prop} {b s h : Nat} {j : Jt} (H : Jo w X b s h j) : ¬ X b := by
  obtain ⟨_, _, _, _, _, _, r, _⟩ := H
  exact r
/-- No record: what a journal that found none holds; a record: what it holds. -/
theorem LastT.jof {m : Option Nt} {B : Nat} {w : World} {s : Int} {a : Option Addr} {n c : Nat} {e : Int} {ok : Bool} (h : LastT m B w s a n c e ok) (k : Nat) :
    s = ((jof k m).s : Int) ∧ e = ((jof k m).e : Int) ∧ ok = (jof k m).is ∧ Byts w (.slice a n c) (jof k m).d ∧ (∀ ad, a = some ad → B ≤ ad.block ∧ (n = 0 ∨ ad.block < w.heap.size)) := by
  rcases h with ⟨rfl, rfl, rfl, rfl, rfl, rfl, rfl⟩ | ⟨rfl, y, rfl, rfl, hy, rfl, ho⟩
  · exact ⟨rfl, rfl, rfl, byts_nil w, fun _ h => by cases h⟩
  · rw [← hy] at ho
    refine ⟨rfl, rfl, rfl, ho.byts, fun ad e => ?_⟩
    subst e
    refine ⟨?_, ?_⟩
    · rcases ho.2 with ⟨h1, _⟩ | ⟨g, cap, cur, h1, hB, _⟩
      · cases h1
      · cases h1; exact hB
    · right
      rcases ho.2 with ⟨h1, _⟩ | ⟨g, cap, cur, h1, hB, hg, _⟩
      · cases h1
      · cases h1; exact lt_of_block hg
end Go.Proofs.YtekackglcapppaaGreatDoor
/-
  journal: half, over, Open, Last, Seq, clean.
-/
namespace Go.Proofs.YtekackglcapppaaGreatDoor
open Go.RowKit

variable {w : World} {s B : Nat} {S : Ss}
theorem half_to (h : StoS w s B S) (hh : Nat) (he : hh = S.xs.length / 2) :
    Calls Tryz.prog 24 #[.pointer (some ⟨s, 0, none⟩)] w fun e w' => e = .returned (.int .i64 (hh : Int)) ∧ w = w' := by
  have hl := h.len
  obtain ⟨l, h, _⟩ := h
  obtain ⟨n, hn⟩ : ∃ n, n = S.xs.length := ⟨_, rfl⟩
  have HS := Lib.hid (size_to h n hn)
  rw [← hn] at he hl
  have hd : (n : Int).tdiv 2 = (hh : Int) := by rw [Int.tdiv_eq_ediv_of_nonneg (by omega)]; omega
  have hw : IntKind.i64.wrap (hh : Int) = (hh : Int) := by rw [IntKind.wrap_i64]; omega
  clear h hn he hl
  go_enter Tryz.func24, Tryz.ntmps24
  go_wp2_with fail
  (with_reducible refine HS.out.mono ?_)
  rintro e w1 ⟨rfl, rfl⟩
  go_wp2_with fail
  go_ret
  exact ⟨rfl, rfl⟩
theorem over_to (h : StoS w s B S) (X : Nat → Prop) (hX : ∀ k, X k → k < w.heap.size) (k hh : Nat) (hk : k ≤ 1) (he : hh = S.xs.length / 2) (F : Int) (hF : F = ((k * hh : Nat) : Int)) :
    Calls Tryz.prog 23 #[.pointer (some ⟨s, 0, none⟩), .int .i64 F] w fun e w' => ∃ b, e = .returned (.pointer (some ⟨b, 0, none⟩)) ∧ w.heap.size ≤ b ∧ Jo w' X b s hh (jof k (blast S.xs k)) ∧ Below w.heap.size w w' := by
  have hl := h.len
  have HF := Lib.hid hF
  have HX := Lib.hid hX
  have HH := Lib.hid (half_to h hh he)
  have HBL := Lib.hid (fun n (hn : blast S.xs k = some n) => blast_some hk hn)
  have HE := Lib.hid he
  have hlb := bnk_len S.xs k hk
  have HB := Lib.hid (show (S.xs.drop (k * hh)).take hh = bnk S.xs k by rw [he]; rfl)
  have HLb := Lib.hid hlb
  have HK := Lib.hid hk
  obtain ⟨l, h, _⟩ := h
  have HR := Lib.hid (read_any h F (hh : Int) (k * hh) hh hF rfl (by rcases show k = 0 ∨ k = 1 by omega with rfl | rfl <;> omega))
  rw [HB.out] at HR
  clear h hk he hF hX hlb
  go_enter Tryz.func23, Tryz.ntmps23
  go_wp2_with fail
  (with_reducible refine HH.out.mono ?_)
  rintro e w1 ⟨rfl, rfl⟩
  go_wp2_with fail
  (with_reducible refine HR.out.mono ?_)
  rintro e w1 ⟨v, rfl, hv, hb⟩
  have HB1 := Lib.hid hb
  have HL := Lib.hid (last_any v _ w1 hv (by rw [HLb.out]; omega))
  clear hv hb HR
  go_wp2_with fail
  (with_reducible refine HL.out.mono ?_)
  rintro e w2 ⟨s2, a, n, c, p, ok, rfl, hlt, hb⟩
  have HT := Lib.hid hlt
  have HB2 := Lib.hid (below_call HB1.out hb)
  have HS1 := Lib.hid HB1.out.size
  clear hlt hb HL
  go_wp2_with fail
  go_ret
  have HT' : LastT (blast S.xs k) w1.heap.size w2 s2 a n c p ok := HT.out
  obtain ⟨q1, q2, q3, q4, q5⟩ := HT'.jof k
  have hbl := below_alloc (below_alloc (Below.refl _ w2) (.cells #[.int .u32 s2, .slice a n c, .int .i64 p] 47)) (.cells #[.pointer (some ⟨s, 0, none⟩), .int .i64 F, .int .u32 s2, .slice a n c, .int .i64 p, .bool ok] 62)
  have hz := HB2.out.size
  refine ⟨_, rfl, by omega, ⟨a, n, c, ?_, q4.below hbl, ?_, fun hx => by have := HX.out _ hx; omega, ?_⟩, below_call HB2.out hbl⟩
  · rw [← q1, ← q2, ← q3, show (jof k (blast S.xs k)).k = k by cases blast S.xs k <;> rfl, ← HF.out]
    have := blk_new (w2.alloc (.cells #[.int .u32 s2, .slice a n c, .int .i64 p] 47)) #[.pointer (some ⟨s, 0, none⟩), .int .i64 F, .int .u32 s2, .slice a n c, .int .i64 p, .bool ok] 62
    simpa using this
  · intro ad e
    obtain ⟨h1, h2⟩ := q5 ad e
    refine h2.imp id fun h2 => ⟨fun hx => ?_, by omega, by simp; omega⟩
    have := HX.out _ hx
    have := HS1.out
    omega
  · cases hb : blast S.xs k with
    | none => exact ⟨by simp [jof], HK.out, by simp [jof], by simp [jof]⟩
    | some m =>
      obtain ⟨h1, h2, h3, h4⟩ := HBL.out m hb
      exact ⟨h3, HK.out, h2, by rw [HE.out]; exact h4⟩
theorem jopen_eq {xs : List (BitVec 8)} : jopen xs = if jsnd (blast xs 0) (blast xs 1) = true then jof 1 (blast xs 1) else jof 0 (blast xs 0) := rfl
theorem jsnd_is (a b : Option Nt) : jsnd a b = ((jof 1 b).is && (!(jof 0 a).is || decide ((jof 0 a).s < (jof 1 b).s))) := by
  cases a <;> cases b <;> rfl
theorem open_to (h : StoS w s B S) (X : Nat → Prop) (hX : ∀ k, X k → k < w.heap.size) (hh : Nat) (he : hh = S.xs.length / 2) :
    Calls Tryz.prog 7 #[.pointer (some ⟨s, 0, none⟩)] w fun e w' => ∃ b, e = .returned (.pointer (some ⟨b, 0, none⟩)) ∧ w.heap.size ≤ b ∧ Jo w' X b s hh (jopen S.xs) ∧ Below w.heap.size w w' := by
  have H := Lib.hid h
  have HX := Lib.hid hX
  have HE := Lib.hid he
  have HO0 := Lib.hid (over_to h X hX 0 hh (by omega) he 0 (by simp))
  have HSN := Lib.hid (jsnd_is (blast S.xs 0) (blast S.xs 1))
  clear h he hX
  go_enter Tryz.func7, Tryz.ntmps7
  go_wp2_with fail
  (with_reducible refine HO0.out.mono ?_)
  rintro e w1 ⟨b0, rfl, h0, hj, hb⟩
  have HJ0 := Lib.hid hj
  have HB1 := Lib.hid hb
  have HH := Lib.hid (half_to (H.out.below hb) hh HE.out)
  have HO1 := Lib.hid (over_to (H.out.below hb) X (fun k hk => Nat.lt_of_lt_of_le (HX.out k hk) hb.size) 1 hh (by omega) HE.out (hh : Int) (by simp))
  clear hj hb HO0
  go_wp2_with fail
  (with_reducible refine HH.out.mono ?_)
  rintro e w1' ⟨rfl, rfl⟩
  go_wp2_with fail
  (with_reducible refine HO1.out.mono ?_)
  rintro e w2 ⟨b1, rfl, h1, hj, hb⟩
  have HJ1 := Lib.hid hj
  have HJ0' := Lib.hid (HJ0.out.below hb)
  have HB2 := Lib.hid (below_call HB1.out hb)
  have hz := HB1.out.size
  have HG0 := Lib.hid h0
  have HG1 := Lib.hid (show w.heap.size ≤ b1 by omega)
  obtain ⟨a1, n1, c1, hb1, _⟩ := hj
  obtain ⟨a0, n0, c0, hb0, _⟩ := HJ0'.out
  obtain ⟨p0, p1, p2, p3, p4, p5⟩ := hb0.six
  obtain ⟨q0, q1, q2, q3, q4, q5⟩ := hb1.six
  obtain ⟨J0, HJJ0⟩ : ∃ J, Hid (J = jof 0 (blast S.xs 0)) := ⟨_, Lib.hid rfl⟩
  obtain ⟨J1, HJJ1⟩ : ∃ J, Hid (J = jof 1 (blast S.xs 1)) := ⟨_, Lib.hid rfl⟩
  rw [← HJJ0.out] at p2 p4 p5
  rw [← HJJ1.out] at q2 q4 q5
  rw [← HJJ0.out, ← HJJ1.out] at HSN
  have HQ := Lib.hid (jopen_eq (xs := S.xs))
  rw [← HJJ0.out, ← HJJ1.out] at HQ
  rw [← HJJ0.out] at HJ0'
  rw [← HJJ1.out] at HJ1
  clear h0 h1 hz hb hb0 hb1 HO1 HH HJ0 p0 p1 p3 p4 q0 q1 q3 q4 HJJ0 HJJ1
  obtain ⟨k0, s0, d0, e0, i0⟩ := J0
  obtain ⟨k1, s1, d1, e1, i1⟩ := J1
  dsimp only at p2 p5 q2 q5 HSN
  have fin0 : jsnd (blast S.xs 0) (blast S.xs 1) = false → Jo w2 X b0 s hh (jopen S.xs) := fun hf => by
    rw [HQ.out, hf]; exact HJ0'.out
  have fin1 : jsnd (blast S.xs 0) (blast S.xs 1) = true → Jo w2 X b1 s hh (jopen S.xs) := fun hf => by
    rw [HQ.out, hf]; exact HJ1.out
  rw [HSN.out] at fin0 fin1
  have F0 := Lib.hid fin0
  have F1 := Lib.hid fin1
  clear fin0 fin1 HQ HSN HJ0' HJ1
  cases i1 with
  | false =>
    go_wp2_with fail
    go_quiet (fail)
    go_wp2_with fail
    go_ret
    exact ⟨b0, rfl, HG0.out, (F0.out (by simp)).below (bel_drewN _ _), below_call HB2.out (bel_drewN _ _)⟩
  | true =>
    cases i0 with
    | false =>
      go_wp2_with fail
      go_quiet (fail)
      go_wp2_with fail
      go_ret
      exact ⟨b1, rfl, HG1.out, (F1.out (by simp)).below (bel_drewN _ _), below_call HB2.out (bel_drewN _ _)⟩
    | true =>
      rcases Nat.lt_or_ge s0 s1 with hlt | hge
      · have g1 : decide ((s0 : Int) < (s1 : Int)) = true := decide_eq_true (by omega)
        have g2 : decide (s0 < s1) = true := decide_eq_true hlt
        have HL := Lib.hid hlt
        clear hlt
        go_wp2_with fail
        go_quiet (fail)
        go_wp2_with fail
        go_ret
        exact ⟨b1, rfl, HG1.out, (F1.out (by simp; exact HL.out)).below (bel_drewN _ _), below_call HB2.out (bel_drewN _ _)⟩
      · have g1 : decide ((s0 : Int) < (s1 : Int)) = false := decide_eq_false (by omega)
        have g2 : decide (s0 < s1) = false := decide_eq_false (by omega)
        have HL := Lib.hid hge
        clear hge
        go_wp2_with fail
        go_quiet (fail)
        go_wp2_with fail
        go_ret
        exact ⟨b0, rfl, HG0.out, (F0.out (by simp; exact HL.out)).below (bel_drewN _ _), below_call HB2.out (bel_drewN _ _)⟩
variable {X : Nat → Prop} {b hh : Nat} {j : Jt}
theorem seq_to (H : Jo w X b s hh j) :
    Calls Tryz.prog 17 #[.pointer (some ⟨b, 0, none⟩)] w fun e w' => e = .returned (.int .u32 (j.s : Int)) ∧ w = w' := by
  obtain ⟨a, n, c, hb, _⟩ := H
  obtain ⟨p0, p1, p2, p3, p4, p5⟩ := hb.six
  clear hb
  go_enter Tryz.func17, Tryz.ntmps17
  go_wp2_with fail
  go_ret
  exact ⟨rfl, rfl⟩
theorem jlast_to (H : Jo w X b s hh j) :
    Calls Tryz.prog 16 #[.pointer (some ⟨b, 0, none⟩)] w fun e w' => ∃ v, e = .returned (.tuple #[v, .bool j.is]) ∧ Own w' w.heap.size v j.d ∧ Below w.heap.size w w' := by
  obtain ⟨a, n, c, hb, hv, _, _, _, _, hd, _⟩ := H
  obtain ⟨p0, p1, p2, p3, p4, p5⟩ := hb.six
  have HC := Lib.hid (clone_any _ _ w.drew (hv.below (bel_drew w)) (by omega))
  obtain ⟨i, hi⟩ : ∃ i, i = j.is := ⟨_, rfl⟩
  rw [← hi] at p5
  rw [← hi]
  clear hb hv hd hi p0 p1 p2 p4
  go_enter Tryz.func16, Tryz.ntmps16
  go_wp2_with fail
  refine wp_region_held_drew (S := fun w' => w'.cell? ⟨b, 3, none⟩ = some (.slice a n c) ∧ w'.cell? ⟨b, 5, none⟩ = some (.bool i)) (by kernel_rfl) ⟨p3, p5⟩ (fun hHeld => ?_)
  refine wpAnyH_take (i := 0) (oi := ?_) (v := ?_) ?_ (by kernel_rfl) (by kernel_rfl) (by kernel_rfl) ?_ (Or.inl ⟨?_, ?_⟩) hHeld ?_
  rotate_left 2
  · (simp only [List.getElem?_toArray, List.getElem?_cons_zero]; rfl)
  · exact (fun _ _ _ h => h)
  · rfl
  · (intro w hSw; (try dsimp only at hSw); obtain ⟨z3, z5⟩ := hSw; go_simp; try with_reducible rfl)
  (try simp only [Act.put, List.setIfInBounds_toArray, List.set_cons_zero, List.set_cons_succ])
  refine wpAnyH_take (i := 1) (oi := ?_) (v := ?_) ?_ (by kernel_rfl) (by kernel_rfl) (by kernel_rfl) ?_ (Or.inl ⟨?_, ?_⟩) hHeld ?_
  rotate_left 2
  · (simp only [List.getElem?_toArray, List.getElem?_cons_zero, List.getElem?_cons_succ]; rfl)
  · exact (fun _ _ _ h => h)
  · rfl
  · (intro w hSw; (try dsimp only at hSw); obtain ⟨z3, z5⟩ := hSw; go_simp; try with_reducible rfl)
  (try simp only [Act.put, List.setIfInBounds_toArray, List.set_cons_zero, List.set_cons_succ])
  refine wpAnyH_take (i := 2) (oi := ?_) (v := ?_) ?_ (by kernel_rfl) (by kernel_rfl) (by kernel_rfl) ?_ (Or.inl ⟨?_, ?_⟩) hHeld ?_
  rotate_left 2
  · (simp only [List.getElem?_toArray, List.getElem?_cons_zero, List.getElem?_cons_succ]; rfl)
  · exact (fun _ _ _ h => h)
  · rfl
  · (intro w hSw; (try dsimp only at hSw); obtain ⟨z3, z5⟩ := hSw; go_simp; try with_reducible rfl)
  (try simp only [Act.put, List.setIfInBounds_toArray, List.set_cons_zero, List.set_cons_succ])
  refine wpAnyH_take (i := 3) (oi := ?_) (v := ?_) ?_ (by kernel_rfl) (by kernel_rfl) (by kernel_rfl) ?_ (Or.inl ⟨?_, ?_⟩) hHeld ?_
  rotate_left 2
  · (simp only [List.getElem?_toArray, List.getElem?_cons_zero, List.getElem?_cons_succ]; rfl)
  · exact (fun _ _ _ h => h)
  · rfl
  · (intro w hSw; (try dsimp only at hSw); obtain ⟨z3, z5⟩ := hSw; go_simp; try with_reducible rfl)
  (try simp only [Act.put, List.setIfInBounds_toArray, List.set_cons_zero, List.set_cons_succ])
  refine wpAnyH_take (i := 4) (oi := ?_) (v := ?_) ?_ (by kernel_rfl) (by kernel_rfl) (by kernel_rfl) ?_ (Or.inl ⟨?_, ?_⟩) hHeld ?_
  rotate_left 2
  · (simp only [List.getElem?_toArray, List.getElem?_cons_zero, List.getElem?_cons_succ]; rfl)
  · exact (fun _ _ _ h => h)
  · rfl
  · (intro w hSw; (try dsimp only at hSw); obtain ⟨z3, z5⟩ := hSw; go_simp; try with_reducible rfl)
  (try simp only [Act.put, List.setIfInBounds_toArray, List.set_cons_zero, List.set_cons_succ])
  refine wpAnyH_take (i := 6) (oi := ?_) (v := ?_) ?_ (by kernel_rfl) (by kernel_rfl) (by kernel_rfl) ?_ (Or.inl ⟨?_, ?_⟩) hHeld ?_
  rotate_left 2
  · (simp only [List.getElem?_toArray, List.getElem?_cons_zero, List.getElem?_cons_succ]; rfl)
  · exact (fun _ _ _ h => h)
  · rfl
  · (intro w hSw; (try dsimp only at hSw); obtain ⟨z3, z5⟩ := hSw; go_simp; try with_reducible rfl)
  (try simp only [Act.put, List.setIfInBounds_toArray, List.set_cons_zero, List.set_cons_succ])
  refine wpAnyH_take (i := 7) (oi := ?_) (v := ?_) ?_ (by kernel_rfl) (by kernel_rfl) (by kernel_rfl) ?_ (Or.inl ⟨?_, ?_⟩) hHeld ?_
  rotate_left 2
  · (simp only [List.getElem?_toArray, List.getElem?_cons_zero, List.getElem?_cons_succ]; rfl)
  · exact (fun _ _ _ h => h)
  · rfl
  · (intro w hSw; (try dsimp only at hSw); obtain ⟨z3, z5⟩ := hSw; go_simp; try with_reducible rfl)
  (try simp only [Act.put, List.setIfInBounds_toArray, List.set_cons_zero, List.set_cons_succ])
  refine wpAnyH_take (i := 8) (oi := ?_) (v := ?_) ?_ (by kernel_rfl) (by kernel_rfl) (by kernel_rfl) ?_ (Or.inl ⟨?_, ?_⟩) hHeld ?_
  rotate_left 2
  · (simp only [List.getElem?_toArray, List.getElem?_cons_zero, List.getElem?_cons_succ]; rfl)
  · exact (fun _ _ _ h => h)
  · rfl
  · (intro w hSw; (try dsimp only at hSw); obtain ⟨z3, z5⟩ := hSw; go_simp; try with_reducible rfl)
  (try simp only [Act.put, List.setIfInBounds_toArray, List.set_cons_zero, List.set_cons_succ])
  refine wpAnyH_take (i := 9) (oi := ?_) (v := ?_) ?_ (by kernel_rfl) (by kernel_rfl) (by kernel_rfl) ?_ (Or.inl ⟨?_, ?_⟩) hHeld ?_
  rotate_left 2
  · (simp only [List.getElem?_toArray, List.getElem?_cons_zero, List.getElem?_cons_succ]; rfl)
  · exact (fun _ _ _ h => h)
  · rfl
  · (intro w hSw; (try dsimp only at hSw); obtain ⟨z3, z5⟩ := hSw; go_simp; try with_reducible rfl)
  (try simp only [Act.put, List.setIfInBounds_toArray, List.set_cons_zero, List.set_cons_succ])
  refine wpAnyH_ready (rs := [5]) (by kernel_rfl) (by simp) ?_
  refine AllReadyH.cons (o := ?_) ?_ (fun K hK => ?_) AllReadyH.nil
  rotate_left
  · (simp only [List.getElem?_toArray, List.getElem?_cons_zero, List.getElem?_cons_succ]; rfl)
  go_simp
  (with_reducible refine (HC.out).mono ?_)
  rintro e w1 ⟨v, rfl, ho, hb⟩
  have HO := Lib.hid ho
  have HB := Lib.hid (below_call (bel_drew w) hb)
  have kk : w1.cell? ⟨b, 3, none⟩ = some (.slice a n c) ∧ w1.cell? ⟨b, 5, none⟩ = some (.bool i) := ⟨below_cell HB.out p3, below_cell HB.out p5⟩
  clear ho hb
  go_wp2_with fail
  refine hK.out _ _ kk (fun hHeld => ?_)
  clear hK K
  (try simp only [Act.put, List.setIfInBounds_toArray, List.set_cons_zero, List.set_cons_succ])
  refine wpAnyH_take (i := 10) (oi := ?_) (v := ?_) ?_ (by kernel_rfl) (by kernel_rfl) (by kernel_rfl) ?_ (Or.inl ⟨?_, ?_⟩) hHeld ?_
  rotate_left 2
  · (simp only [List.getElem?_toArray, List.getElem?_cons_zero, List.getElem?_cons_succ]; rfl)
  · exact (fun _ _ _ h => h)
  · rfl
  · (intro w hSw; (try dsimp only at hSw); go_simp; try with_reducible rfl)
  (try simp only [Act.put, List.setIfInBounds_toArray, List.set_cons_zero, List.set_cons_succ])
  refine wpAnyH_take (i := 11) (oi := ?_) (v := ?_) ?_ (by kernel_rfl) (by kernel_rfl) (by kernel_rfl) ?_ (Or.inl ⟨?_, ?_⟩) hHeld ?_
  rotate_left 2
  · (simp only [List.getElem?_toArray, List.getElem?_cons_zero, List.getElem?_cons_succ]; rfl)
  · exact (fun _ _ _ h => h)
  · rfl
  · (intro w hSw; (try dsimp only at hSw); go_simp; try with_reducible rfl)
  (try simp only [Act.put, List.setIfInBounds_toArray, List.set_cons_zero, List.set_cons_succ])
  refine wpAnyH_done (by kernel_rfl) ?_ _
  go_wp2_with fail
  go_ret2
  exact ⟨v, rfl, HO.out, HB.out⟩
theorem clean_to (h : StoS w s B S) (H : Jo w X b s hh j) (he : hh = S.xs.length / 2) :
    Calls Tryz.prog 46 #[.pointer (some ⟨b, 0, none⟩)] w fun e w' => e = .returned (.bool (bblank (bnk S.xs j.k) j.e)) ∧ Below w.heap.size w w' := by
  have hl := h.len
  have hf := H.facts
  obtain ⟨a, n, c, hb, _⟩ := H
  obtain ⟨p0, p1, p2, p3, p4, p5⟩ := hb.six
  have h1 := h.below (bel_drew w)
  have HH := Lib.hid (half_to h1 hh he)
  have HB := Lib.hid (show (S.xs.drop (j.k * hh)).take hh = bnk S.xs j.k by rw [he]; rfl)
  have HLb := Lib.hid (bnk_len S.xs j.k hf.2.1)
  obtain ⟨F, hF⟩ : ∃ F : Int, F = ((j.k * hh : Nat) : Int) := ⟨_, rfl⟩
  rw [← hF] at p1
  obtain ⟨l, h2, _⟩ := h1
  have HR := Lib.hid (read_any h2 F (hh : Int) (j.k * hh) hh hF rfl (by rcases show j.k = 0 ∨ j.k = 1 by omega with e | e <;> rw [e] <;> omega))
  rw [HB.out] at HR
  have HL := Lib.hid (show S.xs.length / 2 ≤ 32768 ∧ j.e ≤ 32768 by omega)
  obtain ⟨xs, hxs⟩ : ∃ xs, xs = bnk S.xs j.k := ⟨_, rfl⟩
  rw [← hxs] at HR HLb
  rw [← hxs]
  obtain ⟨en, hen⟩ : ∃ en, en = j.e := ⟨_, rfl⟩
  rw [← hen] at p4 HL
  rw [← hen]
  clear h h2 hb hf hl hF hxs p2 p3 p5 HB hen he
  go_enter Tryz.func46, Tryz.ntmps46
  go_wp2_with fail
  refine wp_region_held_drew (S := fun w' => w'.cell? ⟨b, 0, none⟩ = some (.pointer (some ⟨s, 0, none⟩)) ∧ w'.cell? ⟨b, 1, none⟩ = some (.int .i64 F) ∧ w'.cell? ⟨b, 4, none⟩ = some (.int .i64 (en : Int))) (by kernel_rfl) ⟨p0, p1, p4⟩ (fun hHeld => ?_)
  refine wpAnyH_take (i := 0) (oi := ?_) (v := ?_) ?_ (by kernel_rfl) (by kernel_rfl) (by kernel_rfl) ?_ (Or.inl ⟨?_, ?_⟩) hHeld ?_
  rotate_left 2
  · (simp only [List.getElem?_toArray, List.getElem?_cons_zero]; rfl)
  · exact (fun _ _ _ h => h)
  · rfl
  · (intro w hSw; (try dsimp only at hSw); obtain ⟨z0, z1, z4⟩ := hSw; go_simp; try with_reducible rfl)
  (try simp only [Act.put, List.setIfInBounds_toArray, List.set_cons_zero, List.set_cons_succ])
  refine wpAnyH_take (i := 1) (oi := ?_) (v := ?_) ?_ (by kernel_rfl) (by kernel_rfl) (by kernel_rfl) ?_ (Or.inl ⟨?_, ?_⟩) hHeld ?_
  rotate_left 2
  · (simp only [List.getElem?_toArray, List.getElem?_cons_zero, List.getElem?_cons_succ]; rfl)
  · exact (fun _ _ _ h => h)
  · rfl
  · (intro w hSw; (try dsimp only at hSw); obtain ⟨z0, z1, z4⟩ := hSw; go_simp; try with_reducible rfl)
  (try simp only [Act.put, List.setIfInBounds_toArray, List.set_cons_zero, List.set_cons_succ])
  refine wpAnyH_take (i := 2) (oi := ?_) (v := ?_) ?_ (by kernel_rfl) (by kernel_rfl) (by kernel_rfl) ?_ (Or.inl ⟨?_, ?_⟩) hHeld ?_
  rotate_left 2
  · (simp only [List.getElem?_toArray, List.getElem?_cons_zero, List.getElem?_cons_succ]; rfl)
  · exact (fun _ _ _ h => h)
  · rfl
  · (intro w hSw; (try dsimp only at hSw); obtain ⟨z0, z1, z4⟩ := hSw; go_simp; try with_reducible rfl)
  (try simp only [Act.put, List.setIfInBounds_toArray, List.set_cons_zero, List.set_cons_succ])
  refine wpAnyH_take (i := 3) (oi := ?_) (v := ?_) ?_ (by kernel_rfl) (by kernel_rfl) (by kernel_rfl) ?_ (Or.inl ⟨?_, ?_⟩) hHeld ?_
  rotate_left 2
  · (simp only [List.getElem?_toArray, List.getElem?_cons_zero, List.getElem?_cons_succ]; rfl)
  · exact (fun _ _ _ h => h)
  · rfl
  · (intro w hSw; (try dsimp only at hSw); obtain ⟨z0, z1, z4⟩ := hSw; go_simp; try with_reducible rfl)
  (try simp only [Act.put, List.setIfInBounds_toArray, List.set_cons_zero, List.set_cons_succ])
  refine wpAnyH_take (i := 4) (oi := ?_) (v := ?_) ?_ (by kernel_rfl) (by kernel_rfl) (by kernel_rfl) ?_ (Or.inl ⟨?_, ?_⟩) hHeld ?_
  rotate_left 2
  · (simp only [List.getElem?_toArray, List.getElem?_cons_zero, List.getElem?_cons_succ]; rfl)
  · exact (fun _ _ _ h => h)
  · rfl
  · (intro w hSw; (try dsimp only at hSw); obtain ⟨z0, z1, z4⟩ := hSw; go_simp; try with_reducible rfl)
  (try simp only [Act.put, List.setIfInBounds_toArray, List.set_cons_zero, List.set_cons_succ])
  refine wpAnyH_take (i := 5) (oi := ?_) (v := ?_) ?_ (by kernel_rfl) (by kernel_rfl) (by kernel_rfl) ?_ (Or.inl ⟨?_, ?_⟩) hHeld ?_
  rotate_left 2
  · (simp only [List.getElem?_toArray, List.getElem?_cons_zero, List.getElem?_cons_succ]; rfl)
  · exact (fun _ _ _ h => h)
  · rfl
  · (intro w hSw; (try dsimp only at hSw); obtain ⟨z0, z1, z4⟩ := hSw; go_simp; try with_reducible rfl)
  (try simp only [Act.put, List.setIfInBounds_toArray, List.set_cons_zero, List.set_cons_succ])
  refine wpAnyH_take (i := 6) (oi := ?_) (v := ?_) ?_ (by kernel_rfl) (by kernel_rfl) (by kernel_rfl) ?_ (Or.inl ⟨?_, ?_⟩) hHeld ?_
  rotate_left 2
  · (simp only [List.getElem?_toArray, List.getElem?_cons_zero, List.getElem?_cons_succ]; rfl)
  · exact (fun _ _ _ h => h)
  · rfl
  · (intro w hSw; (try dsimp only at hSw); obtain ⟨z0, z1, z4⟩ := hSw; go_simp; try with_reducible rfl)
  (try simp only [Act.put, List.setIfInBounds_toArray, List.set_cons_zero, List.set_cons_succ])
  refine wpAnyH_take (i := 7) (oi := ?_) (v := ?_) ?_ (by kernel_rfl) (by kernel_rfl) (by kernel_rfl) ?_ (Or.inl ⟨?_, ?_⟩) hHeld ?_
  rotate_left 2
  · (simp only [List.getElem?_toArray, List.getElem?_cons_zero, List.getElem?_cons_succ]; rfl)
  · exact (fun _ _ _ h => h)
  · rfl
  · (intro w hSw; (try dsimp only at hSw); obtain ⟨z0, z1, z4⟩ := hSw; go_simp; try with_reducible rfl)
  (try simp only [Act.put, List.setIfInBounds_toArray, List.set_cons_zero, List.set_cons_succ])
  refine wpAnyH_take (i := 8) (oi := ?_) (v := ?_) ?_ (by kernel_rfl) (by kernel_rfl) (by kernel_rfl) ?_ (Or.inl ⟨?_, ?_⟩) hHeld ?_
  rotate_left 2
  · (simp only [List.getElem?_toArray, List.getElem?_cons_zero, List.getElem?_cons_succ]; rfl)
  · exact (fun _ _ _ h => h)
  · rfl
  · (intro w hSw; (try dsimp only at hSw); obtain ⟨z0, z1, z4⟩ := hSw; go_simp; try with_reducible rfl)
  (try simp only [Act.put, List.setIfInBounds_toArray, List.set_cons_zero, List.set_cons_succ])
  refine wpAnyH_take (i := 9) (oi := ?_) (v := ?_) ?_ (by kernel_rfl) (by kernel_rfl) (by kernel_rfl) ?_ (Or.inl ⟨?_, ?_⟩) hHeld ?_
  rotate_left 2
  · (simp only [List.getElem?_toArray, List.getElem?_cons_zero, List.getElem?_cons_succ]; rfl)
  · exact (fun _ _ _ h => h)
  · rfl
  · (intro w hSw; (try dsimp only at hSw); obtain ⟨z0, z1, z4⟩ := hSw; go_simp; try with_reducible rfl)
  (try simp only [Act.put, List.setIfInBounds_toArray, List.set_cons_zero, List.set_cons_succ])
  refine wpAnyH_take (i := 10) (oi := ?_) (v := ?_) ?_ (by kernel_rfl) (by kernel_rfl) (by kernel_rfl) ?_ (Or.inl ⟨?_, ?_⟩) hHeld ?_
  rotate_left 2
  · (simp only [List.getElem?_toArray, List.getElem?_cons_zero, List.getElem?_cons_succ]; rfl)
  · exact (fun _ _ _ h => h)
  · rfl
  · (intro w hSw; (try dsimp only at hSw); obtain ⟨z0, z1, z4⟩ := hSw; go_simp; try with_reducible rfl)
  (try simp only [Act.put, List.setIfInBounds_toArray, List.set_cons_zero, List.set_cons_succ])
  refine wpAnyH_take (i := 11) (oi := ?_) (v := ?_) ?_ (by kernel_rfl) (by kernel_rfl) (by kernel_rfl) ?_ (Or.inl ⟨?_, ?_⟩) hHeld ?_
  rotate_left 2
  · (simp only [List.getElem?_toArray, List.getElem?_cons_zero, List.getElem?_cons_succ]; rfl)
  · exact (fun _ _ _ h => h)
  · rfl
  · (intro w hSw; (try dsimp only at hSw); obtain ⟨z0, z1, z4⟩ := hSw; go_simp; try with_reducible rfl)
  (try simp only [Act.put, List.setIfInBounds_toArray, List.set_cons_zero, List.set_cons_succ])
  refine wpAnyH_take (i := 14) (oi := ?_) (v := ?_) ?_ (by kernel_rfl) (by kernel_rfl) (by kernel_rfl) ?_ (Or.inl ⟨?_, ?_⟩) hHeld ?_
  rotate_left 2
  · (simp only [List.getElem?_toArray, List.getElem?_cons_zero, List.getElem?_cons_succ]; rfl)
  · exact (fun _ _ _ h => h)
  · rfl
  · (intro w hSw; (try dsimp only at hSw); obtain ⟨z0, z1, z4⟩ := hSw; go_simp; try with_reducible rfl)
  (try simp only [Act.put, List.setIfInBounds_toArray, List.set_cons_zero, List.set_cons_succ])
  refine wpAnyH_take (i := 15) (oi := ?_) (v := ?_) ?_ (by kernel_rfl) (by kernel_rfl) (by kernel_rfl) ?_ (Or.inl ⟨?_, ?_⟩) hHeld ?_
  rotate_left 2
  · (simp only [List.getElem?_toArray, List.getElem?_cons_zero, List.getElem?_cons_succ]; rfl)
  · exact (fun _ _ _ h => h)
  · rfl
  · (intro w hSw; (try dsimp only at hSw); obtain ⟨z0, z1, z4⟩ := hSw; go_simp; try with_reducible rfl)
  (try simp only [Act.put, List.setIfInBounds_toArray, List.set_cons_zero, List.set_cons_succ])
  refine wpAnyH_take (i := 16) (oi := ?_) (v := ?_) ?_ (by kernel_rfl) (by kernel_rfl) (by kernel_rfl) ?_ (Or.inl ⟨?_, ?_⟩) hHeld ?_
  rotate_left 2
  · (simp only [List.getElem?_toArray, List.getElem?_cons_zero, List.getElem?_cons_succ]; rfl)
  · exact (fun _ _ _ h => h)
  · rfl
  · (intro w hSw; (try dsimp only at hSw); obtain ⟨z0, z1, z4⟩ := hSw; go_simp; try with_reducible rfl)
  (try simp only [Act.put, List.setIfInBounds_toArray, List.set_cons_zero, List.set_cons_succ])
  refine wpAnyH_take (i := 17) (oi := ?_) (v := ?_) ?_ (by kernel_rfl) (by kernel_rfl) (by kernel_rfl) ?_ (Or.inl ⟨?_, ?_⟩) hHeld ?_
  rotate_left 2
  · (simp only [List.getElem?_toArray, List.getElem?_cons_zero, List.getElem?_cons_succ]; rfl)
  · exact (fun _ _ _ h => h)
  · rfl
  · (intro w hSw; (try dsimp only at hSw); obtain ⟨z0, z1, z4⟩ := hSw; go_simp; try with_reducible rfl)
  (try simp only [Act.put, List.setIfInBounds_toArray, List.set_cons_zero, List.set_cons_succ])
  refine wpAnyH_take (i := 18) (oi := ?_) (v := ?_) ?_ (by kernel_rfl) (by kernel_rfl) (by kernel_rfl) ?_ (Or.inl ⟨?_, ?_⟩) hHeld ?_
  rotate_left 2
  · (simp only [List.getElem?_toArray, List.getElem?_cons_zero, List.getElem?_cons_succ]; rfl)
  · exact (fun _ _ _ h => h)
  · rfl
  · (intro w hSw; (try dsimp only at hSw); obtain ⟨z0, z1, z4⟩ := hSw; go_simp; try with_reducible rfl)
  (try simp only [Act.put, List.setIfInBounds_toArray, List.set_cons_zero, List.set_cons_succ])
  refine wpAnyH_ready (rs := [12]) (by kernel_rfl) (by simp) ?_
  refine AllReadyH.cons (o := ?_) ?_ (fun K hK => ?_) AllReadyH.nil
  rotate_left
  · (simp only [List.getElem?_toArray, List.getElem?_cons_zero, List.getElem?_cons_succ]; rfl)
  go_simp
  (with_reducible refine (HH.out).mono ?_)
  rintro e w1 ⟨rfl, rfl⟩
  go_wp2_with fail
  refine hK.out _ _ hHeld (fun hHeld => ?_)
  clear hK K
  (try simp only [Act.put, List.setIfInBounds_toArray, List.set_cons_zero, List.set_cons_succ])
  refine wpAnyH_ready (rs := [13]) (by kernel_rfl) (by simp) ?_
  refine AllReadyH.cons (o := ?_) ?_ (fun K hK => ?_) AllReadyH.nil
  rotate_left
  · (simp only [List.getElem?_toArray, List.getElem?_cons_zero, List.getElem?_cons_succ]; rfl)
  go_simp
  (with_reducible refine (HR.out).mono ?_)
  rintro e w1 ⟨v, rfl, hv, hb⟩
  have HV := Lib.hid (blank_any v xs w1 hv (by have := HLb.out; have := HL.out; omega) (en : Int) (by have := HL.out; omega))
  have HB := Lib.hid (below_call (bel_drew w) hb)
  have kk : w1.cell? ⟨b, 0, none⟩ = some (.pointer (some ⟨s, 0, none⟩)) ∧ w1.cell? ⟨b, 1, none⟩ = some (.int .i64 F) ∧ w1.cell? ⟨b, 4, none⟩ = some (.int .i64 (en : Int)) := ⟨below_cell HB.out p0, below_cell HB.out p1, below_cell HB.out p4⟩
  clear hv hb
  go_wp2_with fail
  refine hK.out _ _ kk (fun hHeld => ?_)
  clear hK K
  (try simp only [Act.put, List.setIfInBounds_toArray, List.set_cons_zero, List.set_cons_succ])
  refine wpAnyH_ready (rs := [19]) (by kernel_rfl) (by simp) ?_
  refine AllReadyH.cons (o := ?_) ?_ (fun K hK => ?_) AllReadyH.nil
  rotate_left
  · (simp only [List.getElem?_toArray, List.getElem?_cons_zero, List.getElem?_cons_succ]; rfl)
  go_simp
  (with_reducible refine (HV.out).mono ?_)
  rintro e w2 ⟨rfl, rfl⟩
  go_wp2_with fail
  refine hK.out _ _ hHeld (fun hHeld => ?_)
  clear hK K
  (try simp only [Act.put, List.setIfInBounds_toArray, List.set_cons_zero, List.set_cons_succ])
  refine wpAnyH_take (i := 20) (oi := ?_) (v := ?_) ?_ (by kernel_rfl) (by kernel_rfl) (by kernel_rfl) ?_ (Or.inl ⟨?_, ?_⟩) hHeld ?_
  rotate_left 2
  · (simp only [List.getElem?_toArray, List.getElem?_cons_zero, List.getElem?_cons_succ]; rfl)
  · exact (fun _ _ _ h => h)
  · rfl
  · (intro w hSw; (try dsimp only at hSw); go_simp; try with_reducible rfl)
  (try simp only [Act.put, List.setIfInBounds_toArray, List.set_cons_zero, List.set_cons_succ])
  refine wpAnyH_done (by kernel_rfl) ?_ _
  go_wp2_with fail
  go_ret
  exact ⟨by simp, HB.out⟩
end Go.Proofs.YtekackglcapppaaGreatDoor
/-
  journal: next, goOn, turn.
-/
namespace Go.Proofs.YtekackglcapppaaGreatDoor
open Go.RowKit

variable {w : World} {s B : Nat} {S : Ss}
theorem write_S (h : StoS w s B S) (A : Int) (a : Nat) (hA : A = (a : Int)) (v : Value) (ys : List (BitVec 8)) (hv : Byts w v ys) (hr : a + ys.length ≤ S.xs.length) :
    Calls Tryz.prog 21 #[.pointer (some ⟨s, 0, none⟩), .int .i64 A, v] w fun e w' => ∃ v, e = .returned v ∧ ErrAt w' w.heap.size v (sput S a ys).2 ∧ StoS w' s B (sput S a ys).1 ∧ Keep (own2 s B) w w' := by
  obtain ⟨l, h, hl⟩ := h
  obtain ⟨xs, dead, left⟩ := S
  cases dead with
  | true =>
    refine (write_dead (doomed := left.isSome) (left := l) h A v).mono fun e w' ⟨u, he, h1, h2, h3⟩ => ⟨u, he, h1, ⟨l, h2, hl⟩, Keep.of_below h3⟩
  | false =>
    cases left with
    | none =>
      refine (write_to h A a hA v ys hv hr ys.length l (.inl ⟨rfl, rfl, rfl⟩) false 0 (.inl ⟨rfl, rfl, rfl⟩)).mono fun e w' ⟨u, he, h1, h2, h3⟩ => ⟨u, he, h1, ⟨l, ?_, fun L hL => by cases hL⟩, h3⟩
      rw [List.take_of_length_le (Nat.le_refl _)] at h2
      exact h2
    | some L =>
      obtain rfl := hl L rfl
      by_cases hle : ys.length ≤ l
      · have e : sput ⟨xs, false, some l⟩ a ys = (⟨splice xs a ys, false, some (l - ys.length)⟩, 0) := by simp [sput, hle]
        rw [e]
        refine (write_to h A a hA v ys hv hr ys.length (l - ys.length) (.inr ⟨rfl, by omega, rfl⟩) false 0 (.inl ⟨rfl, rfl, rfl⟩)).mono fun e w' ⟨u, he, h1, h2, h3⟩ => ⟨u, he, h1, ⟨l - ys.length, ?_, fun L hL => by cases hL; rfl⟩, h3⟩
        rw [List.take_of_length_le (Nat.le_refl _)] at h2
        exact h2
      · have e : sput ⟨xs, false, some l⟩ a ys = (⟨splice xs a (ys.take l), true, some 0⟩, 7) := by simp [sput, hle]
        rw [e]
        refine (write_to h A a hA v ys hv hr l 0 (.inr ⟨rfl, by omega, by omega⟩) true 7 (.inr ⟨by omega, rfl, rfl⟩)).mono fun e w' ⟨u, he, h1, h2, h3⟩ => ⟨u, he, h1, ⟨0, h2, fun L hL => by cases hL; rfl⟩, h3⟩

variable {X : Nat → Prop} {b hh : Nat} {j : Jt}
theorem u32_bv (s : Nat) : IntKind.u32.wrap ((s : Int) + 1) = (((BitVec.ofNat 32 (s + 1)).toNat : Nat) : Int) := by
  rw [IntKind.wrap_u32, BitVec.toNat_ofNat]
  omega
set_option maxRecDepth 100000 in
theorem next_bad (h : StoS w s B S) (H : Jo w X b s hh j) (he : hh = S.xs.length / 2) (v : Value) (d : List (BitVec 8)) (hv : Byts w v d) (c : Int) (hc : jcode hh j d = c) (h0 : c ≠ 0) :
    Calls Tryz.prog 28 #[.pointer (some ⟨b, 0, none⟩), v] w fun e w' => ∃ u, e = .returned (.tuple #[.slice none 0 0, u]) ∧ ErrP w' w.heap.size c 1 u ∧ Below w.heap.size w w' := by
  have hl := h.len
  have hf := H.facts
  have HH := Lib.hid fun w' (hb : Below w.heap.size w w') => half_to (h.below hb) hh he
  obtain ⟨a, n, cc, hb, _⟩ := H
  obtain ⟨p0, p1, p2, p3, p4, p5⟩ := hb.six
  have HP0 := Lib.hid p0
  have HP2 := Lib.hid p2
  have hw := u32_bv j.s
  obtain ⟨sb, hsb⟩ : ∃ sb : BitVec 32, sb = BitVec.ofNat 32 (j.s + 1) := ⟨_, rfl⟩
  rw [← hsb] at hw
  obtain ⟨js, hjs⟩ : ∃ js, js = j.s := ⟨_, rfl⟩
  unfold jcode at hc
  rw [← hjs] at hw p2 HP2 hc hf
  by_cases hd : d.length = 0 ∨ 40 < d.length
  · rw [if_pos hd] at hc
    subst hc
    have HPR := Lib.hid (print_no (sb.toNat : Int) v d w hv hd)
    have HN := Lib.hid (new_form2 1 rfl)
    clear h hb hv hd hsb hjs hf p1 p3 p4 p5 he hl h0
    go_enter Tryz.func28, Tryz.ntmps28
    go_wp2_with fail
    (with_reducible refine HPR.out.mono ?_)
    rintro e w1 ⟨rfl, rfl⟩
    go_wp2_with fail
    (with_reducible refine (HN.out _ _).mono ?_)
    rintro e w1 ⟨g, hgs, rfl, hg, hb⟩
    have HG := Lib.hid hg
    have HGS := Lib.hid hgs
    have HB := Lib.hid hb
    clear hg hb hgs
    go_wp2_with fail
    go_ret2
    exact ⟨_, rfl, ⟨g, _, HGS.out, rfl, HG.out.1, HG.out.2, rfl⟩, HB.out⟩
  · rw [if_neg hd] at hc
    obtain ⟨h1, h2⟩ : 1 ≤ d.length ∧ d.length ≤ 40 := by omega
    have HPR := Lib.hid (print_yes sb v d w hv h1 h2)
    have HN := Lib.hid (new_form2 5 rfl)
    obtain ⟨m, hm⟩ : ∃ m, m = d.length + 8 := ⟨_, rfl⟩
    have HLN := Lib.hid (show (pr sb.toNat d).length = m by rw [len_pr, hm])
    by_cases hx : hh < m ∨ js = 4294967295
    · rw [if_pos (by omega)] at hc
      subst hc
      have hmb : m ≤ 48 := by omega
      have HX := Lib.hid hx
      have HHL := Lib.hid (show hh ≤ 32768 by omega)
      clear h hb hv hd hsb hjs p1 p3 p4 p5 he hl hx h0 h1 h2 hm
      go_enter Tryz.func28, Tryz.ntmps28
      go_wp2_with fail
      (with_reducible refine HPR.out.mono ?_)
      rintro e w1 ⟨r, rfl, ho, hb⟩
      have HB1 := Lib.hid hb
      obtain ⟨ra, rc, er⟩ := ho.byts.len
      rw [HLN.out] at er
      subst er
      have HH1 := Lib.hid (HH.out w1 hb)
      have c0 := below_cell hb p0
      have c2 := below_cell hb p2
      clear ho hb HPR HH p0 p2
      go_wp2_with fail
      (with_reducible refine HH1.out.mono ?_)
      rintro e w1' ⟨rfl, rfl⟩
      by_cases g : hh < m
      · have g1 : decide ((hh : Int) < (m : Int)) = true := decide_eq_true (by omega)
        have g2 : decide (hh < m) = true := decide_eq_true g
        clear g
        go_wp2_with fail
        (with_reducible refine (HN.out _ _).mono ?_)
        rintro e w2 ⟨g, hgs, rfl, hg, hb⟩
        have HG := Lib.hid hg
        have HGS := Lib.hid (Nat.le_trans HB1.out.size hgs)
        have HB := Lib.hid (below_call HB1.out hb)
        clear hg hb hgs
        go_wp2_with fail
        go_ret2
        exact ⟨_, rfl, ⟨g, _, HGS.out, rfl, HG.out.1, HG.out.2, rfl⟩, HB.out⟩
      · have g1 : decide ((hh : Int) < (m : Int)) = false := decide_eq_false (by omega)
        have g2 : decide (hh < m) = false := decide_eq_false g
        obtain rfl : js = 4294967295 := HX.out.resolve_left g
        clear g
        go_wp2_with fail
        (with_reducible refine (HN.out _ _).mono ?_)
        rintro e w2 ⟨g, hgs, rfl, hg, hb⟩
        have HG := Lib.hid hg
        have HGS := Lib.hid (Nat.le_trans HB1.out.size hgs)
        have HB := Lib.hid (below_call HB1.out hb)
        clear hg hb hgs
        go_wp2_with fail
        go_ret2
        exact ⟨_, rfl, ⟨g, _, HGS.out, rfl, HG.out.1, HG.out.2, rfl⟩, HB.out⟩
    · rw [if_neg (by omega)] at hc
      exact absurd hc.symm h0
theorem jcode_ok {hh : Nat} {j : Jt} {d : List (BitVec 8)} (h : jcode hh j d = 0) : 1 ≤ d.length ∧ d.length ≤ 40 ∧ d.length + 8 ≤ hh ∧ j.s ≠ 4294967295 := by
  unfold jcode at h
  split at h
  · cases h
  · split at h
    · cases h
    · omega
set_option maxRecDepth 100000 in
theorem next_ok (h : StoS w s B S) (H : Jo w X b s hh j) (he : hh = S.xs.length / 2) (v : Value) (d : List (BitVec 8)) (hv : Byts w v d) (hc : jcode hh j d = 0) :
    Calls Tryz.prog 28 #[.pointer (some ⟨b, 0, none⟩), v] w fun e w' => ∃ r, e = .returned (.tuple #[r, .nilIface]) ∧ Own w' w.heap.size r (pr (j.s + 1) d) ∧ Below w.heap.size w w' := by
  have hl := h.len
  have hf := H.facts
  obtain ⟨h1, h2, h3, h4⟩ := jcode_ok hc
  have HH := Lib.hid fun w' (hb : Below w.heap.size w w') => half_to (h.below hb) hh he
  obtain ⟨a, n, cc, hb, _⟩ := H
  obtain ⟨p0, p1, p2, p3, p4, p5⟩ := hb.six
  have hw := u32_bv j.s
  obtain ⟨sb, hsb⟩ : ∃ sb : BitVec 32, sb = BitVec.ofNat 32 (j.s + 1) := ⟨_, rfl⟩
  rw [← hsb] at hw
  have HSB := Lib.hid (show sb.toNat = j.s + 1 by rw [hsb, BitVec.toNat_ofNat]; omega)
  rw [← HSB.out]
  obtain ⟨js, hjs⟩ : ∃ js, js = j.s := ⟨_, rfl⟩
  rw [← hjs] at hw p2 hf h4
  have HPR := Lib.hid (print_yes sb v d w hv h1 h2)
  obtain ⟨m, hm⟩ : ∃ m, m = d.length + 8 := ⟨_, rfl⟩
  have HLN := Lib.hid (show (pr sb.toNat d).length = m by rw [len_pr, hm])
  have hmb : m ≤ 48 := by omega
  have HHL := Lib.hid (show hh ≤ 32768 by omega)
  have g1 : decide ((hh : Int) < (m : Int)) = false := decide_eq_false (by omega)
  have g2 : decide (hh < m) = false := decide_eq_false (by omega)
  have g3 : ((js : Int) == 4294967295) = false := by simp; omega
  have g4 : (js == 4294967295) = false := by simpa using h4
  clear h hb hv hsb hjs p1 p3 p4 p5 he hl h1 h2 hm h3 h4 hc
  go_enter Tryz.func28, Tryz.ntmps28
  go_wp2_with fail
  (with_reducible refine HPR.out.mono ?_)
  rintro e w1 ⟨r, rfl, ho, hb⟩
  have HB1 := Lib.hid hb
  have HO1 := Lib.hid ho
  obtain ⟨ra, rc, er⟩ := ho.byts.len
  rw [HLN.out] at er
  subst er
  have HH1 := Lib.hid (HH.out w1 hb)
  have c0 := below_cell hb p0
  have c2 := below_cell hb p2
  clear ho hb HPR HH p0 p2
  go_wp2_with fail
  (with_reducible refine HH1.out.mono ?_)
  rintro e w1' ⟨rfl, rfl⟩
  go_wp2_with fail
  go_ret2
  exact ⟨_, rfl, HO1.out, HB1.out⟩
end Go.Proofs.YtekackglcapppaaGreatDoor
/-
  journal: goOn, turn.
-/
namespace Go.Proofs.YtekackglcapppaaGreatDoor
open Go.RowKit

variable {w : World} {s B : Nat} {S : Ss} {X : Nat → Prop} {b hh : Nat} {j : Jt}
/-- What of a journal and its store changes: the journal's block, and the store's two. -/
def own3 (b s B : Nat) : Nat → Prop := fun k => k = b ∨ k = s ∨ k = B
theorem Keep.own23 {w w' : World} {b s B : Nat} (h : Keep (Go.Proofs.YtekackglcapppaaGreatDoor.own2 s B) w w') : Keep (own3 b s B) w w' := h.mono fun _ hk => .inr hk
theorem Jo.own2 {w w' : World} (H : Jo w X b s hh j) (hX : X s ∧ X B) (hk : Keep (Go.Proofs.YtekackglcapppaaGreatDoor.own2 s B) w w') : Jo w' X b s hh j :=
  H.keep hk (fun h => by rcases h with h | h <;> exact H.not (h ▸ by first | exact hX.1 | exact hX.2)) fun k h => by rcases h with rfl | rfl; exact .inl hX.1; exact .inl hX.2
set_option maxRecDepth 100000 in
theorem goOn_no (h : StoS w s B S) (H : Jo w X b s hh j) (he : hh = S.xs.length / 2) (v : Value) (r : List (BitVec 8)) (hv : Byts w v r) (hr : r.length ≤ 48) (hj : jon S.xs j r.length = false) :
    Calls Tryz.prog 30 #[.pointer (some ⟨b, 0, none⟩), v] w fun e w' => ∃ u, e = .returned u ∧ ErrP w' w.heap.size 5 1 u ∧ Below w.heap.size w w' := by
  have hl := h.len
  have hf := H.facts
  have HH := Lib.hid (half_to h hh he)
  have HC := Lib.hid (clean_to h H he)
  have HN := Lib.hid (new_form2 5 rfl)
  obtain ⟨m, hm⟩ : ∃ m, m = r.length := ⟨_, rfl⟩
  obtain ⟨ra, rc, er⟩ := hv.len
  rw [← hm] at er hr hj
  subst er
  obtain ⟨a, n, cc, hb, _⟩ := H
  obtain ⟨p0, p1, p2, p3, p4, p5⟩ := hb.six
  have hj' : hh < j.e + m ∨ bblank (bnk S.xs j.k) j.e = false := by
    unfold jon at hj
    rw [← he] at hj
    simp only [Bool.and_eq_false_iff, decide_eq_false_iff_not] at hj
    rcases hj with hj | hj
    · exact .inr hj
    · exact .inl (by omega)
  obtain ⟨en, hen⟩ : ∃ en, en = j.e + m := ⟨_, rfl⟩
  have hw : IntKind.i64.wrap ((j.e : Int) + (m : Int)) = (en : Int) := by rw [IntKind.wrap_i64]; omega
  rw [← hen] at hj'
  obtain ⟨bl, hbl⟩ : ∃ bl, bl = bblank (bnk S.xs j.k) j.e := ⟨_, rfl⟩
  rw [← hbl] at HC hj'
  obtain ⟨je, hje⟩ : ∃ je, je = j.e := ⟨_, rfl⟩
  rw [← hje] at p4 hw
  clear h hb hf hv hm hj hje hen hbl he p1 p2 p3 p5
  by_cases hx : hh < en
  · have g1 : decide ((hh : Int) < (en : Int)) = true := decide_eq_true (by omega)
    have g2 : decide (hh < en) = true := decide_eq_true hx
    clear hx hj' hl
    go_enter Tryz.func30, Tryz.ntmps30
    go_wp2_with fail
    (with_reducible refine HH.out.mono ?_)
    rintro e w1 ⟨rfl, rfl⟩
    go_wp2_with fail
    (with_reducible refine (HN.out _ _).mono ?_)
    rintro e w2 ⟨g, hgs, rfl, hg, hb⟩
    have HG := Lib.hid hg
    have HGS := Lib.hid hgs
    have HB := Lib.hid hb
    clear hg hb hgs
    go_wp2_with fail
    go_ret
    exact ⟨_, rfl, ⟨g, _, HGS.out, rfl, HG.out.1, HG.out.2, rfl⟩, HB.out⟩
  · have g1 : decide ((hh : Int) < (en : Int)) = false := decide_eq_false (by omega)
    have g2 : decide (hh < en) = false := decide_eq_false hx
    obtain rfl := hj'.resolve_left hx
    clear hx hj' hl
    go_enter Tryz.func30, Tryz.ntmps30
    go_wp2_with fail
    (with_reducible refine HH.out.mono ?_)
    rintro e w1 ⟨rfl, rfl⟩
    go_wp2_with fail
    (with_reducible refine HC.out.mono ?_)
    rintro e w1 ⟨rfl, hb⟩
    have HB1 := Lib.hid hb
    clear hb
    go_wp2_with fail
    (with_reducible refine (HN.out _ _).mono ?_)
    rintro e w2 ⟨g, hgs, rfl, hg, hb⟩
    have HG := Lib.hid hg
    have HGS := Lib.hid (Nat.le_trans HB1.out.size hgs)
    have HB := Lib.hid (below_call HB1.out hb)
    clear hg hb hgs
    go_wp2_with fail
    go_ret
    exact ⟨_, rfl, ⟨g, _, HGS.out, rfl, HG.out.1, HG.out.2, rfl⟩, HB.out⟩
/-- What is told of a write: none, and the journal is y; or that the store is dead, and it is n. -/
def Told (w : World) (lo : Nat) (u : Value) (c : Int) (X : Nat → Prop) (b s h : Nat) (y n : Jt) : Prop := (c = 0 ∧ u = .nilIface ∧ Jo w X b s h y) ∨ (c = 7 ∧ ErrP w lo 7 2 u ∧ Jo w X b s h n)
set_option maxRecDepth 100000 in
theorem goOn_yes (h : StoS w s B S) (H : Jo w X b s hh j) (hX : X s ∧ X B) (he : hh = S.xs.length / 2) (v : Value) (r : List (BitVec 8)) (hv : Byts w v r) (_ : r.length ≤ 48) (hj : jon S.xs j r.length = true) (S' : Ss) (c : Int) (hp : sput S (j.k * hh + j.e) r = (S', c)) :
    Calls Tryz.prog 30 #[.pointer (some ⟨b, 0, none⟩), v] w fun e w' => ∃ u, e = .returned u ∧ Told w' w.heap.size u c X b s hh ⟨j.k, j.s, j.d, j.e + r.length, j.is⟩ j ∧ StoS w' s B S' ∧ Keep (own3 b s B) w w' := by
  have hl := h.len
  have hf := H.facts
  have HH := Lib.hid (half_to h hh he)
  have HC := Lib.hid (clean_to h H he)
  have HJ := Lib.hid H
  have HXX := Lib.hid hX
  have HF := Lib.hid hf
  obtain ⟨m, hm⟩ : ∃ m, m = r.length := ⟨_, rfl⟩
  have HV := Lib.hid hv
  obtain ⟨ra, rc, er⟩ := hv.len
  have hj' : j.e + m ≤ hh ∧ bblank (bnk S.xs j.k) j.e = true := by
    unfold jon at hj
    rw [← he, ← hm] at hj
    simp only [Bool.and_eq_true, decide_eq_true_eq] at hj
    exact ⟨hj.2, hj.1⟩
  have HW : Hid (∀ w', Below w.heap.size w w' → ∀ A : Int, A = ((j.k * hh + j.e : Nat) : Int) → Calls Tryz.prog 21 #[.pointer (some ⟨s, 0, none⟩), .int .i64 A, v] w' fun e w2 => ∃ v, e = .returned v ∧ ErrAt w2 w'.heap.size v c ∧ StoS w2 s B S' ∧ Keep (own2 s B) w' w2) := Lib.hid fun w' hb A hA => by
    have := write_S (h.below hb) A (j.k * hh + j.e) hA v r (hv.below hb) (by rw [← hm]; rcases show j.k = 0 ∨ j.k = 1 by omega with e | e <;> rw [e] <;> omega)
    rw [hp] at this
    exact this
  have HCO : Hid (c = 0 ∨ c = 7) := Lib.hid (by have := sput_code S (j.k * hh + j.e) r; rw [hp] at this; exact this)
  rw [← hm] at er
  rw [← hm]
  subst er
  obtain ⟨a, n, cc, hb, _⟩ := H
  obtain ⟨p0, p1, p2, p3, p4, p5⟩ := hb.six
  obtain ⟨en, hen⟩ : ∃ en, en = j.e + m := ⟨_, rfl⟩
  have HEN := Lib.hid (show j.e + m = en from hen.symm)
  have hw : IntKind.i64.wrap ((j.e : Int) + (m : Int)) = (en : Int) := by rw [IntKind.wrap_i64]; omega
  obtain ⟨F, hF⟩ : ∃ F : Int, F = ((j.k * hh : Nat) : Int) := ⟨_, rfl⟩
  obtain ⟨A, hA⟩ : ∃ A : Int, A = ((j.k * hh + j.e : Nat) : Int) := ⟨_, rfl⟩
  have hwA : IntKind.i64.wrap (F + (j.e : Int)) = A := by
    rw [IntKind.wrap_i64, hF, hA]
    rcases show j.k = 0 ∨ j.k = 1 by omega with e | e <;> rw [e] <;> omega
  rw [← hF] at p1
  have HA := Lib.hid hA
  have g1 : decide ((hh : Int) < (en : Int)) = false := decide_eq_false (by omega)
  have g2 : decide (hh < en) = false := decide_eq_false (by omega)
  have HME := Lib.hid (show en ≤ hh by omega)
  rw [hj'.2] at HC
  obtain ⟨je, hje⟩ : ∃ je, je = j.e := ⟨_, rfl⟩
  rw [← hje] at p4 hw hwA
  clear h hb hf hv hm hj hje hen he hj' hA hF hX hp hl p2 p3 p5
  go_enter Tryz.func30, Tryz.ntmps30
  go_wp2_with fail
  (with_reducible refine HH.out.mono ?_)
  rintro e w1 ⟨rfl, rfl⟩
  go_wp2_with fail
  (with_reducible refine HC.out.mono ?_)
  rintro e w1 ⟨rfl, hb⟩
  have HB1 := Lib.hid hb
  have c0 := below_cell hb p0
  have c1 := below_cell hb p1
  have c4 := below_cell hb p4
  clear hb p0 p1 p4
  go_wp2_with fail
  go_still_tail 15, (by kernel_rfl)
  change wpList _ _ _ _ _ w1.drew
  have HB2 := Lib.hid (below_call HB1.out (bel_drew w1))
  generalize w1.drew = w2 at *
  go_wp2_with fail
  (with_reducible refine (HW.out w2 HB2.out A HA.out).mono ?_)
  rintro e w3 ⟨u, rfl, hu, hs, hk⟩
  have HU := Lib.hid hu
  have HS3 := Lib.hid hs
  have HK3 := Lib.hid (Keep.trans (F := own3 b s B) (Keep.of_below HB2.out) hk.own23 (fun _ h => .inl h))
  have HJ3 := Lib.hid ((HJ.out.below HB2.out).own2 HXX.out hk)
  have HZ3 := Lib.hid hk.size
  have hz2 := HB2.out.size
  have HZ := Lib.hid hz2
  clear hu hs hk hz2 HW c0 c1 c4
  rcases HCO.out with rfl | rfl
  · obtain rfl := HU.out.nil
    have hJ := HJ3.out
    obtain ⟨a3, n3, cc3, hb3, hv3, hX3, hXb3, r3⟩ := hJ
    obtain ⟨q0, q1, q2, q3, q4, q5⟩ := hb3.six
    have f4 := hb3.frz 4
    have HBK := Lib.hid (hb3.set_ 4 (.int .i64 (en : Int)))
    have hks : Keep (fun k => k = b) w3 (w3.setCell ⟨b, 4, none⟩ (.int .i64 (en : Int))) := Keep.set_ (F := fun k => k = b) w3 b 4 _ rfl
    have HV3 := Lib.hid (hv3.keep hks fun ad n c e => by
      simp only [Value.slice.injEq] at e
      obtain ⟨e1, e2, _⟩ := e
      subst e2
      exact (hX3 ad e1).imp id fun ⟨_, h2, _⟩ h => h2 h)
    have HS4 := Lib.hid (HS3.out.keep hks (fun h => HJ.out.not (h ▸ HXX.out.1)) (fun h => HJ.out.not (h ▸ HXX.out.2)))
    have HK4 := Lib.hid (HK3.out.store b 4 (.int .i64 (en : Int)) (.inl rfl))
    have HX3 := Lib.hid hX3
    have HXb := Lib.hid hXb3
    have HR3 := Lib.hid r3
    clear hks hv3 hX3 hXb3 r3 hb3 q0 q1 q2 q3 q5
    go_wp2_with fail
    go_ret
    refine ⟨_, rfl, .inl ⟨rfl, by simp, a3, n3, cc3, ?_, HV3.out, fun ad e => (HX3.out ad e).imp id fun ⟨h1, h2, h3⟩ => ⟨h1, h2, by simpa [World.setCell] using h3⟩, HXb.out, HF.out.1, HF.out.2.1, HF.out.2.2.1, ?_⟩, HS4.out, HK4.out⟩
    · have := HBK.out
      rw [HEN.out]
      simpa using this
    · show j.e + m ≤ hh
      rw [HEN.out]; exact HME.out
  · have HP := Lib.hid ((HU.out.errP (by decide)).mono HZ.out)
    obtain ⟨g, rfl⟩ : ∃ g, u = .iface 66 (.pointer (some ⟨g, 0, none⟩)) := by
      obtain ⟨g, _, _, h, _⟩ := HP.out
      exact ⟨g, h⟩
    have HWR := Lib.hid (fun t => wrapP_any HP.out (Nat.le_trans HZ.out (Nat.le_trans (show w2.heap.size ≤ w3.heap.size from HZ3.out) (Nat.le_refl _))) t)
    clear HU
    go_wp2_with fail
    (with_reducible refine (HWR.out _).mono ?_)
    rintro e w4 ⟨r, rfl, hr, hb⟩
    have HR := Lib.hid hr
    have HB := Lib.hid hb
    clear hr hb
    go_wp2_with fail
    go_ret
    exact ⟨_, rfl, .inr ⟨rfl, HR.out, HJ3.out.below HB.out⟩, HS3.out.below HB.out, HK3.out.trans (Keep.of_below (F := fun _ => False) HB.out) (fun _ h => h.elim)⟩
end Go.Proofs.YtekackglcapppaaGreatDoor
/-
  journal: turn.
-/
namespace Go.Proofs.YtekackglcapppaaGreatDoor
open Go.RowKit

variable {w : World} {s B : Nat} {S : Ss} {X : Nat → Prop} {b hh : Nat} {j : Jt}
set_option maxHeartbeats 1000000 in
set_option maxRecDepth 100000 in
theorem turn_to (h : StoS w s B S) (H : Jo w X b s hh j) (hX : X s ∧ X B) (he : hh = S.xs.length / 2) (v : Value) (r : List (BitVec 8)) (hv : ∀ w', Keep (own3 b s B) w w' → Byts w' v r) (hr1 : 1 ≤ r.length) (hr : r.length ≤ hh) (P Q : Ss) (c c' : Int) (hp : sput S ((1 - j.k) * hh) (List.replicate hh 255#8) = (P, c)) (hq : sput P ((1 - j.k) * hh) r = (Q, c')) (cf : Int) (Sf : Ss) (hcf : (c = 0 ∧ cf = c' ∧ Sf = Q) ∨ (c = 7 ∧ cf = 7 ∧ Sf = P)) :
    Calls Tryz.prog 32 #[.pointer (some ⟨b, 0, none⟩), v] w fun e w' => ∃ u, e = .returned u ∧ Told w' w.heap.size u cf X b s hh ⟨1 - j.k, j.s, j.d, r.length, j.is⟩ j ∧ StoS w' s B Sf ∧ Keep (own3 b s B) w w' := by
  have hl := h.len
  have hf := H.facts
  have HH := Lib.hid (half_to h hh he)
  have HJ := Lib.hid H
  have HXX := Lib.hid hX
  have HF := Lib.hid hf
  have HCF := Lib.hid hcf
  obtain ⟨m, hm⟩ : ∃ m, m = r.length := ⟨_, rfl⟩
  have HV := Lib.hid hv
  obtain ⟨ra, rc, er⟩ := (hv w (Keep.refl _ w)).len
  obtain ⟨A, hA⟩ : ∃ A : Nat, A = (1 - j.k) * hh := ⟨_, rfl⟩
  have hAle : A + hh ≤ S.xs.length := by rw [hA]; rcases show j.k = 0 ∨ j.k = 1 by omega with e | e <;> rw [e] <;> omega
  rw [← hA] at hp hq
  have hPl : P.xs.length = S.xs.length := by have := sput_len S A (List.replicate hh 255#8) (by simpa using hAle); rw [hp] at this; exact this
  have HW1 : Hid (∀ w' u, StoS w' s B S → Byts w' u (List.replicate hh 255#8) → Calls Tryz.prog 21 #[.pointer (some ⟨s, 0, none⟩), .int .i64 (A : Int), u] w' fun e w2 => ∃ v, e = .returned v ∧ ErrAt w2 w'.heap.size v c ∧ StoS w2 s B P ∧ Keep (own2 s B) w' w2) := Lib.hid fun w' u hs hu => by
    have := write_S hs (A : Int) A rfl u _ hu (by simpa using hAle)
    rw [hp] at this
    exact this
  have HW2 : Hid (∀ w', StoS w' s B P → Byts w' v r → Calls Tryz.prog 21 #[.pointer (some ⟨s, 0, none⟩), .int .i64 (A : Int), v] w' fun e w2 => ∃ v, e = .returned v ∧ ErrAt w2 w'.heap.size v c' ∧ StoS w2 s B Q ∧ Keep (own2 s B) w' w2) := Lib.hid fun w' hs hu => by
    have := write_S hs (A : Int) A rfl v r hu (by rw [hPl]; omega)
    rw [hq] at this
    exact this
  have HC1 : Hid (c = 0 ∨ c = 7) := Lib.hid (by have := sput_code S A (List.replicate hh 255#8); rw [hp] at this; exact this)
  have HC2 : Hid (c' = 0 ∨ c' = 7) := Lib.hid (by have := sput_code P A r; rw [hq] at this; exact this)
  have HHH := Lib.hid (show 1 ≤ hh ∧ hh ≤ 65536 by omega)
  rw [← hm] at er
  rw [← hm]
  subst er
  have HME := Lib.hid (show m ≤ hh by omega)
  have HSd := Lib.hid (h.below (bel_drew w))
  have HJd := Lib.hid (H.below (bel_drew w))
  have HBd := Lib.hid (bel_drew w)
  obtain ⟨a, n, cc, hb, _⟩ := H
  obtain ⟨p0, p1, p2, p3, p4, p5⟩ := (hb.below (bel_drew w)).six
  have p0' := hb.six.1
  have p1' := hb.six.2.1
  obtain ⟨F, hF⟩ : ∃ F : Int, F = ((j.k * hh : Nat) : Int) := ⟨_, rfl⟩
  have hwA : IntKind.i64.wrap ((hh : Int) - F) = (A : Int) := by
    rw [IntKind.wrap_i64, hF, hA]
    rcases show j.k = 0 ∨ j.k = 1 by omega with e | e <;> rw [e] <;> omega
  rw [← hF] at p1'
  have HA := Lib.hid hA
  clear h hb hf hv hm he hF hX hp hq hl p1 p2 p3 p4 p5 hr hr1 hAle hPl hA hcf
  go_enter Tryz.func32, Tryz.ntmps32
  go_wp2_with fail
  (with_reducible refine HH.out.mono ?_)
  rintro e w' ⟨rfl, rfl⟩
  go_wp2_with fail
  refine wp_region_held_drew (S := fun w' => w'.cell? ⟨b, 0, none⟩ = some (.pointer (some ⟨s, 0, none⟩))) (by kernel_rfl) p0 (fun hHeld => ?_)
  generalize w.drew = w1 at *
  refine wpAnyH_take (i := 0) (oi := ?_) (v := ?_) ?_ (by kernel_rfl) (by kernel_rfl) (by kernel_rfl) ?_ (Or.inl ⟨?_, ?_⟩) hHeld ?_
  rotate_left 2
  · (simp only [List.getElem?_toArray, List.getElem?_cons_zero]; rfl)
  · exact (fun _ _ _ h => h)
  · rfl
  · (intro w hSw; (try dsimp only at hSw); have z0 := hSw; go_simp; try with_reducible rfl)
  (try simp only [Act.put, List.setIfInBounds_toArray, List.set_cons_zero, List.set_cons_succ])
  refine wpAnyH_take (i := 1) (oi := ?_) (v := ?_) ?_ (by kernel_rfl) (by kernel_rfl) (by kernel_rfl) ?_ (Or.inl ⟨?_, ?_⟩) hHeld ?_
  rotate_left 2
  · (simp only [List.getElem?_toArray, List.getElem?_cons_zero, List.getElem?_cons_succ]; rfl)
  · exact (fun _ _ _ h => h)
  · rfl
  · (intro w hSw; (try dsimp only at hSw); have z0 := hSw; go_simp; try with_reducible rfl)
  (try simp only [Act.put, List.setIfInBounds_toArray, List.set_cons_zero, List.set_cons_succ])
  refine wpAnyH_take (i := 2) (oi := ?_) (v := ?_) ?_ (by kernel_rfl) (by kernel_rfl) (by kernel_rfl) ?_ (Or.inl ⟨?_, ?_⟩) hHeld ?_
  rotate_left 2
  · (simp only [List.getElem?_toArray, List.getElem?_cons_zero, List.getElem?_cons_succ]; rfl)
  · exact (fun _ _ _ h => h)
  · rfl
  · (intro w hSw; (try dsimp only at hSw); have z0 := hSw; go_simp; try with_reducible rfl)
  (try simp only [Act.put, List.setIfInBounds_toArray, List.set_cons_zero, List.set_cons_succ])
  refine wpAnyH_take (i := 3) (oi := ?_) (v := ?_) ?_ (by kernel_rfl) (by kernel_rfl) (by kernel_rfl) ?_ (Or.inl ⟨?_, ?_⟩) hHeld ?_
  rotate_left 2
  · (simp only [List.getElem?_toArray, List.getElem?_cons_zero, List.getElem?_cons_succ]; rfl)
  · exact (fun _ _ _ h => h)
  · rfl
  · (intro w hSw; (try dsimp only at hSw); have z0 := hSw; go_simp; try with_reducible rfl)
  (try simp only [Act.put, List.setIfInBounds_toArray, List.set_cons_zero, List.set_cons_succ])
  refine wpAnyH_take (i := 4) (oi := ?_) (v := ?_) ?_ (by kernel_rfl) (by kernel_rfl) (by kernel_rfl) ?_ (Or.inl ⟨?_, ?_⟩) hHeld ?_
  rotate_left 2
  · (simp only [List.getElem?_toArray, List.getElem?_cons_zero, List.getElem?_cons_succ]; rfl)
  · exact (fun _ _ _ h => h)
  · rfl
  · (intro w hSw; (try dsimp only at hSw); have z0 := hSw; go_simp; try with_reducible rfl)
  (try simp only [Act.put, List.setIfInBounds_toArray, List.set_cons_zero, List.set_cons_succ])
  refine wpAnyH_take (i := 6) (oi := ?_) (v := ?_) ?_ (by kernel_rfl) (by kernel_rfl) (by kernel_rfl) ?_ (Or.inl ⟨?_, ?_⟩) hHeld ?_
  rotate_left 2
  · (simp only [List.getElem?_toArray, List.getElem?_cons_zero, List.getElem?_cons_succ]; rfl)
  · exact (fun _ _ _ h => h)
  · rfl
  · (intro w hSw; (try dsimp only at hSw); have z0 := hSw; go_simp; try with_reducible rfl)
  (try simp only [Act.put, List.setIfInBounds_toArray, List.set_cons_zero, List.set_cons_succ])
  refine wpAnyH_ready (rs := [5]) (by kernel_rfl) (by simp) ?_
  refine AllReadyH.cons (o := ?_) ?_ (fun K hK => ?_) AllReadyH.nil
  rotate_left
  · (simp only [List.getElem?_toArray, List.getElem?_cons_zero, List.getElem?_cons_succ]; rfl)
  go_simp
  have HBa := Lib.hid (below_alloc (Below.refl _ w1) (.cells #[.int .u8 255] 5))
  have HVa := Lib.hid (lit_byts w1 #[.int .u8 255] 1 (0, 0) [255#8] (by rfl) rfl)
  have HR : Hid (Calls Tryz.prog 37 #[.slice (some ⟨w1.heap.size, 0, none⟩) 1 1, .int .i64 (hh : Int)] (w1.alloc (.cells #[.int .u8 255] 5)) fun e w' => e = .returned (.slice (some ⟨w1.heap.size + 1, 0, none⟩) hh hh) ∧ Room w' (w1.heap.size + 1) (List.replicate hh 255#8) ∧ Below (w1.heap.size + 1) (w1.alloc (.cells #[.int .u8 255] 5)) w') := Lib.hid (by
    have := repeat_some _ 255#8 hh HHH.out.2 HHH.out.1 _ HVa.out
    simpa using this)
  have kb : (w1.alloc (.cells #[.int .u8 255] 5)).cell? ⟨b, 0, none⟩ = some (.pointer (some ⟨s, 0, none⟩)) := below_cell HBa.out p0
  refine hK.out _ _ kb (fun hHeld => ?_)
  clear hK K
  (try simp only [Act.put, List.setIfInBounds_toArray, List.set_cons_zero, List.set_cons_succ])
  refine wpAnyH_ready (rs := [7]) (by kernel_rfl) (by simp) ?_
  refine AllReadyH.cons (o := ?_) ?_ (fun K hK => ?_) AllReadyH.nil
  rotate_left
  · (simp only [List.getElem?_toArray, List.getElem?_cons_zero, List.getElem?_cons_succ]; rfl)
  go_simp
  (with_reducible refine (HR.out).mono ?_)
  rintro e w2 ⟨rfl, hroom, hb⟩
  have HB2 := Lib.hid (HBa.out.trans (hb.mono (Nat.le_succ _)))
  have HRB := Lib.hid (show Byts w2 (.slice (some ⟨w1.heap.size + 1, 0, none⟩) hh hh) (List.replicate hh 255#8) by have := hroom.byts; simpa using this)
  have HS2 := Lib.hid (HSd.out.below HB2.out)
  have kk : w2.cell? ⟨b, 0, none⟩ = some (.pointer (some ⟨s, 0, none⟩)) := below_cell HB2.out p0
  clear hroom hb HR HVa HBa
  go_wp2_with fail
  refine hK.out _ _ kk (fun hHeld => ?_)
  clear hK K
  (try simp only [Act.put, List.setIfInBounds_toArray, List.set_cons_zero, List.set_cons_succ])
  refine wpAnyH_ready (rs := [8]) (by kernel_rfl) (by simp) ?_
  refine AllReadyH.cons (o := ?_) ?_ (fun K hK => ?_) AllReadyH.nil
  rotate_left
  · (simp only [List.getElem?_toArray, List.getElem?_cons_zero, List.getElem?_cons_succ]; rfl)
  go_simp
  (with_reducible refine ((HW1.out w2 _ HS2.out HRB.out)).mono ?_)
  rintro e w3 ⟨u, rfl, hu, hs, hk⟩
  have HU := Lib.hid hu
  have HS3 := Lib.hid hs
  have HK3 := Lib.hid (Keep.trans (F := own3 b s B) (Keep.of_below (below_call HBd.out HB2.out)) hk.own23 (fun _ h => .inl h))
  have HJ3 := Lib.hid ((HJd.out.below HB2.out).own2 HXX.out hk)
  have HZ := Lib.hid (Nat.le_trans HBd.out.size HB2.out.size)
  have HZ3 := Lib.hid hk.size
  have kk3 : w3.cell? ⟨b, 0, none⟩ = some (.pointer (some ⟨s, 0, none⟩)) := hk.cell kk (fun h => HJ.out.not (by rcases h with h | h; exact h ▸ HXX.out.1; exact h ▸ HXX.out.2))
  clear hu hs hk
  go_wp2_with fail
  refine hK.out _ _ kk3 (fun hHeld => ?_)
  clear hK K
  (try simp only [Act.put, List.setIfInBounds_toArray, List.set_cons_zero, List.set_cons_succ])
  refine wpAnyH_take (i := 9) (oi := ?_) (v := ?_) ?_ (by kernel_rfl) (by kernel_rfl) (by kernel_rfl) ?_ (Or.inl ⟨?_, ?_⟩) hHeld ?_
  rotate_left 2
  · (simp only [List.getElem?_toArray, List.getElem?_cons_zero, List.getElem?_cons_succ]; rfl)
  · exact (fun _ _ _ h => h)
  · rfl
  · (intro w hSw; (try dsimp only at hSw); go_simp; try with_reducible rfl)
  (try simp only [Act.put, List.setIfInBounds_toArray, List.set_cons_zero, List.set_cons_succ])
  refine wpAnyH_done (by kernel_rfl) ?_ _
  clear kk hHeld p0 p0' p1'
  rcases HC1.out with rfl | rfl
  · obtain rfl := HU.out.nil
    obtain ⟨rfl, rfl⟩ : cf = c' ∧ Sf = Q := by
      rcases HCF.out with h | h
      · exact h.2
      · exact absurd h.1 (by decide)
    have HV3 := Lib.hid (HV.out w3 HK3.out)
    go_wp2_with fail
    (with_reducible refine (HW2.out w3 HS3.out HV3.out).mono ?_)
    rintro e w4 ⟨u4, rfl, hu, hs, hk⟩
    have HU4 := Lib.hid hu
    have HS4 := Lib.hid hs
    have HK4 := Lib.hid (Keep.trans (F := own3 b s B) HK3.out hk.own23 (fun _ h => .inl h))
    have HJ4 := Lib.hid (HJ3.out.own2 HXX.out hk)
    have HZ4 := Lib.hid hk.size
    clear hu hs hk HU HW1 HW2 kk3
    rcases HC2.out with rfl | rfl
    · obtain rfl := HU4.out.nil
      have hJ := HJ4.out
      obtain ⟨a3, n3, cc3, hb3, hv3, hX3, hXb3, r3⟩ := hJ
      obtain ⟨q0, q1, q2, q3, q4, q5⟩ := hb3.six
      have f1 := hb3.frz 1
      have f4 := hb3.frz 4
      have HBK := Lib.hid ((hb3.set_ 1 (.int .i64 (A : Int))).set_ 4 (.int .i64 (m : Int)))
      have hks : Keep (fun k => k = b) w4 ((w4.setCell ⟨b, 1, none⟩ (.int .i64 (A : Int))).setCell ⟨b, 4, none⟩ (.int .i64 (m : Int))) := ((Keep.refl (fun k => k = b) w4).store b 1 _ rfl).store b 4 _ rfl
      have HV5 := Lib.hid (hv3.keep hks fun ad n c e => by
        simp only [Value.slice.injEq] at e
        obtain ⟨e1, e2, _⟩ := e
        subst e2
        exact (hX3 ad e1).imp id fun ⟨_, h2, _⟩ h => h2 h)
      have HS5 := Lib.hid (HS4.out.keep hks (fun h => HJ.out.not (h ▸ HXX.out.1)) (fun h => HJ.out.not (h ▸ HXX.out.2)))
      have HK5 := Lib.hid ((HK4.out.store b 1 (.int .i64 (A : Int)) (.inl rfl)).store b 4 (.int .i64 (m : Int)) (.inl rfl))
      have HX3 := Lib.hid hX3
      have HXb := Lib.hid hXb3
      clear hks hv3 hX3 hXb3 r3 hb3 q0 q2 q3 q5
      go_wp2_with fail
      go_ret
      refine ⟨_, rfl, .inl ⟨rfl, by simp, a3, n3, cc3, ?_, HV5.out, fun ad e => (HX3.out ad e).imp id fun ⟨h1, h2, h3⟩ => ⟨h1, h2, by simpa [World.setCell] using h3⟩, HXb.out, HF.out.1, by show 1 - j.k ≤ 1; omega, HF.out.2.2.1, HME.out⟩, HS5.out, HK5.out⟩
      have := HBK.out
      rw [← HA.out]
      simpa using this
    · have HP := Lib.hid ((HU4.out.errP (by decide)).mono (Nat.le_trans HZ.out HZ3.out))
      obtain ⟨g, rfl⟩ : ∃ g, u4 = .iface 66 (.pointer (some ⟨g, 0, none⟩)) := by
        obtain ⟨g, _, _, h, _⟩ := HP.out
        exact ⟨g, h⟩
      have HWR := Lib.hid (fun t => wrapP_any HP.out (Nat.le_trans HZ.out (Nat.le_trans HZ3.out HZ4.out)) t)
      clear HU4
      go_wp2_with fail
      (with_reducible refine (HWR.out _).mono ?_)
      rintro e w9 ⟨r9, rfl, hr, hb⟩
      have HR9 := Lib.hid hr
      have HB9 := Lib.hid hb
      clear hr hb
      go_wp2_with fail
      go_ret
      exact ⟨_, rfl, .inr ⟨rfl, by simpa using HR9.out, HJ4.out.below HB9.out⟩, HS4.out.below HB9.out, HK4.out.trans (Keep.of_below (F := fun _ => False) HB9.out) (fun _ h => h.elim)⟩
  · obtain ⟨rfl, rfl⟩ : cf = 7 ∧ Sf = P := by
      rcases HCF.out with h | h
      · exact absurd h.1 (by decide)
      · exact h.2
    have HP := Lib.hid ((HU.out.errP (by decide)).mono HZ.out)
    obtain ⟨g, rfl⟩ : ∃ g, u = .iface 66 (.pointer (some ⟨g, 0, none⟩)) := by
      obtain ⟨g, _, _, h, _⟩ := HP.out
      exact ⟨g, h⟩
    have HWR := Lib.hid (fun t => wrapP_any HP.out (Nat.le_trans HZ.out HZ3.out) t)
    clear HU
    go_wp2_with fail
    (with_reducible refine (HWR.out _).mono ?_)
    rintro e w9 ⟨r9, rfl, hr, hb⟩
    have HR9 := Lib.hid hr
    have HB9 := Lib.hid hb
    clear hr hb
    go_wp2_with fail
    go_ret
    exact ⟨_, rfl, .inr ⟨rfl, by simpa using HR9.out, HJ3.out.below HB9.out⟩, HS3.out.below HB9.out, HK3.out.trans (Keep.of_below (F := fun _ => False) HB9.out) (fun _ h => h.elim)⟩
end Go.Proofs.YtekackglcapppaaGreatDoor
/-
  journal: Append.
-/
namespace Go.Proofs.YtekackglcapppaaGreatDoor
open Go.RowKit

/-- The error u is of the code c (0: none), made at or behind lo. -/
def ErrJ (w : World) (lo : Nat) (u : Value) (c : Int) : Prop := (u = .nilIface ∧ c = 0) ∨ (c ≠ 0 ∧ ∃ d, ErrP w lo c (d + 1) u)
theorem ErrJ.keep {w w' : World} {lo : Nat} {u : Value} {c : Int} (h : ErrJ w lo u c) {G : Nat → Prop} (hk : Keep G w w') (hG : ∀ g, G g → g < lo) : ErrJ w' lo u c := by
  rcases h with h | ⟨h0, d, h⟩
  · exact .inl h
  · exact .inr ⟨h0, d, h.keep hk hG⟩
theorem ErrJ.below {w w' : World} {lo : Nat} {u : Value} {c : Int} (h : ErrJ w lo u c) (hb : Below w.heap.size w w') : ErrJ w' lo u c := h.keep (Keep.of_below (F := fun _ => False) hb) (fun _ h => h.elim)
theorem ErrJ.nil {w : World} {lo : Nat} {u : Value} (h : ErrJ w lo u 0) : u = .nilIface := by
  rcases h with h | ⟨h0, _⟩
  · exact h.1
  · exact absurd rfl h0
theorem ErrJ.some {w : World} {lo : Nat} {u : Value} {c : Int} (h : ErrJ w lo u c) (hc : c ≠ 0) : ∃ g, u = .iface 66 (.pointer (some ⟨g, 0, none⟩)) := by
  rcases h with ⟨_, h0⟩ | ⟨_, d, g, _, _, h, _⟩
  · exact absurd h0 hc
  · exact ⟨g, h⟩
theorem ErrJ.code {w : World} {lo : Nat} {u : Value} {c : Int} (h : ErrJ w lo u c) : Calls Tryz.prog 9 #[u] w fun e w' => e = .returned (.int .i64 c) ∧ w = w' := by
  rcases h with ⟨rfl, rfl⟩ | ⟨h0, d, h⟩
  · exact code_nil w
  · exact code_err (h.errV h0)

variable {w : World} {s B : Nat} {S : Ss} {X : Nat → Prop} {b hh : Nat} {j : Jt}
theorem japp_bad {d : List (BitVec 8)} {S' : Ss} {j' : Jt} {c : Int} (hp : japp S j d = (S', j', c)) (h : jcode (S.xs.length / 2) j d ≠ 0) : S' = S ∧ j' = j ∧ c = jcode (S.xs.length / 2) j d := by
  unfold japp at hp
  rw [if_pos h] at hp
  simp only [Prod.mk.injEq] at hp
  exact ⟨hp.1.symm, hp.2.1.symm, hp.2.2.symm⟩
theorem japp_on {d : List (BitVec 8)} {S' : Ss} {j' : Jt} {c : Int} (hp : japp S j d = (S', j', c)) (h : jcode (S.xs.length / 2) j d = 0) (hj : jon S.xs j (d.length + 8) = true) :
    sput S (j.k * (S.xs.length / 2) + j.e) (pr (j.s + 1) d) = (S', c) ∧ j' = if c = 0 then ⟨j.k, j.s + 1, d, j.e + (d.length + 8), true⟩ else j := by
  unfold japp at hp
  rw [if_neg (by simpa using h), if_pos hj] at hp
  simp only [Prod.mk.injEq] at hp
  obtain ⟨rfl, rfl, rfl⟩ := hp
  exact ⟨rfl, rfl⟩
theorem japp_turn {d : List (BitVec 8)} {S' : Ss} {j' : Jt} {c : Int} (hp : japp S j d = (S', j', c)) (h : jcode (S.xs.length / 2) j d = 0) (hj : jon S.xs j (d.length + 8) = false) :
    ∃ P Q c1 c2, sput S ((1 - j.k) * (S.xs.length / 2)) (List.replicate (S.xs.length / 2) 255#8) = (P, c1) ∧ sput P ((1 - j.k) * (S.xs.length / 2)) (pr (j.s + 1) d) = (Q, c2) ∧ ((c1 = 0 ∧ c = c2 ∧ S' = Q) ∨ (c1 = 7 ∧ c = 7 ∧ S' = P)) ∧ j' = if c = 0 then ⟨1 - j.k, j.s + 1, d, d.length + 8, true⟩ else j := by
  unfold japp at hp
  rw [if_neg (by simpa using h), if_neg (by simpa using hj)] at hp
  refine ⟨_, _, _, _, rfl, rfl, ?_⟩
  rcases sput_code S ((1 - j.k) * (S.xs.length / 2)) (List.replicate (S.xs.length / 2) 255#8) with h1 | h1
  · simp only [h1] at hp
    rw [if_neg (by decide)] at hp
    simp only [Prod.mk.injEq] at hp
    obtain ⟨rfl, rfl, rfl⟩ := hp
    exact ⟨.inl ⟨h1, rfl, rfl⟩, rfl⟩
  · simp only [h1] at hp
    rw [if_pos (by decide)] at hp
    simp only [Prod.mk.injEq] at hp
    obtain ⟨rfl, rfl, rfl⟩ := hp
    exact ⟨.inr ⟨h1, rfl, rfl⟩, by rw [if_neg (by decide)]⟩

set_option maxHeartbeats 4000000 in
set_option maxRecDepth 100000 in
theorem append_to (h : StoS w s B S) (H : Jo w X b s hh j) (hX : X s ∧ X B ∧ ∀ k, X k → k < w.heap.size) (he : hh = S.xs.length / 2) (v : Value) (d : List (BitVec 8)) (hv : ∀ w', Keep (own3 b s B) w w' → Byts w' v d) (S' : Ss) (j' : Jt) (c : Int) (hp : japp S j d = (S', j', c)) :
    Calls Tryz.prog 10 #[.pointer (some ⟨b, 0, none⟩), v] w fun e w' => ∃ u, e = .returned u ∧ ErrJ w' w.heap.size u c ∧ StoS w' s B S' ∧ Jo w' X b s hh j' ∧ Keep (own3 b s B) w w' := by
  have HS := Lib.hid h
  have HJ := Lib.hid H
  have HXX := Lib.hid hX
  have HE := Lib.hid he
  have HV := Lib.hid hv
  by_cases hc : jcode hh j d = 0
  · have HN := Lib.hid (next_ok h H he v d (hv w (Keep.refl _ w)) hc)
    obtain ⟨h1, h2, h3, h4⟩ := jcode_ok hc
    have hf := H.facts
    have HD := Lib.hid (show 1 ≤ d.length ∧ d.length ≤ 40 ∧ d.length + 8 ≤ hh ∧ j.s + 1 ≤ 4294967295 ∧ j.e ≤ hh ∧ hh ≤ 32768 by have := h.len; omega)
    obtain ⟨m, hm⟩ : ∃ m, m = d.length + 8 := ⟨_, rfl⟩
    have HM := Lib.hid hm
    have HLN := Lib.hid (show (pr (j.s + 1) d).length = m by rw [hm]; exact len_pr (j.s + 1) d)
    have hw := u32_bv j.s
    obtain ⟨j1, hj1⟩ : ∃ j1, j1 = j.s + 1 := ⟨_, rfl⟩
    have HJ1 := Lib.hid hj1
    rw [show ((BitVec.ofNat 32 (j.s + 1)).toNat : Int) = (j1 : Int) by rw [BitVec.toNat_ofNat]; omega] at hw
    obtain ⟨dn, hdn⟩ : ∃ dn, dn = d.length := ⟨_, rfl⟩
    have HDN := Lib.hid hdn
    obtain ⟨js, hjs⟩ : ∃ js, js = j.s := ⟨_, rfl⟩
    have HJS := Lib.hid hjs
    rw [← hjs] at hw
    obtain ⟨av, cv, ev⟩ := (hv w (Keep.refl _ w)).len
    subst ev
    generalize hvv : Value.slice av d.length cv = v at *
    by_cases hj : jon S.xs j m = true
    · obtain ⟨hp1, hp2⟩ := japp_on hp (by rw [← he]; exact hc) (by rw [← hm]; exact hj)
      rw [← he] at hp1
      rw [← hm] at hp2
      have HP1 := Lib.hid hp1
      have HP2 := Lib.hid hp2
      have HJN := Lib.hid hj
      clear h H hX he hv hc hp hj hp1 hp2 h1 h2 h3 h4 hf hdn hjs hm hj1
      rw [← hvv]
      go_enter Tryz.func10, Tryz.ntmps10
      go_wp2_with fail
      rw [hvv]
      (with_reducible refine HN.out.mono ?_)
      rintro e w1 ⟨r, rfl, ho, hb⟩
      have HB1 := Lib.hid hb
      have HG := Lib.hid (goOn_yes (HS.out.below hb) (HJ.out.below hb) ⟨HXX.out.1, HXX.out.2.1⟩ HE.out r _ ho.byts (by rw [HLN.out]; have := HD.out; have := HM.out; omega) (by rw [HLN.out]; exact HJN.out) S' c HP1.out)
      rw [HLN.out] at HG
      obtain ⟨ra, rc, er⟩ := ho.byts.len
      rw [HLN.out] at er
      subst er
      clear ho hb HN
      go_wp2_with fail
      (with_reducible refine HG.out.mono ?_)
      rintro e w3 ⟨u, rfl, hT, hs, hk⟩
      have HS3 := Lib.hid hs
      have HK3 := Lib.hid (Keep.trans (F := own3 b s B) (Keep.of_below HB1.out) hk (fun _ h => .inl h))
      have HZ := Lib.hid (Nat.le_trans HB1.out.size hk.size)
      clear hs HG
      rcases hT with ⟨rfl, rfl, hJ3⟩ | ⟨rfl, hP3, hJ3⟩
      · have HJ3 := Lib.hid hJ3
        obtain rfl := HP2.out
        clear hJ3 hk
        have HI := Lib.hid (is_nil 5 w3)
        go_wp2_with fail
        (with_reducible refine HI.out.mono ?_)
        rintro e w4 ⟨rfl, rfl⟩
        obtain ⟨a3, n3, cc3, hb3, hv3, hX3, hXb3, r3⟩ := HJ3.out
        obtain ⟨q0, q1, q2, q3, q4, q5⟩ := hb3.six
        have f2 := hb3.frz 2
        have HBK := Lib.hid (hb3.set_ 2 (.int .u32 (j1 : Int)))
        have HKs := Lib.hid (Keep.set_ (F := fun k => k = b) w3 b 2 (.int .u32 (j1 : Int)) rfl)
        have HSs := Lib.hid (HS3.out.keep HKs.out (fun h => HJ.out.not (h ▸ HXX.out.1)) (fun h => HJ.out.not (h ▸ HXX.out.2.1)))
        have HKK := Lib.hid (HK3.out.store b 2 (.int .u32 (j1 : Int)) (.inl rfl))
        have HXb := Lib.hid hXb3
        have HR3 := Lib.hid r3
        have HCL := Lib.hid (clone_any v d _ (HV.out _ HKK.out) (by have := HD.out; omega))
        dsimp only at q2
        rw [← HJS.out] at q2
        clear hb3 hv3 hX3 hXb3 r3 q0 q1 q3 q4 q5
        go_wp2_with fail
        (with_reducible refine HCL.out.mono ?_)
        rintro e w8 ⟨v8, rfl, ho, hb⟩
        obtain ⟨a8, c8, e8⟩ := ho.byts.len
        rw [← HDN.out] at e8
        subst e8
        have HBK8 := Lib.hid (HBK.out.below hb)
        have HO8 := Lib.hid ho
        have HS8 := Lib.hid (HSs.out.below hb)
        have HKK8 := Lib.hid (HKK.out.trans (Keep.of_below (F := fun _ => False) hb) (fun _ h => h.elim))
        have HSZ := Lib.hid (show w.heap.size ≤ (w3.setCell ⟨b, 2, none⟩ (.int .u32 (j1 : Int))).heap.size from HKK.out.size)
        have hB8 := HBK8.out
        have f3 := hB8.frz 3
        have f5 := hB8.frz 5
        have k3 := hB8.cell 3 (u := .slice a3 n3 cc3) (by simp)
        have k5 := hB8.cell 5 (u := .bool j.is) (by simp)
        clear ho hb hB8 HCL HBK HSs HKK HKs
        go_wp2_with fail
        have HB9 := Lib.hid ((HBK8.out.set_ 3 (.slice a8 dn c8)).set_ 5 (.bool true))
        have HK9 := Lib.hid (((Keep.refl (fun k => k = b) w8).store b 3 (.slice a8 dn c8) rfl).store b 5 (.bool true) rfl)
        have hap : ∀ ad, a8 = some ad → b < ad.block ∧ w.heap.size ≤ ad.block ∧ ad.block < w8.heap.size := fun ad e => by
          rcases HO8.out.2 with ⟨h1, _⟩ | ⟨g, cap, cur, h1, hB, hg, _⟩
          · rw [e] at h1; cases h1
          · rw [e] at h1
            simp only [Value.slice.injEq, Option.some.injEq] at h1
            obtain ⟨rfl, _⟩ := h1
            have := HSZ.out
            have := HJ.out.lt
            show b < g ∧ w.heap.size ≤ g ∧ g < w8.heap.size
            exact ⟨by omega, by omega, lt_of_block hg⟩
        go_ret
        refine ⟨_, rfl, .inl ⟨by simp, rfl⟩, HS8.out.keep HK9.out (fun h => HJ.out.not (h ▸ HXX.out.1)) (fun h => HJ.out.not (h ▸ HXX.out.2.1)), ⟨a8, dn, c8, ?_, HO8.out.byts.keep HK9.out fun ad n c e => .inr fun h => ?_, fun ad e => .inr ⟨fun hx => ?_, ?_, ?_⟩, HXb.out, by have := HD.out; show j.s + 1 ≤ _; omega, HR3.out.2.1, HD.out.2.1, HR3.out.2.2.2⟩, (HKK8.out.store b 3 _ (.inl rfl)).store b 5 _ (.inl rfl)⟩
        · have := HB9.out
          rw [HJ1.out, HDN.out] at this
          rw [HDN.out]
          simpa using this
        · simp only [Value.slice.injEq] at e
          have := hap ad e.1
          omega
        · have := hap ad e
          have := HXX.out.2.2 _ hx
          omega
        · have := hap ad e
          omega
        · have := hap ad e
          simp [World.setCell]
          omega
      · have HP := Lib.hid (hP3.mono HB1.out.size)
        have HJ3 := Lib.hid hJ3
        obtain rfl := HP2.out
        clear hJ3 hP3
        have HI := Lib.hid (is_no (m := 5) HP.out (by decide) (by decide))
        obtain ⟨g, rfl⟩ : ∃ g, u = .iface 66 (.pointer (some ⟨g, 0, none⟩)) := by
          obtain ⟨g, _, _, h, _⟩ := HP.out
          exact ⟨g, h⟩
        have HWR := Lib.hid (fun t => wrapP_any HP.out (HZ.out) t)
        go_wp2_with fail
        (with_reducible refine HI.out.mono ?_)
        rintro e w4 ⟨rfl, rfl⟩
        go_wp2_with fail
        (with_reducible refine (HWR.out _).mono ?_)
        rintro e w9 ⟨r9, rfl, hr, hb⟩
        have HR9 := Lib.hid hr
        have HB9 := Lib.hid hb
        clear hr hb
        go_wp2_with fail
        go_ret
        exact ⟨_, rfl, .inr ⟨by decide, _, HR9.out⟩, HS3.out.below HB9.out, HJ3.out.below HB9.out, HK3.out.trans (Keep.of_below (F := fun _ => False) HB9.out) (fun _ h => h.elim)⟩
    · have hj0 : jon S.xs j m = false := by simpa using hj
      obtain ⟨P, Q, c1, c2, hp1, hp2, hp3, hp4⟩ := japp_turn hp (by rw [← he]; exact hc) (by rw [← hm]; exact hj0)
      rw [← he] at hp1 hp2
      rw [← hm] at hp4
      have HP1 := Lib.hid hp1
      have HP2 := Lib.hid hp2
      have HP3 := Lib.hid hp3
      have HP4 := Lib.hid hp4
      have HJN := Lib.hid hj0
      clear h H hX he hv hc hp hj hj0 hp1 hp2 hp3 hp4 h1 h2 h3 h4 hf hdn hjs hm hj1
      rw [← hvv]
      go_enter Tryz.func10, Tryz.ntmps10
      go_wp2_with fail
      rw [hvv]
      (with_reducible refine HN.out.mono ?_)
      rintro e w1 ⟨r, rfl, ho, hb⟩
      have HB1 := Lib.hid hb
      have HO1 := Lib.hid ho
      have HG := Lib.hid (goOn_no (HS.out.below hb) (HJ.out.below hb) HE.out r _ ho.byts (by rw [HLN.out]; have := HD.out; have := HM.out; omega) (by rw [HLN.out]; exact HJN.out))
      obtain ⟨ra, rc, er⟩ := ho.byts.len
      rw [HLN.out] at er
      subst er
      clear ho hb HN
      go_wp2_with fail
      (with_reducible refine HG.out.mono ?_)
      rintro e w2 ⟨u, rfl, hP, hb⟩
      have HP := Lib.hid hP
      have HB2 := Lib.hid (below_call HB1.out hb)
      have HO2 := Lib.hid (HO1.out.below hb)
      have HI := Lib.hid (is_yes hP)
      have HT := Lib.hid (turn_to (HS.out.below HB2.out) (HJ.out.below HB2.out) ⟨HXX.out.1, HXX.out.2.1⟩ HE.out _ _ (fun w' hk => HO2.out.byts.keep hk fun ad n c e => by
        right
        intro hF
        have h1 := (HO2.out.far.2 ad n c e)
        have h2 := HO2.out.2
        have : w.heap.size ≤ ad.block := by
          rcases HO2.out.2 with ⟨h1, _⟩ | ⟨g, cap, cur, h1, hB, _⟩
          · rw [h1] at e; cases e
          · rw [h1] at e; cases e; exact hB
        have := HJ.out.lt
        have := HS.out.lt
        rcases hF with hF | hF | hF <;> omega) (by rw [HLN.out]; have := HM.out; omega) (by rw [HLN.out]; have := HM.out; have := HD.out; omega) P Q c1 c2 HP1.out HP2.out c S' HP3.out)
      rw [HLN.out] at HT
      obtain ⟨g, rfl⟩ : ∃ g, u = .iface 66 (.pointer (some ⟨g, 0, none⟩)) := by
        obtain ⟨g, _, _, h, _⟩ := hP
        exact ⟨g, h⟩
      clear hP hb HG
      go_wp2_with fail
      (with_reducible refine HI.out.mono ?_)
      rintro e w' ⟨rfl, rfl⟩
      go_wp2_with fail
      (with_reducible refine HT.out.mono ?_)
      rintro e w3 ⟨u, rfl, hT, hs, hk⟩
      have HS3 := Lib.hid hs
      have HK3 := Lib.hid (Keep.trans (F := own3 b s B) (Keep.of_below HB2.out) hk (fun _ h => .inl h))
      have HZ := Lib.hid (Nat.le_trans HB2.out.size hk.size)
      clear hs HT HP HI
      rcases hT with ⟨rfl, rfl, hJ3⟩ | ⟨rfl, hP3, hJ3⟩
      · have HJ3 := Lib.hid hJ3
        obtain rfl := HP4.out
        clear hJ3 hk
        obtain ⟨a3, n3, cc3, hb3, hv3, hX3, hXb3, r3⟩ := HJ3.out
        obtain ⟨q0, q1, q2, q3, q4, q5⟩ := hb3.six
        have f2 := hb3.frz 2
        have HBK := Lib.hid (hb3.set_ 2 (.int .u32 (j1 : Int)))
        have HKs := Lib.hid (Keep.set_ (F := fun k => k = b) w3 b 2 (.int .u32 (j1 : Int)) rfl)
        have HSs := Lib.hid (HS3.out.keep HKs.out (fun h => HJ.out.not (h ▸ HXX.out.1)) (fun h => HJ.out.not (h ▸ HXX.out.2.1)))
        have HKK := Lib.hid (HK3.out.store b 2 (.int .u32 (j1 : Int)) (.inl rfl))
        have HXb := Lib.hid hXb3
        have HR3 := Lib.hid r3
        have HCL := Lib.hid (clone_any v d _ (HV.out _ HKK.out) (by have := HD.out; omega))
        dsimp only at q2
        rw [← HJS.out] at q2
        clear hb3 hv3 hX3 hXb3 r3 q0 q1 q3 q4 q5
        go_wp2_with fail
        (with_reducible refine HCL.out.mono ?_)
        rintro e w8 ⟨v8, rfl, ho, hb⟩
        obtain ⟨a8, c8, e8⟩ := ho.byts.len
        rw [← HDN.out] at e8
        subst e8
        have HBK8 := Lib.hid (HBK.out.below hb)
        have HO8 := Lib.hid ho
        have HS8 := Lib.hid (HSs.out.below hb)
        have HKK8 := Lib.hid (HKK.out.trans (Keep.of_below (F := fun _ => False) hb) (fun _ h => h.elim))
        have HSZ := Lib.hid (show w.heap.size ≤ (w3.setCell ⟨b, 2, none⟩ (.int .u32 (j1 : Int))).heap.size from HKK.out.size)
        have hB8 := HBK8.out
        have f3 := hB8.frz 3
        have f5 := hB8.frz 5
        have k3 := hB8.cell 3 (u := .slice a3 n3 cc3) (by simp)
        have k5 := hB8.cell 5 (u := .bool j.is) (by simp)
        clear ho hb hB8 HCL HBK HSs HKK HKs
        go_wp2_with fail
        have HB9 := Lib.hid ((HBK8.out.set_ 3 (.slice a8 dn c8)).set_ 5 (.bool true))
        have HK9 := Lib.hid (((Keep.refl (fun k => k = b) w8).store b 3 (.slice a8 dn c8) rfl).store b 5 (.bool true) rfl)
        have hap : ∀ ad, a8 = some ad → b < ad.block ∧ w.heap.size ≤ ad.block ∧ ad.block < w8.heap.size := fun ad e => by
          rcases HO8.out.2 with ⟨h1, _⟩ | ⟨g, cap, cur, h1, hB, hg, _⟩
          · rw [e] at h1; cases h1
          · rw [e] at h1
            simp only [Value.slice.injEq, Option.some.injEq] at h1
            obtain ⟨rfl, _⟩ := h1
            have := HSZ.out
            have := HJ.out.lt
            show b < g ∧ w.heap.size ≤ g ∧ g < w8.heap.size
            exact ⟨by omega, by omega, lt_of_block hg⟩
        go_ret
        refine ⟨_, rfl, .inl ⟨by simp, rfl⟩, HS8.out.keep HK9.out (fun h => HJ.out.not (h ▸ HXX.out.1)) (fun h => HJ.out.not (h ▸ HXX.out.2.1)), ⟨a8, dn, c8, ?_, HO8.out.byts.keep HK9.out fun ad n c e => .inr fun h => ?_, fun ad e => .inr ⟨fun hx => ?_, ?_, ?_⟩, HXb.out, by have := HD.out; show j.s + 1 ≤ _; omega, HR3.out.2.1, HD.out.2.1, HR3.out.2.2.2⟩, (HKK8.out.store b 3 _ (.inl rfl)).store b 5 _ (.inl rfl)⟩
        · have := HB9.out
          rw [HJ1.out, HDN.out] at this
          rw [HDN.out]
          simpa using this
        · simp only [Value.slice.injEq] at e
          have := hap ad e.1
          omega
        · have := hap ad e
          have := HXX.out.2.2 _ hx
          omega
        · have := hap ad e
          omega
        · have := hap ad e
          simp [World.setCell]
          omega
      · have HP := Lib.hid (hP3.mono HB2.out.size)
        have HJ3 := Lib.hid hJ3
        obtain rfl := HP4.out
        clear hJ3 hP3
        obtain ⟨g, rfl⟩ : ∃ g, u = .iface 66 (.pointer (some ⟨g, 0, none⟩)) := by
          obtain ⟨g, _, _, h, _⟩ := HP.out
          exact ⟨g, h⟩
        have HWR := Lib.hid (fun t => wrapP_any HP.out (HZ.out) t)
        go_wp2_with fail
        (with_reducible refine (HWR.out _).mono ?_)
        rintro e w9 ⟨r9, rfl, hr, hb⟩
        have HR9 := Lib.hid hr
        have HB9 := Lib.hid hb
        clear hr hb
        go_wp2_with fail
        go_ret
        exact ⟨_, rfl, .inr ⟨by decide, _, HR9.out⟩, HS3.out.below HB9.out, HJ3.out.below HB9.out, HK3.out.trans (Keep.of_below (F := fun _ => False) HB9.out) (fun _ h => h.elim)⟩
  · obtain ⟨rfl, rfl, hcc⟩ := japp_bad hp (by rw [← he]; exact hc)
    rw [← he] at hcc
    have HN := Lib.hid (next_bad h H he v d (hv w (Keep.refl _ w)) c hcc.symm (by rw [hcc]; exact hc))
    have HC := Lib.hid (show c ≠ 0 by rw [hcc]; exact hc)
    obtain ⟨av, cv, ev⟩ := (hv w (Keep.refl _ w)).len
    clear h H hX he hv hc hp hcc
    subst ev
    generalize d.length = dn at *
    go_enter Tryz.func10, Tryz.ntmps10
    go_wp2_with fail
    (with_reducible refine HN.out.mono ?_)
    rintro e w1 ⟨u, rfl, hP, hb⟩
    have HP := Lib.hid hP
    have HB1 := Lib.hid hb
    have HS1 := Lib.hid (HS.out.below hb)
    have HJ1 := Lib.hid (HJ.out.below hb)
    have HK1 : Hid (Keep (own3 b s B) w w1) := Lib.hid (Keep.of_below hb)
    clear hP hb HN
    obtain ⟨g, rfl⟩ : ∃ g, u = .iface 66 (.pointer (some ⟨g, 0, none⟩)) := by
      obtain ⟨g, _, _, h, _⟩ := HP.out
      exact ⟨g, h⟩
    have HWR := Lib.hid (fun t => wrapP_any HP.out (HB1.out.size) t)
    go_wp2_with fail
    (with_reducible refine (HWR.out _).mono ?_)
    rintro e w9 ⟨r9, rfl, hr, hb⟩
    have HR9 := Lib.hid hr
    have HB9 := Lib.hid hb
    clear hr hb
    go_wp2_with fail
    go_ret
    exact ⟨_, rfl, .inr ⟨HC.out, _, HR9.out⟩, HS1.out.below HB9.out, HJ1.out.below HB9.out, HK1.out.trans (Keep.of_below (F := fun _ => False) HB9.out) (fun _ h => h.elim)⟩
end Go.Proofs.YtekackglcapppaaGreatDoor
/-
  A journal that is opened again: plain mathematics.
-/
namespace Go.Proofs.YtekackglcapppaaGreatDoor

theorem row_split (xs : List (BitVec 8)) : ∀ (f o : Nat) (n : Nt), brec xs o = some n → ∃ ds, ds ≠ [] ∧ btodo xs (f + 1) (some n) = nts n.s o ds ∧ (∀ d ∈ ds, 1 ≤ d.length ∧ d.length ≤ 40) ∧ n.s + ds.length ≤ 4294967296 ∧
      (xs.drop o).take (flat n.s ds).length = flat n.s ds ∧ o + (flat n.s ds).length ≤ xs.length
  | 0, o, n, h => by
    obtain ⟨h1, h2, h3, h4, h5, h6⟩ := brec_some h
    refine ⟨[n.d], by simp, ?_, by simpa using ⟨h1, h2⟩, by simp; omega, ?_, ?_⟩
    · obtain ⟨s, d, e⟩ := n
      simp only at h4
      simp [btodo, nts, h4]
    · simp only [flat, List.append_nil, len_pr]
      exact h6
    · simp only [flat, List.append_nil, len_pr]
      omega
  | f + 1, o, n, h => by
    obtain ⟨h1, h2, h3, h4, h5, h6⟩ := brec_some h
    cases hn : bnxt xs n with
    | none =>
      refine ⟨[n.d], by simp, ?_, by simpa using ⟨h1, h2⟩, by simp; omega, ?_, ?_⟩
      · rw [show btodo xs (f + 1 + 1) (some n) = n :: btodo xs (f + 1) (bnxt xs n) from rfl, hn]
        obtain ⟨s, d, e⟩ := n
        simp only at h4
        subst h4
        rfl
      · simp only [flat, List.append_nil, len_pr]
        exact h6
      · simp only [flat, List.append_nil, len_pr]
        omega
    | some m =>
      obtain ⟨g1, g2, g3⟩ := bnxt_some hn
      obtain ⟨ds, i0, i1, i2, i3, i4, i5⟩ := row_split xs f n.e m g2
      rw [g3] at i1 i3 i4 i5
      refine ⟨n.d :: ds, by simp, ?_, ?_, by simp; omega, ?_, ?_⟩
      · rw [show btodo xs (f + 1 + 1) (some n) = n :: btodo xs (f + 1) (bnxt xs n) from rfl, hn, i1]
        obtain ⟨s, d, e⟩ := n
        simp only at h4
        subst h4
        rfl
      · intro d hd
        rcases List.mem_cons.1 hd with rfl | hd
        · exact ⟨h1, h2⟩
        · exact i2 d hd
      · simp only [flat, List.length_append, len_pr]
        rw [List.take_add, h6, List.drop_drop, ← h4, i4]
      · simp only [flat, List.length_append, len_pr]
        omega
/-- What stands in a bank: records, one behind the other. -/
theorem bank_form (P : List (BitVec 8)) : ∃ s ds, bnotes P = nts s 0 ds ∧ (∀ d ∈ ds, 1 ≤ d.length ∧ d.length ≤ 40) ∧ (ds ≠ [] → s + ds.length ≤ 4294967296) ∧ P.take (flat s ds).length = flat s ds ∧ (flat s ds).length ≤ P.length := by
  cases h : brec P 0 with
  | none =>
    refine ⟨0, [], ?_, by simp, by simp, by simp [flat], by simp [flat]⟩
    unfold bnotes
    rw [h]
    rfl
  | some n =>
    obtain ⟨ds, _, h1, h2, h3, h4, h5⟩ := row_split P P.length 0 n h
    refine ⟨n.s, ds, ?_, h2, fun _ => h3, by simpa using h4, by simpa using h5⟩
    unfold bnotes
    rw [h]
    exact h1
/-- What was printed, one behind the other, is found, also up to the greatest number. -/
theorem brest_flat2 : ∀ (l : List (List (BitVec 8))) (s : Nat) (P tail : List (BitVec 8)), (∀ d ∈ l, 1 ≤ d.length ∧ d.length ≤ 40) → (l ≠ [] → s + l.length ≤ 4294967296) → bone tail = none →
    brest (P ++ (flat s l ++ tail)) (brec (P ++ (flat s l ++ tail)) P.length) = nts s P.length l
  | [], s, P, tail, _, _, ht => by
    simp only [flat, List.nil_append]
    rw [brec_at, ht]
    rfl
  | d :: t, s, P, tail, hl, hs, ht => by
    have hd := hl d (by simp)
    have hs0 : s + 1 + t.length ≤ 4294967296 := by have := hs (by simp); simp at this; omega
    have ih := brest_flat2 t (s + 1) (P ++ pr s d) tail (fun x hx => hl x (by simp [hx])) (fun _ => hs0) ht
    have e0 : P ++ (flat s (d :: t) ++ tail) = (P ++ pr s d) ++ (flat (s + 1) t ++ tail) := by simp [flat]
    have hb : brec (P ++ (flat s (d :: t) ++ tail)) P.length = some ⟨s, d, P.length + (d.length + 8)⟩ := by
      rw [brec_at]
      simp only [flat, List.append_assoc]
      rw [bone_pr s d _ hd.1 hd.2 (by omega)]
    have hle : P.length + (d.length + 8) ≤ (P ++ (flat s (d :: t) ++ tail)).length := by simp [flat, len_pr]
    rw [hb, brest_some _ _ hle]
    simp only [nts]
    have hP : (P ++ pr s d).length = P.length + (d.length + 8) := by rw [List.length_append, len_pr]
    rw [← e0, hP] at ih
    by_cases hmax : s = 4294967295
    · cases t with
      | cons _ _ => simp at hs0; omega
      | nil =>
        have hn : bnxt (P ++ (flat s [d] ++ tail)) ⟨s, d, P.length + (d.length + 8)⟩ = none := by
          unfold bnxt
          rw [if_pos (show s = 4294967295 from hmax)]
        rw [hn]
        rfl
    · have hn : bnxt (P ++ (flat s (d :: t) ++ tail)) ⟨s, d, P.length + (d.length + 8)⟩ = brec (P ++ (flat s (d :: t) ++ tail)) (P.length + (d.length + 8)) := by
        unfold bnxt
        rw [if_neg (by show s ≠ 4294967295; omega)]
        cases hr : brec (P ++ (flat s (d :: t) ++ tail)) (P.length + (d.length + 8)) with
        | none => rfl
        | some m =>
          have hm : m.s = s + 1 := by
            rw [e0, ← hP, brec_at] at hr
            cases t with
            | nil =>
              simp only [flat, List.nil_append, ht] at hr
              cases hr
            | cons d' t' =>
              have hd' := hl d' (by simp)
              simp only [flat, List.append_assoc] at hr
              rw [bone_pr (s + 1) d' _ hd'.1 hd'.2 (by simp at hs0; omega)] at hr
              simp only [Option.some.injEq] at hr
              rw [← hr]
          simp [hm]
      rw [hn, ih]
theorem bnotes_flat2 (s : Nat) (l : List (List (BitVec 8))) (tail : List (BitVec 8)) (hl : ∀ d ∈ l, 1 ≤ d.length ∧ d.length ≤ 40) (hs : l ≠ [] → s + l.length ≤ 4294967296) (ht : bone tail = none) : bnotes (flat s l ++ tail) = nts s 0 l := by
  have := brest_flat2 l s [] tail hl hs ht
  simpa [bnotes] using this
theorem nts_last (s : Nat) (ds : List (List (BitVec 8))) : (ds = [] ∧ (nts s 0 ds).getLast? = none) ∨ ∃ i d, ds = i ++ [d] ∧ (nts s 0 ds).getLast? = some ⟨s + i.length, d, (flat s ds).length⟩ := by
  rcases List.eq_nil_or_concat ds with rfl | ⟨i, d, h⟩
  · exact .inl ⟨rfl, rfl⟩
  · rw [List.concat_eq_append] at h
    subst h
    refine .inr ⟨i, d, rfl, ?_⟩
    rw [nts_snoc, List.getLast?_concat, flat_snoc, List.length_append, len_pr, Nat.zero_add]
theorem bblank_all {xs : List (BitVec 8)} {o : Nat} (h : bblank xs o = true) : xs.drop o = List.replicate (xs.length - o) 255#8 := by
  unfold bblank at h
  rw [List.all_eq_true] at h
  refine List.eq_replicate_iff.2 ⟨by simp, fun y hy => by simpa using h y hy⟩
theorem splice_at {α : Type} (F T ys : List α) : splice (F ++ T) F.length ys = F ++ (ys ++ T.drop ys.length) := by
  unfold splice
  rw [List.take_left, List.drop_append, List.drop_eq_nil_of_le (by omega), List.nil_append, Nat.add_sub_cancel_left]
  first | done | simp [List.append_assoc]
theorem splice_at0 {α : Type} (T ys : List α) : splice T 0 ys = ys ++ T.drop ys.length := by
  have := splice_at [] T ys
  simpa using this
/-- A record more in a clean bank: found, if it is whole; else nothing more is. -/
theorem bank_on {P d : List (BitVec 8)} {j : Jt} (k : Nat) (hj : j = jof k (bnotes P).getLast?) (hb : bblank P j.e = true) (hd : 1 ≤ d.length ∧ d.length ≤ 40) (hs : j.s + 1 ≤ 4294967295) (hl : j.e + (d.length + 8) ≤ P.length) :
    (bnotes (splice P j.e (pr (j.s + 1) d))).getLast? = some ⟨j.s + 1, d, j.e + (d.length + 8)⟩ ∧ ∀ L, L < d.length + 8 → (bnotes (splice P j.e ((pr (j.s + 1) d).take L))).getLast? = (bnotes P).getLast? := by
  obtain ⟨s, ds, h1, h2, h3, h4, h5⟩ := bank_form P
  have he : j.e = (flat s ds).length := by
    rw [hj, h1]
    rcases nts_last s ds with ⟨rfl, h⟩ | ⟨i, x, rfl, h⟩
    · rw [h]; rfl
    · rw [h]; rfl
  have hns : ∃ s', flat s' ds = flat s ds ∧ nts s' 0 ds = nts s 0 ds ∧ s' + ds.length = j.s + 1 := by
    rw [hj, h1]
    rcases nts_last s ds with ⟨rfl, h⟩ | ⟨i, x, rfl, h⟩
    · rw [h]
      exact ⟨1, rfl, rfl, rfl⟩
    · rw [h]
      exact ⟨s, rfl, rfl, by simp [jof]; omega⟩
  obtain ⟨s', f1, f2, f3⟩ := hns
  have hP : P = flat s' ds ++ List.replicate (P.length - j.e) 255#8 := by
    have h6 := List.take_append_drop (flat s ds).length P
    rw [h4, ← he, bblank_all hb] at h6
    rw [f1]; exact h6.symm
  have hM : ∃ m, m = P.length - j.e := ⟨_, rfl⟩
  obtain ⟨m, hm⟩ := hM
  rw [← hm] at hP
  have hsp : ∀ ys : List (BitVec 8), splice P j.e ys = flat s' ds ++ (ys ++ List.replicate (m - ys.length) 255#8) := fun ys => by
    rw [hP, he, ← f1, splice_at, List.drop_replicate]
  have hall : ∀ x ∈ ds ++ [d], 1 ≤ x.length ∧ x.length ≤ 40 := fun x hx => by
    rcases List.mem_append.1 hx with hx | hx
    · exact h2 x hx
    · rw [List.mem_singleton.1 hx]; exact hd
  refine ⟨?_, fun L hL => ?_⟩
  · rw [hsp, ← List.append_assoc, show flat s' ds ++ pr (j.s + 1) d = flat s' (ds ++ [d]) by rw [flat_snoc, f3]]
    rw [bnotes_flat2 s' (ds ++ [d]) _ hall (fun _ => by simp; omega) (bone_blank _), nts_snoc, List.getLast?_concat, f3, f1, ← he, Nat.zero_add]
  · rw [hsp, bnotes_flat2 s' ds _ h2 (fun h => by omega) ?_, f2, h1]
    have hk := bone_torn (j.s + 1) L (m - L) d hd.1 hd.2 hL (by omega)
    rw [List.length_take, len_pr, Nat.min_eq_left (by omega)]
    exact hk
theorem bank_gone (P : List (BitVec 8)) (n : Nat) (h : 1 ≤ n) : bnotes (splice P 0 (List.replicate n 255#8)) = [] := by
  rw [splice_at0]
  cases n with
  | zero => omega
  | succ n =>
    have := bnotes_flat2 0 [] (List.replicate (n + 1) 255#8 ++ P.drop (List.replicate (n + 1) 255#8).length) (by simp) (by simp) (bone_ff _ _ (.inr (by decide)))
    simpa [flat, nts] using this

/-- The banks behind a write that stands in one of them. -/
theorem bnk_splice {xs ys : List (BitVec 8)} {k e : Nat} (hk : k ≤ 1) (h : e + ys.length ≤ xs.length / 2) :
    bnk (splice xs (k * (xs.length / 2) + e) ys) k = splice (bnk xs k) e ys ∧ bnk (splice xs (k * (xs.length / 2) + e) ys) (1 - k) = bnk xs (1 - k) ∧ (splice xs (k * (xs.length / 2) + e) ys).length = xs.length := by
  obtain ⟨hh, hhe⟩ : ∃ hh, hh = xs.length / 2 := ⟨_, rfl⟩
  rw [← hhe] at h ⊢
  have hA : (xs.take hh).length = hh := by simp; omega
  have hD : ((xs.drop hh).take hh).length = hh := by simp; omega
  have hx : xs = xs.take hh ++ ((xs.drop hh).take hh ++ (xs.drop hh).drop hh) := by rw [List.take_append_drop, List.take_append_drop]
  generalize ea : xs.take hh = A at *
  generalize ed : (xs.drop hh).take hh = D at *
  generalize ee : (xs.drop hh).drop hh = E at *
  have hlen : ∀ zs : List (BitVec 8), zs.length = xs.length → bnk zs 0 = zs.take hh ∧ bnk zs 1 = (zs.drop hh).take hh := fun zs hz => by
    unfold bnk
    rw [hz, ← hhe]
    simp
  rcases show k = 0 ∨ k = 1 by omega with rfl | rfl
  · have hs : splice xs (0 * hh + e) ys = splice A e ys ++ (D ++ E) := by
      rw [hx, Nat.zero_mul, Nat.zero_add]
      exact splice_front A _ e ys (by omega)
    have hsl : (splice A e ys).length = hh := by rw [length_splice _ _ _ (by omega)]; exact hA
    have hl : (splice xs (0 * hh + e) ys).length = xs.length := length_splice _ _ _ (by omega)
    obtain ⟨b0, b1⟩ := hlen _ hl
    obtain ⟨c0, c1⟩ := hlen xs rfl
    rw [ea] at c0
    rw [ed] at c1
    refine ⟨?_, ?_, hl⟩
    · rw [b0, c0, hs, List.take_append_of_le_length (by omega), List.take_of_length_le (by omega)]
    · rw [b1, c1, hs, List.drop_append, hsl, Nat.sub_self, List.drop_eq_nil_of_le (by omega), List.nil_append, List.drop_zero, List.take_append_of_le_length (by omega), List.take_of_length_le (by omega)]
  · have hs : splice xs (1 * hh + e) ys = A ++ (splice D e ys ++ E) := by
      rw [hx, Nat.one_mul]
      unfold splice
      rw [List.take_append, hA, List.take_of_length_le (by omega), Nat.add_sub_cancel_left, List.drop_append, hA, List.drop_eq_nil_of_le (by omega), List.nil_append, show hh + e + ys.length - hh = e + ys.length by omega]
      rw [List.take_append_of_le_length (by omega), List.drop_append_of_le_length (by omega)]
      simp [List.append_assoc]
    have hsl : (splice D e ys).length = hh := by rw [length_splice _ _ _ (by omega)]; exact hD
    have hl : (splice xs (1 * hh + e) ys).length = xs.length := length_splice _ _ _ (by omega)
    obtain ⟨b0, b1⟩ := hlen _ hl
    obtain ⟨c0, c1⟩ := hlen xs rfl
    rw [ea] at c0
    rw [ed] at c1
    refine ⟨?_, ?_, hl⟩
    · rw [b1, c1, hs, List.drop_append, hA, Nat.sub_self, List.drop_eq_nil_of_le (by omega), List.nil_append, List.drop_zero, List.take_append_of_le_length (by omega), List.take_of_length_le (by omega)]
    · rw [b0, c0, hs, List.take_append_of_le_length (by omega), List.take_of_length_le (by omega)]
theorem jcode_ok' {hh : Nat} {j : Jt} {d : List (BitVec 8)} (h : jcode hh j d = 0) : 1 ≤ d.length ∧ d.length ≤ 40 ∧ d.length + 8 ≤ hh ∧ j.s ≠ 4294967295 := by
  unfold jcode at h
  split at h
  · cases h
  · split at h
    · cases h
    · omega
theorem sput_alive {S : Ss} {a : Nat} {ys : List (BitVec 8)} {S' : Ss} {c : Int} (hd : S.dead = false) (h : sput S a ys = (S', c)) :
    (c = 0 ∧ S'.xs = splice S.xs a ys ∧ S'.dead = false) ∨ (c = 7 ∧ ∃ L, L < ys.length ∧ S'.xs = splice S.xs a (ys.take L)) := by
  unfold sput at h
  rw [if_neg (by rw [hd]; decide)] at h
  split at h
  · cases h; exact .inl ⟨rfl, rfl, rfl⟩
  · rename_i L _
    split at h
    · cases h; exact .inl ⟨rfl, rfl, rfl⟩
    · cases h; exact .inr ⟨rfl, L, by omega, rfl⟩
theorem jof_k (k : Nat) (m : Option Nt) : (jof k m).k = k := by cases m <;> rfl
theorem jopen_is (xs : List (BitVec 8)) : ∃ k, k ≤ 1 ∧ jopen xs = jof k (blast xs k) ∧ (∀ n m, blast xs 0 = some n → blast xs 1 = some m → (k = 1 ↔ n.s < m.s)) ∧ (blast xs 0 = none → blast xs 1 ≠ none → k = 1) ∧ (blast xs 1 = none → k = 0) := by
  unfold jopen
  by_cases h : jsnd (blast xs 0) (blast xs 1) = true
  · rw [if_pos h]
    refine ⟨1, by omega, rfl, ?_, fun _ _ => rfl, ?_⟩
    · intro n m h0 h1
      rw [h0, h1] at h
      simpa [jsnd] using h
    · intro h1
      rw [h1] at h
      simp [jsnd] at h
  · rw [if_neg h]
    refine ⟨0, by omega, rfl, ?_, ?_, fun _ => rfl⟩
    · intro n m h0 h1
      rw [h0, h1] at h
      simpa [jsnd] using h
    · intro h0 h1
      rw [h0] at h
      cases hb : blast xs 1 with
      | none => exact absurd hb h1
      | some m => rw [hb] at h; simp [jsnd] at h
/-- Which journal is opened, by what its two banks end with. -/
theorem jopen_of {xs : List (BitVec 8)} {a b : Option Nt} (ha : blast xs 0 = a) (hb : blast xs 1 = b) : jopen xs = if jsnd a b = true then jof 1 b else jof 0 a := by
  unfold jopen
  rw [ha, hb]
theorem jopen_same {xs ys : List (BitVec 8)} (h0 : blast ys 0 = blast xs 0) (h1 : blast ys 1 = blast xs 1) : jopen ys = jopen xs := by
  unfold jopen
  rw [h0, h1]
/-- The one's bank bears a later record now. -/
theorem jopen_more {xs ys : List (BitVec 8)} {k : Nat} {n : Nt} (hk : k ≤ 1) (ho : jopen xs = jof k (blast xs k)) (hk2 : ∀ m, blast xs (1 - k) = some m → ∃ q, blast xs k = some q ∧ m.s ≤ q.s) (hn : blast ys k = some n) (hs : n.s = (jopen xs).s + 1) (hother : blast ys (1 - k) = blast xs (1 - k)) : jopen ys = jof k (some n) := by
  rcases show k = 0 ∨ k = 1 by omega with rfl | rfl
  · rw [jopen_of hn hother]
    cases hb : blast xs (1 - 0) with
    | none => rfl
    | some m =>
      obtain ⟨q, hq, hle⟩ := hk2 m hb
      rw [ho, hq] at hs
      have : jsnd (some n) (some m) = false := by simp [jsnd]; simp [jof] at hs; omega
      rw [this]; rfl
  · rw [jopen_of hother hn]
    cases hb : blast xs (1 - 1) with
    | none => rfl
    | some m =>
      obtain ⟨q, hq, hle⟩ := hk2 m hb
      rw [ho, hq] at hs
      have : jsnd (some m) (some n) = true := by simp [jsnd]; simp [jof] at hs; omega
      rw [this]; rfl
/-- The other bank bears a later record now. -/
theorem jopen_turn {xs ys : List (BitVec 8)} {k : Nat} {n : Nt} (hk : k ≤ 1) (ho : jopen xs = jof k (blast xs k)) (hn : blast ys (1 - k) = some n) (hs : n.s = (jopen xs).s + 1) (hown : blast ys k = blast xs k) : jopen ys = jof (1 - k) (some n) := by
  rcases show k = 0 ∨ k = 1 by omega with rfl | rfl
  · rw [jopen_of hown hn]
    cases hb : blast xs 0 with
    | none => rfl
    | some m =>
      rw [ho, hb] at hs
      have : jsnd (some m) (some n) = true := by simp [jsnd]; simp [jof] at hs; omega
      rw [this]; rfl
  · rw [jopen_of hn hown]
    cases hb : blast xs 1 with
    | none => rfl
    | some m =>
      rw [ho, hb] at hs
      have : jsnd (some n) (some m) = false := by simp [jsnd]; simp [jof] at hs; omega
      rw [this]; rfl
/-- The other bank bears nothing now. -/
theorem jopen_gone {xs ys : List (BitVec 8)} {k : Nat} (hk : k ≤ 1) (ho : jopen xs = jof k (blast xs k)) (hk0 : k = 1 → blast xs 1 ≠ none) (hn : blast ys (1 - k) = none) (hown : blast ys k = blast xs k) : jopen ys = jopen xs := by
  rw [ho]
  rcases show k = 0 ∨ k = 1 by omega with rfl | rfl
  · rw [jopen_of hown hn]
    rfl
  · rw [jopen_of hn hown]
    cases hb : blast xs 1 with
    | none => exact absurd hb (hk0 rfl)
    | some m => rfl
/-- Behind an Append, wherever the store dies, one that is opened again tells what the journal tells. -/
theorem reopen {S S' : Ss} {j' : Jt} {c : Int} {d : List (BitVec 8)} (hd : S.dead = false) (hp : japp S (jopen S.xs) d = (S', j', c)) : jopen S'.xs = j' := by
  obtain ⟨xs, dead, left⟩ := S
  simp only at hd hp
  subst hd
  obtain ⟨k, hk, hko, hk1, hk2, hk3⟩ := jopen_is xs
  obtain ⟨hh, hhe⟩ : ∃ hh, hh = xs.length / 2 := ⟨_, rfl⟩
  have hkk : (jopen xs).k = k := by rw [hko, jof_k]
  have hle : ∀ m, blast xs (1 - k) = some m → ∃ q, blast xs k = some q ∧ m.s ≤ q.s := by
    intro m hm
    rcases show k = 0 ∨ k = 1 by omega with rfl | rfl
    · cases h0 : blast xs 0 with
      | none => have := hk2 h0 (by rw [show (1 : Nat) = 1 - 0 from rfl, hm]; simp); omega
      | some q => exact ⟨q, rfl, by have := hk1 q m h0 hm; omega⟩
    · cases h1 : blast xs 1 with
      | none => have := hk3 h1; omega
      | some q => exact ⟨q, rfl, by have := hk1 m q hm h1; omega⟩
  have hk0 : k = 1 → blast xs 1 ≠ none := fun h1 h => by have := hk3 h; omega
  have same : jopen xs = jopen xs := rfl
  by_cases hc : jcode hh (jopen xs) d = 0
  · obtain ⟨h1, h2, h3, h4⟩ := jcode_ok' hc
    have hf : (jopen xs).s ≤ 4294967295 := by
      rw [hko]
      cases hb : blast xs k with
      | none => simp [jof]
      | some n => exact (blast_some hk hb).2.2.1
    have hj : jopen xs = jof k (bnotes (bnk xs k)).getLast? := hko
    unfold japp at hp
    rw [if_neg (by rw [← hhe]; simpa using hc)] at hp
    rw [← hhe] at hp
    by_cases hjn : jon xs (jopen xs) (d.length + 8) = true
    · rw [if_pos hjn] at hp
      unfold jon at hjn
      rw [hkk, ← hhe] at hjn
      simp only [Bool.and_eq_true, decide_eq_true_eq] at hjn
      obtain ⟨hb, he⟩ := hjn
      obtain ⟨b1, b2⟩ := bank_on k hj hb ⟨h1, h2⟩ (by omega) (by rw [bnk_len xs k hk, ← hhe]; exact he)
      rw [hkk] at hp
      have hps : ∀ p : Ss × Int, sput ⟨xs, false, left⟩ (k * hh + (jopen xs).e) (pr ((jopen xs).s + 1) d) = p → (p.1, if p.2 = 0 then (⟨k, (jopen xs).s + 1, d, (jopen xs).e + (d.length + 8), true⟩ : Jt) else jopen xs, p.2) = (S', j', c) → jopen S'.xs = j' := by
        intro p hs hp
        obtain ⟨P, cp⟩ := p
        simp only [Prod.mk.injEq] at hp
        obtain ⟨rfl, rfl, rfl⟩ := hp
        rcases sput_alive rfl hs with ⟨rfl, hx, _⟩ | ⟨rfl, L, hL, hx⟩
        · simp only at hx
          rw [hhe] at hx
          obtain ⟨q1, q2, q3⟩ := bnk_splice (xs := xs) (ys := pr ((jopen xs).s + 1) d) (e := (jopen xs).e) hk (by rw [len_pr, ← hhe]; exact he)
          rw [← hx] at q1 q2
          have := jopen_more hk hko hle (ys := P.xs) (n := ⟨(jopen xs).s + 1, d, (jopen xs).e + (d.length + 8)⟩) (by unfold blast; rw [q1, b1]) rfl (by unfold blast; rw [q2])
          rw [this, if_pos rfl]
          rfl
        · simp only at hx
          rw [hhe] at hx
          rw [len_pr] at hL
          obtain ⟨q1, q2, q3⟩ := bnk_splice (xs := xs) (ys := (pr ((jopen xs).s + 1) d).take L) (e := (jopen xs).e) hk (by rw [List.length_take, len_pr, ← hhe]; omega)
          rw [← hx] at q1 q2
          rw [if_neg (by decide)]
          have e1 : blast P.xs k = blast xs k := by unfold blast; rw [q1, b2 L hL]
          have e2 : blast P.xs (1 - k) = blast xs (1 - k) := by unfold blast; rw [q2]
          rcases show k = 0 ∨ k = 1 by omega with rfl | rfl
          · exact jopen_same e1 e2
          · exact jopen_same e2 e1
      exact hps _ rfl hp
    · rw [if_neg hjn] at hp
      rw [hkk] at hp
      have hk' : 1 - k ≤ 1 := by omega
      have hkb : 1 - (1 - k) = k := by omega
      have fin : ∀ (p : Ss × Int), sput ⟨xs, false, left⟩ ((1 - k) * hh) (List.replicate hh 255#8) = p → (if p.2 ≠ 0 then (p.1, jopen xs, p.2) else ((sput p.1 ((1 - k) * hh) (pr ((jopen xs).s + 1) d)).1, if (sput p.1 ((1 - k) * hh) (pr ((jopen xs).s + 1) d)).2 = 0 then (⟨1 - k, (jopen xs).s + 1, d, d.length + 8, true⟩ : Jt) else jopen xs, (sput p.1 ((1 - k) * hh) (pr ((jopen xs).s + 1) d)).2)) = (S', j', c) → jopen S'.xs = j' := by
        intro p hs hp
        obtain ⟨P, cp⟩ := p
        rcases sput_alive rfl hs with ⟨rfl, hx, hpd⟩ | ⟨rfl, L, hL, hx⟩
        · simp only at hx
          rw [if_neg (show ¬ (0 : Int) ≠ 0 by decide)] at hp
          obtain ⟨q1, q2, q3⟩ := bnk_splice (xs := xs) (ys := List.replicate hh 255#8) (k := 1 - k) (e := 0) hk' (by simp; omega)
          rw [Nat.add_zero, ← hhe, ← hx] at q1 q2 q3
          rw [hkb] at q2
          have hbl : bnk P.xs (1 - k) = List.replicate hh 255#8 := by
            rw [q1]
            exact splice_whole _ _ (by rw [bnk_len xs _ hk', ← hhe]; simp)
          have hph : P.xs.length / 2 = hh := by rw [q3, hhe]
          have hbn : bnotes (bnk P.xs (1 - k)) = [] := by
            rw [hbl]
            have := bnotes_flat2 0 [] (List.replicate hh 255#8) (by simp) (by simp) (bone_blank hh)
            simpa [flat, nts] using this
          have fin2 : ∀ (q : Ss × Int), sput P ((1 - k) * hh) (pr ((jopen xs).s + 1) d) = q → (q.1, if q.2 = 0 then (⟨1 - k, (jopen xs).s + 1, d, d.length + 8, true⟩ : Jt) else jopen xs, q.2) = (S', j', c) → jopen S'.xs = j' := by
            intro q hs hp
            obtain ⟨Q, cq⟩ := q
            simp only [Prod.mk.injEq] at hp
            obtain ⟨rfl, rfl, rfl⟩ := hp
            rcases sput_alive hpd hs with ⟨rfl, hx, _⟩ | ⟨rfl, L, hL, hx⟩
            · obtain ⟨r1, r2, r3⟩ := bnk_splice (xs := P.xs) (ys := pr ((jopen xs).s + 1) d) (k := 1 - k) (e := 0) hk' (by rw [len_pr, hph]; omega)
              rw [Nat.add_zero, hph, ← hx] at r1 r2
              rw [hkb] at r2
              have hnew : blast Q.xs (1 - k) = some ⟨(jopen xs).s + 1, d, d.length + 8⟩ := by
                unfold blast
                rw [r1, hbl, splice_at0, List.drop_replicate]
                have := bnotes_flat2 ((jopen xs).s + 1) [d] (List.replicate (hh - (pr ((jopen xs).s + 1) d).length) 255#8) (by simpa using ⟨h1, h2⟩) (fun _ => by simp; omega) (bone_blank _)
                simp only [flat, List.append_nil, nts, Nat.zero_add] at this
                rw [this]
                rfl
              rw [jopen_turn hk hko hnew rfl (by unfold blast; rw [r2, q2]), if_pos rfl]
              rfl
            · rw [len_pr] at hL
              obtain ⟨r1, r2, r3⟩ := bnk_splice (xs := P.xs) (ys := (pr ((jopen xs).s + 1) d).take L) (k := 1 - k) (e := 0) hk' (by rw [List.length_take, len_pr, hph]; omega)
              rw [Nat.add_zero, hph, ← hx] at r1 r2
              rw [hkb] at r2
              have hnew : blast Q.xs (1 - k) = none := by
                unfold blast
                rw [r1, hbl, splice_at0, List.drop_replicate, List.length_take, len_pr, Nat.min_eq_left (by omega)]
                have := bnotes_flat2 0 [] ((pr ((jopen xs).s + 1) d).take L ++ List.replicate (hh - L) 255#8) (by simp) (by simp) (bone_torn _ _ _ _ h1 h2 hL (by omega))
                simp only [flat, List.nil_append, nts] at this
                rw [this]
                rfl
              rw [if_neg (by decide)]
              exact jopen_gone hk hko hk0 hnew (by unfold blast; rw [r2, q2])
          exact fin2 _ rfl hp
        · simp only at hx
          rw [if_pos (show (7 : Int) ≠ 0 by decide)] at hp
          simp only [Prod.mk.injEq] at hp
          obtain ⟨rfl, rfl, rfl⟩ := hp
          simp only [List.length_replicate] at hL
          rw [List.take_replicate, Nat.min_eq_left (by omega)] at hx
          obtain ⟨q1, q2, q3⟩ := bnk_splice (xs := xs) (ys := List.replicate L 255#8) (k := 1 - k) (e := 0) hk' (by simp; omega)
          rw [Nat.add_zero, ← hhe, ← hx] at q1 q2
          rw [hkb] at q2
          rcases Nat.eq_zero_or_pos L with rfl | hL1
          · rw [List.replicate_zero, splice_none] at hx
            rw [hx]
          · exact jopen_gone hk hko hk0 (by unfold blast; rw [q1, bank_gone _ _ hL1]; rfl) (by unfold blast; rw [q2])
      exact fin _ rfl hp
  · unfold japp at hp
    rw [if_pos (by rw [← hhe]; exact hc)] at hp
    cases hp
    rfl
end Go.Proofs.YtekackglcapppaaGreatDoor
/-
  A store of a law's own, and journals over it.
-/
namespace Go.Proofs.YtekackglcapppaaGreatDoor
open Go.RowKit

/-- A store of the call's own; nothing older than w0 has changed. -/
structure MineS (w0 w : World) (s B hh : Nat) (S : Ss) : Prop where
  sto : StoS w s B S
  he : hh = S.xs.length / 2
  bel : Below w0.heap.size w0 w
  s_ : w0.heap.size ≤ s
  B_ : w0.heap.size ≤ B
/-- A journal over it. -/
structure MineJ (w0 w : World) (s B hh b : Nat) (j : Jt) : Prop where
  jo : Jo w (own2 s B) b s hh j
  b_ : w0.heap.size ≤ b
variable {w0 w w' : World} {s B hh b : Nat} {S S' : Ss} {j j' : Jt}
theorem MineS.below (h : MineS w0 w s B hh S) (hb : Below w.heap.size w w') : MineS w0 w' s B hh S := ⟨h.sto.below hb, h.he, h.bel.trans (hb.mono h.bel.size), h.s_, h.B_⟩
theorem MineJ.below (h : MineJ w0 w s B hh b j) (hb : Below w.heap.size w w') : MineJ w0 w' s B hh b j := ⟨h.jo.below hb, h.b_⟩
theorem MineJ.own2 (h : MineJ w0 w s B hh b j) (hk : Keep (Go.Proofs.YtekackglcapppaaGreatDoor.own2 s B) w w') : MineJ w0 w' s B hh b j := ⟨h.jo.own2 ⟨.inl rfl, .inr rfl⟩ hk, h.b_⟩
theorem MineS.alloc (h : MineS w0 w s B hh S) (o : Obj) : MineS w0 (w.alloc o) s B hh S := h.below (below_alloc (Below.refl _ w) o)
theorem MineJ.alloc (h : MineJ w0 w s B hh b j) (o : Obj) : MineJ w0 (w.alloc o) s B hh b j := h.below (below_alloc (Below.refl _ w) o)
theorem Keep.old3 {w0 w w' : World} {s B hh b : Nat} {S : Ss} {j : Jt} (hk : Keep (own3 b s B) w w') (h : MineS w0 w s B hh S) (hj : MineJ w0 w s B hh b j) : Below w0.heap.size w0 w' :=
  below_keep h.bel hk fun g hg => by rcases hg with rfl | rfl | rfl; exact hj.b_; exact h.s_; exact h.B_
theorem new_S (n : Int) (m : Nat) (hm : (m : Int) = min (max n 0) 65536) (hb : Below w0.heap.size w0 w) :
    Calls Tryz.prog 19 #[.int .i64 n] w fun e w' => ∃ s B, e = .returned (.pointer (some ⟨s, 0, none⟩)) ∧ MineS w0 w' s B (m / 2) ⟨List.replicate m 255#8, false, none⟩ ∧ Below w.heap.size w w' :=
  (new_to n m hm w).mono fun _ _ ⟨s, B, he, h1, h2, hs, h⟩ => ⟨s, B, he, ⟨⟨0, hs, fun L hL => by cases hL⟩, by simp, hb.trans (h.mono hb.size), Nat.le_trans hb.size h1, Nat.le_trans hb.size h2⟩, h⟩
theorem MineS.open_ (h : MineS w0 w s B hh S) :
    Calls Tryz.prog 7 #[.pointer (some ⟨s, 0, none⟩)] w fun e w' => ∃ b, e = .returned (.pointer (some ⟨b, 0, none⟩)) ∧ MineJ w0 w' s B hh b (jopen S.xs) ∧ Below w.heap.size w w' :=
  (open_to h.sto (own2 s B) (fun k hk => by rcases hk with rfl | rfl; exact h.sto.lt.1; exact h.sto.lt.2) hh h.he).mono fun e w' ⟨b, he, h1, h2, h3⟩ => ⟨b, he, ⟨h2, Nat.le_trans h.bel.size h1⟩, h3⟩
theorem MineJ.last (h : MineJ w0 w s B hh b j) :
    Calls Tryz.prog 16 #[.pointer (some ⟨b, 0, none⟩)] w fun e w' => ∃ v, e = .returned (.tuple #[v, .bool j.is]) ∧ Own w' w.heap.size v j.d ∧ Below w.heap.size w w' := jlast_to h.jo
theorem MineJ.seq (h : MineJ w0 w s B hh b j) (n : Nat) (hn : j.s = n) :
    Calls Tryz.prog 17 #[.pointer (some ⟨b, 0, none⟩)] w fun e w' => e = .returned (.int .u32 (n : Int)) ∧ w = w' := by
  subst hn
  exact seq_to h.jo
theorem sput_len' (S : Ss) {a : Nat} {ys : List (BitVec 8)} {p : Ss × Int} (h : sput S a ys = p) (hl : a + ys.length ≤ S.xs.length) : p.1.xs.length = S.xs.length := by rw [← h]; exact sput_len S a ys hl
theorem japp_len {d : List (BitVec 8)} {c : Int} (hk : j.k ≤ 1) (hp : japp S j d = (S', j', c)) : S'.xs.length = S.xs.length := by
  by_cases hc : jcode (S.xs.length / 2) j d = 0
  · obtain ⟨h1, h2, h3, h4⟩ := jcode_ok hc
    by_cases hj : jon S.xs j (d.length + 8) = true
    · obtain ⟨hp, _⟩ := japp_on hp hc hj
      unfold jon at hj
      simp only [Bool.and_eq_true, decide_eq_true_eq] at hj
      have := sput_len' S hp (by rw [len_pr]; rcases show j.k = 0 ∨ j.k = 1 by omega with e | e <;> rw [e] <;> omega)
      exact this
    · obtain ⟨P, Q, c1, c2, hp1, hp2, hp3, _⟩ := japp_turn hp hc (by simpa using hj)
      have l1 := sput_len' S hp1 (by simp; rcases show j.k = 0 ∨ j.k = 1 by omega with e | e <;> rw [e] <;> omega)
      have l2 := sput_len' P hp2 (by rw [len_pr]; simp only at l1; rw [l1]; rcases show j.k = 0 ∨ j.k = 1 by omega with e | e <;> rw [e] <;> omega)
      simp only at l1 l2
      rcases hp3 with ⟨_, _, rfl⟩ | ⟨_, _, rfl⟩
      · rw [l2, l1]
      · exact l1
  · rw [(japp_bad hp hc).1]
theorem MineS.append (h : MineS w0 w s B hh S) (hj : MineJ w0 w s B hh b j) (v : Value) (d : List (BitVec 8)) (hv : ∀ w', Keep (own3 b s B) w w' → Byts w' v d) (c : Int) (hp : japp S j d = (S', j', c)) :
    Calls Tryz.prog 10 #[.pointer (some ⟨b, 0, none⟩), v] w fun e w' => ∃ u, e = .returned u ∧ ErrJ w' w.heap.size u c ∧ MineS w0 w' s B hh S' ∧ MineJ w0 w' s B hh b j' ∧ Keep (own3 b s B) w w' :=
  (append_to h.sto hj.jo ⟨.inl rfl, .inr rfl, fun k hk => by rcases hk with rfl | rfl; exact h.sto.lt.1; exact h.sto.lt.2⟩ h.he v d hv S' j' c hp).mono fun e w' ⟨u, he, h1, h2, h3, h4⟩ =>
    ⟨u, he, h1, ⟨h2, by rw [japp_len hj.jo.facts.2.1 hp]; exact h.he, h4.old3 h hj, h.s_, h.B_⟩, ⟨h3, hj.b_⟩, h4⟩
theorem MineS.kill (h : MineS w0 w s B hh S) (n : Int) (k : Nat) (hk : (k : Int) = max n 0) (hn : n ≤ 9223372036854775807) :
    Calls Tryz.prog 12 #[.pointer (some ⟨s, 0, none⟩), .int .i64 n] w fun e w' => e = .returned (.tuple #[]) ∧ MineS w0 w' s B hh ⟨S.xs, S.dead, some k⟩ ∧ Keep (own2 s B) w w' := by
  obtain ⟨l, hs, hl⟩ := h.sto
  refine (kill_to hs n k hk hn).mono fun e w' ⟨he, h1, h2⟩ => ⟨he, ⟨⟨k, h1, fun L hL => by cases hL; rfl⟩, h.he, below_keep h.bel h2 fun g hg => by rcases hg with rfl | rfl; exact h.s_; exact h.B_, h.s_, h.B_⟩, h2⟩
theorem MineS.revive (h : MineS w0 w s B hh S) :
    Calls Tryz.prog 14 #[.pointer (some ⟨s, 0, none⟩)] w fun e w' => e = .returned (.tuple #[]) ∧ MineS w0 w' s B hh ⟨S.xs, false, none⟩ ∧ Keep (own2 s B) w w' := by
  obtain ⟨l, hs, hl⟩ := h.sto
  refine (revive_to hs).mono fun e w' ⟨he, h1, h2⟩ => ⟨he, ⟨⟨l, h1, fun L hL => by cases hL⟩, h.he, below_keep h.bel h2 fun g hg => by rcases hg with rfl | rfl; exact h.s_; exact h.B_, h.s_, h.B_⟩, h2⟩
/-- Where nothing fails: the record is told. -/
theorem japp_ok {d : List (BitVec 8)} (hd : S.dead = false) (hl : S.left = none) (hc : jcode (S.xs.length / 2) j d = 0) : ∃ S' k e, japp S j d = (S', ⟨k, j.s + 1, d, e, true⟩, 0) ∧ S'.dead = false ∧ S'.left = none := by
  have hput : ∀ (T : Ss) a (ys : List (BitVec 8)), T.dead = false → T.left = none → sput T a ys = (⟨splice T.xs a ys, false, none⟩, 0) := fun T a ys h1 h2 => by
    unfold sput
    rw [if_neg (by rw [h1]; decide), h2]
  unfold japp
  rw [if_neg (by simpa using hc)]
  split
  · rw [hput S _ _ hd hl]
    exact ⟨_, _, _, rfl, rfl, rfl⟩
  · rw [hput S _ _ hd hl]
    simp only
    rw [if_neg (by decide), hput _ _ _ rfl rfl]
    exact ⟨_, _, _, rfl, rfl, rfl⟩
theorem japp_no {d : List (BitVec 8)} (hc : jcode (S.xs.length / 2) j d ≠ 0) : japp S j d = (S, j, jcode (S.xs.length / 2) j d) := by
  unfold japp
  rw [if_pos hc]
theorem jopen_blank (m : Nat) : jopen (List.replicate m 255#8) = ⟨0, 0, [], 0, false⟩ := by
  have h : ∀ k, blast (List.replicate m 255#8) k = none := fun k => by
    unfold blast bnk
    rw [List.drop_replicate, List.take_replicate]
    have := bnotes_flat2 0 [] (List.replicate (min ((List.replicate m 255#8).length / 2) (m - k * ((List.replicate m 255#8).length / 2))) 255#8) (by simp) (by simp) (bone_blank _)
    simp only [flat, List.nil_append, nts] at this
    rw [this]
    rfl
  unfold jopen
  rw [h 0, h 1]
  rfl
/-- A store that lives, and whose journal, opened again, tells what j tells. -/
structure Fine (S : Ss) (j : Jt) (n : Nat) : Prop where
  dead : S.dead = false
  left : S.left = none
  len : S.xs.length = n
  opn : jopen S.xs = j
theorem Fine.new (m : Nat) : Fine ⟨List.replicate m 255#8, false, none⟩ ⟨0, 0, [], 0, false⟩ m := ⟨rfl, rfl, by simp, jopen_blank m⟩
theorem Fine.k {n : Nat} (h : Fine S j n) : j.k ≤ 1 := by
  obtain ⟨k, hk, ho, _⟩ := jopen_is S.xs
  rw [← h.opn, ho, jof_k]
  exact hk
theorem Fine.ok {n : Nat} {d : List (BitVec 8)} (h : Fine S j n) (hc : jcode (n / 2) j d = 0) : ∃ S' k e, japp S j d = (S', ⟨k, j.s + 1, d, e, true⟩, 0) ∧ Fine S' ⟨k, j.s + 1, d, e, true⟩ n := by
  obtain ⟨S', k, e, hp, h1, h2⟩ := japp_ok h.dead h.left (by rw [h.len]; exact hc)
  refine ⟨S', k, e, hp, h1, h2, by rw [japp_len h.k hp]; exact h.len, ?_⟩
  rw [← h.opn] at hp
  rw [reopen h.dead hp, h.opn]
theorem Fine.no {n : Nat} {d : List (BitVec 8)} {c : Int} (h : Fine S j n) (hc : jcode (n / 2) j d = c) (h0 : c ≠ 0) : japp S j d = (S, j, c) := by
  rw [← h.len] at hc
  rw [← hc] at h0 ⊢
  exact japp_no h0
/-- Bytes that a law lays behind the journal. -/
theorem MineJ.lit (hj : MineJ w0 w s B hh b j) (hs : MineS w0 w s B hh S) {C : Array Value} {n : Nat} {fr : Nat × Nat} {xs : List (BitVec 8)} (h : Byts (w.alloc (.cells C 5 fr)) (.slice (some ⟨w.heap.size, 0, none⟩) n n) xs) :
    ∀ w', Keep (own3 b s B) (w.alloc (.cells C 5 fr)) w' → Byts w' (.slice (some ⟨w.heap.size, 0, none⟩) n n) xs := fun w' hk =>
  h.keep hk fun ad m c e => by
    right
    simp only [Value.slice.injEq, Option.some.injEq] at e
    obtain ⟨rfl, _, _⟩ := e
    have h1 := hj.jo.lt
    have h2 := hs.sto.lt
    rintro (h | h | h) <;> simp only at h <;> omega
/-- Bytes older than the law's call. -/
theorem MineJ.old (hj : MineJ w0 w s B hh b j) (hs : MineS w0 w s B hh S) {v : Value} {xs : List (BitVec 8)} (h : Byts w0 v xs) : ∀ w', Keep (own3 b s B) w w' → Byts w' v xs := fun _ hk => h.below (hk.old3 hs hj)
theorem ErrJ.app {lo : Nat} {u : Value} {c : Int} (h : ErrJ w lo u c) (hj : b < lo) (hs : s < lo) (hB : B < lo) (hk : Keep (own3 b s B) w w') : ErrJ w' lo u c :=
  h.keep hk fun g hg => by rcases hg with rfl | rfl | rfl <;> assumption
theorem Own.app {lo : Nat} {v : Value} {xs : List (BitVec 8)} (h : Own w lo v xs) (hj : b < lo) (hs : s < lo) (hB : B < lo) (hk : Keep (own3 b s B) w w') : Own w' lo v xs := by
  refine h.keepB hk fun g hg hF => ?_
  rcases h.2 with ⟨rfl, _⟩ | ⟨g', cap, cur, rfl, hlo, _⟩
  · cases hg
  · simp only [Value.ownBlock, Option.some.injEq] at hg
    subst hg
    rcases hF with h | h | h <;> omega
theorem MineJ.lts (hj : MineJ w0 w s B hh b j) (hs : MineS w0 w s B hh S) : b < w.heap.size ∧ s < w.heap.size ∧ B < w.heap.size := ⟨hj.jo.lt, hs.sto.lt.1, hs.sto.lt.2⟩
/-- What an Append tells: the record, or what was. -/
theorem japp_told {d : List (BitVec 8)} {c : Int} (hs : j.s ≤ 4294967295) (hp : japp S j d = (S', j', c)) : (c = 0 ∧ (∃ k e, j' = ⟨k, j.s + 1, d, e, true⟩) ∧ j.s + 1 ≤ 4294967295) ∨ (c ≠ 0 ∧ j' = j) := by
  by_cases hc : jcode (S.xs.length / 2) j d = 0
  · obtain ⟨_, _, _, h4⟩ := jcode_ok hc
    by_cases h0 : c = 0
    · left
      refine ⟨h0, ?_, by omega⟩
      by_cases hj : jon S.xs j (d.length + 8) = true
      · obtain ⟨_, h⟩ := japp_on hp hc hj
        rw [if_pos h0] at h
        exact ⟨_, _, h⟩
      · obtain ⟨_, _, _, _, _, _, _, h⟩ := japp_turn hp hc (by simpa using hj)
        rw [if_pos h0] at h
        exact ⟨_, _, h⟩
    · right
      refine ⟨h0, ?_⟩
      by_cases hj : jon S.xs j (d.length + 8) = true
      · obtain ⟨_, h⟩ := japp_on hp hc hj
        rw [if_neg h0] at h
        exact h
      · obtain ⟨_, _, _, _, _, _, _, h⟩ := japp_turn hp hc (by simpa using hj)
        rw [if_neg h0] at h
        exact h
  · obtain ⟨_, h2, h3⟩ := japp_bad hp hc
    exact .inr ⟨by rw [h3]; exact hc, h2⟩
end Go.Proofs.YtekackglcapppaaGreatDoor
