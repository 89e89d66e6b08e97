/-
  A region that draws, walked op by op under a condition on the world: midway the condition may be made stronger (what a call of it has made may be told of from then on).
-/
import Derived.Test.YtalfcbgffgikkaaCore
import Derived.Deep.RegionHeld3
namespace Go.Proofs.Ytalfcbgffgikkaa
open Go.RowKit

theorem wpAnyH_more {P : Program} {ops : Array Oper} {Q : Exit → Act → World → Prop} {md : Region.Mode} {S S' : World → Prop} (h : ∀ w, S' w → S w) :
    ∀ (fuel : Nat) (listed : Array Bool) (a : Act) (w : World), wpAnyH P md ops Q S' fuel listed a w → wpAnyH P md ops Q S fuel listed a w
  | 0, _, _, _, h0 => h0
  | fuel + 1, _, _, _, h0 => ⟨h0.1, fun i hi => wpOp_mono (fun a' w' h' => ⟨h _ h'.1, wpAnyH_more h fuel _ a' w' h'.2⟩) (h0.2 i hi)⟩
end Go.Proofs.Ytalfcbgffgikkaa
