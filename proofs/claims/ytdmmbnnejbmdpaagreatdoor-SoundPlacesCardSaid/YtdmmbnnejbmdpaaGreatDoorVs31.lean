/-
  Part of the proof of SoundPlaces.
-/
import Derived.Test.YtdmmbnnejbmdpaaGreatDoorVs13
import Derived.Test.YtdmmbnnejbmdpaaGreatDoorVs2
import Derived.Test.YtdmmbnnejbmdpaaGreatDoorVs30
import Derived.Test.YtdmmbnnejbmdpaaGreatDoorVs36
import Derived.Test.YtdmmbnnejbmdpaaGreatDoorVs6
import Derived.Test.YtdmmbnnejbmdpaaGreatDoorVs7
import Derived.Laws.BitsAllLaws
import Derived.Test.YtdmmbnnejbmdpaaGreatDoorVs0
set_option linter.unusedVariables false
set_option linter.unusedSimpArgs false
section
namespace Go.Proofs.YtdmmbnnejbmdpaaGreatDoor
open Go.RowKit Go.Shelf
attribute [local go_sem] Oper.semAt_some
theorem placesL_len : ∀ (L : List Sp), PBs L → (placesL L).length = (totS L).toNat ∧ 0 ≤ totS L
 | [], _ => by simp [placesL, totS_nil]
 | x :: l, h => by
   have hx := h x (by simp)
   obtain ⟨h1, h2⟩ := placesL_len l (fun y hy => h y (by simp [hy]))
   have e : placesL (x :: l) = pwL x x.2.toNat ++ placesL l := rfl
   have e2 : (pwL x x.2.toNat).length = x.2.toNat := by simp [pwL]
   obtain ⟨_, k1, _, _⟩ := hx
   rw [e, List.length_append, e2, h1, totS_cons]
   omega
theorem totS_le : ∀ (L : List Sp), PBs L → totS L ≤ 1000 * (L.length : Int)
 | [], _ => by simp [totS_nil]
 | x :: l, h => by
   obtain ⟨_, _, k3, _⟩ := h x (by simp)
   have := totS_le l (fun y hy => h y (by simp [hy]))
   rw [totS_cons, List.length_cons]; omega
end Go.Proofs.YtdmmbnnejbmdpaaGreatDoor
end
section
namespace Go.Proofs.YtdmmbnnejbmdpaaGreatDoor
open Go.RowKit Go.ChangeShapes Go.WideShapes Go.Deep Go.Shelf
attribute [local go_sem] Oper.semAt_some
theorem OwnU.row {w : World} {base g n c : Nat} {l : List Nat} (h : OwnU w base (.slice (some ⟨g, 0, none⟩) n c) l) : base ≤ g ∧ ∃ cur, w.heap[g]? = some (.cells cur 33 (0, 0)) := by
 rcases h.2 with ⟨hv, _⟩ | ⟨g', cap, cur, hv, hb, hg, _⟩
 ·cases hv
 ·cases hv; exact ⟨hb, cur, hg⟩
end Go.Proofs.YtdmmbnnejbmdpaaGreatDoor
end
section
set_option maxRecDepth 100000
namespace Go.Proofs.YtdmmbnnejbmdpaaGreatDoor
open Go.RowKit Go.Lib
theorem C2.kl {w : World} {g x n : Nat} (h : C2 w g (.int .u64 x) (.int .u64 n)) : KL .u64 w (.slice (some ⟨g, 0, none⟩) 2 2) [x, n] := by
 refine ⟨_, 2, rfl, fun _ => ⟨g, 0, rfl, h.lt, by simp, fun i hi => ?_⟩⟩
 match i, hi with
 | 0, _ => exact h.1
 | 1, _ => exact h.2
theorem KL.alloc {w : World} {v : Value} {l : List Nat} (h : KL .u64 w v l) (o : Obj) : KL .u64 (w.alloc o) v l := h.keep (bZ _ _)
end Go.Proofs.YtdmmbnnejbmdpaaGreatDoor
end
