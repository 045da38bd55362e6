/-
  Part of the proof of JournalSteps.
-/
import Derived.Test.YtkkbngcgphlikaaGreatDoorJt2
import Derived.Test.YtkkbngcgphlikaaGreatDoorJt7
import Derived.Test.YtkkbngcgphlikaaGreatDoorRows
import Derived.Maps.Ext
import Derived.Test.YtkkbngcgphlikaaGreatDoorJt0
set_option linter.unusedVariables false
set_option linter.unusedSimpArgs false
section
namespace Go.Proofs.YtkkbngcgphlikaaGreatDoor
open Go.RowKit Go.ChangeShapes Go.WideShapes Go.Deep Go.Maps
abbrev Fx := (Int × Int × Int × Int × Bool) × Int × Int × Int × Int
theorem tlaw : Keyed Tryz.prog 3 := int_keyed Tryz.underlying3
def I64 (x : Int) : Prop := -9223372036854775808 ≤ x ∧ x ≤ 9223372036854775807
theorem I64.wf {x : Int} (h : I64 x) : (Lit.int .i64 x).wf = true := by
 obtain ⟨h1, h2⟩ := h
 exact WalkArith.wf_i64 (by omega)
theorem wf_I64 {x : Int} (h : (Lit.int .i64 x).wf = true) : I64 x := bounds_i64 h
theorem kint (x : Int) : WideAt.IsKeyLit (.int .i64 x) := trivial
theorem lit_ne {x k : Int} (h : x ≠ k) : (Lit.int .i64 x) ≠ Lit.int .i64 k := fun e => h (by injection e)
abbrev Gf := Int → Option Fx
end Go.Proofs.YtkkbngcgphlikaaGreatDoor
end
section
namespace Go.Proofs.YtkkbngcgphlikaaGreatDoor
open Go.RowKit
def Deb (w : World) : Prop := True
theorem Deb.keep {W w1 : World} {n : Nat} (h : Deb W) (hb : Below n W w1) : Deb w1 := trivial
end Go.Proofs.YtkkbngcgphlikaaGreatDoor
end
section
namespace Go.Proofs.YtkkbngcgphlikaaGreatDoor
def runU : List Nat → Nat → Option Nat
 | [], r => some r
 | x :: u, r => (stepT x r).bind (runU u)
theorem runU_of (t : List Nat) : ∀ d k, k + d = t.length → (runT t k).bind (runU (t.drop k)) = runT t t.length
 | 0, k, h => by
   have e : k = t.length := by omega
   subst e
   rw [List.drop_length]
   cases runT t t.length <;> rfl
 | d + 1, k, h => by
   rw [← runU_of t d (k + 1) (by omega), List.drop_eq_getElem_cons (show k < t.length by omega)]
   rw [runT]
   have e : t.getD k 0 = t[k]'(by omega) := by rw [List.getD_eq_getElem?_getD, List.getElem?_eq_getElem (by omega)]; rfl
   rw [e]
   cases runT t k with
   | none => rfl
   | some r => rfl
theorem live_asc (b m : Nat) : (liveL b m).Pairwise (· < ·) := by unfold liveL; exact List.Pairwise.filter _ List.pairwise_lt_range
theorem live_in {b m j : Nat} (h : j ∈ liveL b m) : j < m := by unfold liveL at h; exact List.mem_range.1 (List.mem_filter.1 h).1
theorem logsR_in {t : List Nat} {lane : Int} {m x : Nat} (h : x ∈ logsR t lane m) : x < t.length ∧ kN (t.getD x 0) = 4 ∧ ((lnN (t.getD x 0) : Nat) : Int) = lane := by
 unfold logsR logsN isLog at h
 simp only [List.mem_filter, List.mem_range, List.mem_flatMap, Bool.and_eq_true, decide_eq_true_eq] at h
 obtain ⟨_, _, h1, ⟨h2, h3⟩, _⟩ := h
 exact ⟨h1, h2, h3⟩
end Go.Proofs.YtkkbngcgphlikaaGreatDoor
end
section
namespace Go.Proofs.YtkkbngcgphlikaaGreatDoor
open Go.RowKit
def romJ (s : Int) : Int := if s < 0 then 0 else if s ≤ 2 then 4 else if s ≤ 6 then 8 else if s ≤ 14 then 16 else if s ≤ 4096 then (s + 33) / 32 * 32 else 0
end Go.Proofs.YtkkbngcgphlikaaGreatDoor
end
