/-
  Part of the proof of JournalSteps.
-/
import Derived.Test.YtkkbngcgphlikaaGreatDoorJt10
import Derived.Test.YtkkbngcgphlikaaGreatDoorJt8
import Derived.Test.YtkkbngcgphlikaaGreatDoorJt0
set_option linter.unusedVariables false
set_option linter.unusedSimpArgs false
section
namespace Go.Proofs.YtkkbngcgphlikaaGreatDoor
open Go.RowKit Go.ChangeShapes Go.WideShapes Go.Deep
def rightB_rd (l : List Ox) : Bool := decide (l.length ≤ 19) && !(l.any wrongB)
theorem rightB_t {l : List Ox} (h : rightB_rd l = true) : l.length ≤ 19 ∧ ∀ o ∈ l, wrongB o = false := by
 simp only [rightB_rd, Bool.and_eq_true, decide_eq_true_eq, Bool.not_eq_true', List.any_eq_false] at h
 exact ⟨h.1, fun o ho => by simpa using h.2 o ho⟩
end Go.Proofs.YtkkbngcgphlikaaGreatDoor
end
section
namespace Go.Proofs.YtkkbngcgphlikaaGreatDoor
open Go.RowKit Go.ChangeShapes Go.WideShapes Go.Deep
def apOne (I : List Nat) (o : Ox) : List Nat := if 0 ≤ o.2.1 ∧ o.2.1 < (I.length : Int) then I.set o.2.1.toNat (doN (I.getD o.2.1.toNat 0) o) else I
def applyL (I : List Nat) (l : List Ox) : List Nat := l.foldl apOne I
theorem apOne_len (I : List Nat) (o : Ox) : (apOne I o).length = I.length := by
 unfold apOne; split
 ·rw [List.length_set]
 rfl
theorem applyL_len (l : List Ox) : ∀ I : List Nat, (applyL I l).length = I.length := by
 unfold applyL
 induction l with
 | nil => intro I; rfl
 | cons o l ih => intro I; rw [List.foldl_cons, ih, apOne_len]
def OVs (l : List Ox) : Prop := ∀ o ∈ l, o.2.2 < 18446744073709551616
theorem OVs.at {l : List Ox} (h : OVs l) (i : Nat) (hi : i < l.length) : (l.getD i default).2.2 < 18446744073709551616 := by
 rw [List.getD_eq_getElem?_getD, List.getElem?_eq_getElem hi]
 exact h _ (List.getElem_mem hi)
end Go.Proofs.YtkkbngcgphlikaaGreatDoor
end
