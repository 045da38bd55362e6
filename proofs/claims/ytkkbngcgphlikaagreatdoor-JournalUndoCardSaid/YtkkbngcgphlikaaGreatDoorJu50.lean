/-
  Part of the proof of JournalUndo.
-/
import Derived.Test.YtkkbngcgphlikaaGreatDoorJu45
import Derived.Test.YtkkbngcgphlikaaGreatDoorJu48
import Derived.Test.YtkkbngcgphlikaaGreatDoorJu0
set_option linter.unusedVariables false
set_option linter.unusedSimpArgs false
namespace Go.Proofs.YtkkbngcgphlikaaGreatDoor
open Go.Lib Go.RowKit Go.ChangeShapes Go.WideShapes Go.Deep Go.Shelf
theorem KL.cellq {K : IntKind} {w : World} {g o n c : Nat} {l : List Nat} (h : KL K w (.slice (some ⟨g, o, none⟩) n c) l) {i : Nat} (hi : i < l.length) : w.cell? ⟨g, o + i, none⟩ = some (.int K (l.getD i 0 : Nat)) ∧ g < w.heap.size := by
 obtain ⟨A, c', hv, hf⟩ := h.form rfl
 cases hv
 obtain ⟨g', o', e, h1, h2, h3⟩ := hf w i (Below.refl _ _) hi
 cases e
 exact ⟨h3, h2⟩
theorem boL_cell {w : World} {g o n c : Nat} {l : List Bool} (h : EL 1 boE w (.slice (some ⟨g, o, none⟩) n c) l) {i : Nat} (hi : i < l.length) : w.cell? ⟨g, o + i, none⟩ = some (.bool (l.getD i false)) ∧ g < w.heap.size := by
 obtain ⟨A, c', hv, hf⟩ := EL.form h rfl
 cases hv
 obtain ⟨g', o', e, h1, h2, h3, h4⟩ := hf w i (Below.refl _ _) hi
 cases e
 have h5 := h4 0 (by decide)
 rw [Nat.mul_one, Nat.add_zero] at h5
 exact ⟨h5, h2⟩
def stoV (s : Dv) (A v : Nat) : Nat → Dv
 | 0 => s
 | j + 1 => storeD (stoV s A v j) ((A + j : Nat) : Int) ((v + j) % 18446744073709551616)
theorem GoodJ.stoV {s : Dv} {N m : Nat} (h : GoodJ s N m) (A v : Nat) : ∀ j, GoodJ (stoV s A v j) N (m + j)
 | 0 => h
 | j + 1 => (GoodJ.stoV h A v j).store _ _
end Go.Proofs.YtkkbngcgphlikaaGreatDoor
