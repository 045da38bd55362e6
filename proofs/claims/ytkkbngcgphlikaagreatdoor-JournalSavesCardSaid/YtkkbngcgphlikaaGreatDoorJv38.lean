/-
  Part of the proof of JournalSaves.
-/
import Derived.Test.YtkkbngcgphlikaaGreatDoorJv13
import Derived.Test.YtkkbngcgphlikaaGreatDoorJv35
import Derived.Test.YtkkbngcgphlikaaGreatDoorJv37
import Derived.Test.YtkkbngcgphlikaaGreatDoorJv0
set_option linter.unusedVariables false
set_option linter.unusedSimpArgs false
namespace Go.Proofs.YtkkbngcgphlikaaGreatDoor
open Go.Lib Go.RowKit Go.ChangeShapes Go.WideShapes Go.Deep Go.Shelf
theorem PBs.sbs {l : List Sp} (h : PBs l) : SBs l := fun x hx => by
 have := h x hx
 unfold PB at this
 unfold SB
 omega
theorem logP_PB {I : List Nat} {N L ln : Nat} (hgk : gOk (N : Nat) (L : Nat) = true) (hN : N ≤ 1000) : PBs (logP I (N : Nat) (L : Nat) (ln : Nat)) ∧ (logP I (N : Nat) (L : Nat) (ln : Nat)).length ≤ 1000 := by
 unfold logP
 cases hb : laneB I (N : Nat) (L : Nat) (ln : Nat) with
 | false => exact ⟨fun x hx => (by simp at hx), by simp⟩
 | true =>
   rw [if_pos rfl]
   have hb2 := hb
   unfold laneB readB at hb2
   simp only [Bool.and_eq_true, decide_eq_true_eq] at hb2
   obtain ⟨⟨-, hN, -⟩, -, hl⟩ := hb2
   have hN' : I.length = N := by omega
   rw [Int.toNat_natCast, Int.toNat_natCast]
   have hg : gOk (I.length : Nat) (L : Nat) = true := by rw [hN']; exact hgk
   have h1 := logSp_len (ln := ln) hg
   have h2 := (gNat_eq hg)
   have h3 := gN_bd hg
   obtain ⟨g1, g2, g3, g4⟩ := gOk_t hg
   exact ⟨logSp_PB hg (by omega), by omega⟩
theorem curC_le (x : Nat) : curC x ≤ 16383 := by
 unfold curC
 split
 ·unfold mkC; omega
 ·omega
def noteL (I : List Nat) (g A m : Nat) : List Nat := encW g A (gathL I [((A : Int), (m : Int))])
theorem PBs_one {A m N : Nat} (hN : N ≤ 1000) (h : A + m ≤ N) : PBs [((A : Int), (m : Int))] := fun x hx => by
 rw [List.mem_singleton] at hx
 subst hx
 unfold PB
 simp only []
 omega
theorem gath1_len (I : List Nat) {A m N : Nat} (hN : N ≤ 1000) (h : A + m ≤ N) : (gathL I [((A : Int), (m : Int))]).length = m := by
 rw [gath_len I (PBs_one hN h)]
 simp [totS]
theorem noteL_len (I : List Nat) {g A m N : Nat} (hN : N ≤ 1000) (h : A + m ≤ N) : (noteL I g A m).length = m + 2 := by
 unfold noteL encW
 simp [gath1_len I hN h]
end Go.Proofs.YtkkbngcgphlikaaGreatDoor
