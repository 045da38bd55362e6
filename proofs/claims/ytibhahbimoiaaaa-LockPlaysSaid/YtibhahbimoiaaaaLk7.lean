/-
  Layer 18 (lock): a list of numbers of the call's own, sorted by the library; a long list appended to.
-/
import Derived.Test.YtibhahbimoiaaaaLk6
import Derived.Test.YtibhahbimoiaaaaLkS
import Derived.Shelf.Sort.Plain
import Derived.Shelf.Slices.In.SortNone
set_option linter.unusedVariables false
set_option linter.unusedSimpArgs false
namespace Go.Proofs.Ytibhahbimoiaaaa
open Go.RowKit Go.ChangeShapes Go.WideShapes Go.Deep Go.Maps

theorem iE_flat (l : List Int) : l.flatMap iE = l.map (Value.int .i64) := by
  induction l with
  | nil => rfl
  | cons x l ih => rw [List.flatMap_cons, ih]; rfl
def sortI (J : List Int) : List Int := J.mergeSort fun x y => decide (x ≤ y)
theorem sortI_len (J : List Int) : (sortI J).length = J.length := List.length_mergeSort _
theorem sortI_inc {J : List Int} (h : J.Nodup) : (sortI J).Pairwise (· < ·) := by
  have h1 : (sortI J).Pairwise (fun a b => decide (a ≤ b) = true) := List.pairwise_mergeSort (fun a b c h1 h2 => by simp only [decide_eq_true_eq] at *; omega) (fun a b => by simp only [Bool.or_eq_true, decide_eq_true_eq]; omega) J
  have h2 : (sortI J).Nodup := (List.mergeSort_perm J _).nodup_iff.2 h
  exact (h1.and h2).imp (fun {a b} hab => by
    have h3 := hab.1
    simp only [decide_eq_true_eq] at h3
    have h4 := hab.2
    omega)
theorem sortI_mem {J : List Int} {x : Int} : x ∈ sortI J ↔ x ∈ J := (List.mergeSort_perm J _).mem_iff
/-- the library's sort of a list of the call's own -/
theorem Sort_own (v : Value) (J : List Int) (base : Nat) (w : World) (ho : OwnE 3 1 iE w base v J) (hsz : J.length < 4611686018427387904) :
    Calls Try.prog 54 #[v] w fun e w' => e = .returned (.tuple #[]) ∧ OwnE 3 1 iE w' base v (sortI J) ∧ w.grownBy w' v.ownBlock := by
  rcases ho.2 with ⟨hv, hn⟩ | ⟨g, cap, cur, hv, hb, hg, h1, h2, h3, h4⟩
  · have hJ : J = [] := by simpa using hn
    subst hJ
    subst hv
    refine (Any.slices_Sort_int_none (P := Try.prog) slays none 0 w).mono ?_
    rintro e w' ⟨rfl, rfl⟩
    exact ⟨rfl, by rw [show sortI [] = [] from by simp [sortI]]; exact ho, ⟨rfl, rfl, rfl, Nat.le_refl _, fun _ _ _ => rfl⟩⟩
  · subst hv
    have h4' : cur.toList.take J.length = J.map (Value.int .i64) := by rw [← iE_flat, ← h4, Nat.mul_one]
    refine (Any.slices_Sort_int (P := Try.prog) slays g 0 cap J w (holds_of_blockI hg h4') (Array.getElem?_eq_some_iff.1 hg).1 hsz).mono ?_
    rintro e w' ⟨rfl, n, os, rfl⟩
    refine ⟨rfl, ?_, grownBy_sortedI _⟩
    have := ownsRow_sortedI (n := n) (os := os) (sortI_len J) hb hg h1 h2 h3
    unfold OwnE
    rw [iE_flat, sortI_len]
    exact this
/-- one number more, behind a list of any length that a memory bears -/
theorem appI {w : World} {base : Nat} {v : Value} {l : List Int} (hown : OwnE 3 1 iE w base v l) (x : Int) (hb : base ≤ w.heap.size) (hsm : l.length ≤ 10000000000000) :
    ∃ v' w', (Builtin.append_ #[59, 59] 59 #[v, .slice (some ⟨w.heap.size, 0, none⟩) 1 1]).run Try.prog (w.alloc (.cells #[.int .i64 x] (3 : Nat))) = .ok v' w' ∧
      OwnE 3 1 iE w' base v' (l ++ [x]) ∧ (w.alloc (.cells #[.int .i64 x] (3 : Nat))).grownBy w' v.ownBlock ∧ (v'.ownBlock = v.ownBlock ∨ v'.ownBlock = some (w.heap.size + 1)) := by
  obtain ⟨i0, z, hi, hz0, hz1, hz2, hz3⟩ := iT.info
  obtain ⟨v', w', hrun, k1, k2, k3, k4⟩ := run_append_own_at (P := Try.prog) (w.alloc (.cells #[.int .i64 x] (3 : Nat))) base 59 59 3 i0 z 1 8 iT.und hi hz0 hz1 hz2 hz3 (by decide) v l.length _ (hown.alloc _) ⟨w.heap.size, 0, none⟩ 1 1 [.int .i64 x] rfl
    (cell_one_new _ _ _) (ints_oneCell .i64 [x]) (by unfold maxLen; omega) (by omega) (by simp; omega)
  refine ⟨v', w', hrun, ?_, k2, by simpa using k4⟩
  unfold OwnE
  rw [List.length_append, List.flatMap_append]
  exact k1
end Go.Proofs.Ytibhahbimoiaaaa
