/-
  The laws of package seal: SealParts.
-/
import Derived.Test.YtkmfncnfpneekaaUSeal6
import Derived.Test.YtkmfncnfpneekaaRegX
set_option linter.unusedVariables false
namespace Go.Proofs.Ytkmfncnfpneekaa
open Go.RowKit

theorem more_parts (l : List Nat) (k : Nat) : moreN (moreN 0 (l.take k)) (l.drop k) = moreN 0 l := by
  unfold moreN
  have h := foldT_lt (l.take k) (4294967295 - 0) (by omega)
  have e : 4294967295 - (4294967295 - foldT (4294967295 - 0) (l.take k)) = foldT (4294967295 - 0) (l.take k) := by omega
  rw [e]
  congr 1
  unfold foldT
  rw [← List.foldl_append, List.take_append_drop]
theorem sl_sub {l : List Nat} {n g off cap : Nat} {w w1 : World} (hn : l.length = n) (hcap : n ≤ cap) (hg : g < w.heap.size) (hc : ∀ i, i < n → w.cell? ⟨g, off + i, none⟩ = some (.int .u64 (l.getD i 0 : Nat))) (hb : Below w.heap.size w w1) (k : Nat) (hk : k ≤ n) :
    SL w1 (.slice (some ⟨g, off, none⟩) k cap) (l.take k) ∧ SL w1 (.slice (if cap = k then some ⟨g, off, none⟩ else some ⟨g, off + k, none⟩) (n - k) (cap - k)) (l.drop k) := by
  constructor
  · have hlk : (l.take k).length = k := by simp; omega
    refine .inr ⟨g, off, cap, by rw [hlk], Nat.lt_of_lt_of_le hg hb.size, by omega, fun i hi => ?_⟩
    rw [(bcell hb).1 _ _ hg, hc i (by omega)]
    congr 3
    rw [List.getD_eq_getElem?_getD, List.getD_eq_getElem?_getD, List.getElem?_take, if_pos (by omega)]
  · by_cases hck : cap = k
    · have : l.drop k = [] := List.drop_of_length_le (by omega)
      rw [this, show n - k = 0 by omega]
      exact .inl ⟨rfl, _, _, rfl⟩
    rw [if_neg hck]
    have hlk : (l.drop k).length = n - k := by simp; omega
    refine .inr ⟨g, off + k, cap - k, by rw [hlk], Nat.lt_of_lt_of_le hg hb.size, by omega, fun i hi => ?_⟩
    rw [(bcell hb).1 _ _ hg, Nat.add_assoc, hc (k + i) (by omega)]
    congr 3
    rw [List.getD_eq_getElem?_getD, List.getD_eq_getElem?_getD, List.getElem?_drop]

end Go.Proofs.Ytkmfncnfpneekaa
