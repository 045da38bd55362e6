/-
  The variables that a row lists, one after the other.
-/
import Derived.Test.YtdblioggncnapaaDoorRows
import Derived.Lib.LaidTab
namespace Go.Proofs.YtdblioggncnapaaDoor
theorem laid_tail {P : Program} {x : String × DataW Unit} {r : List (String × DataW Unit)} {w : World} (h : laidMet P (x :: r) w) : laidMet P r w := by
  obtain ⟨ps, hv, hnd, hrows⟩ := h
  obtain ⟨n, d⟩ := x
  obtain ⟨g, t, cs, fuel, p, q, _, _, _, _, hq, rfl⟩ := hv
  exact ⟨q, hq, List.Nodup.sublist (List.sublist_append_right _ _) hnd, fun b off hm => hrows b off (List.mem_append_right _ hm)⟩
end Go.Proofs.YtdblioggncnapaaDoor
