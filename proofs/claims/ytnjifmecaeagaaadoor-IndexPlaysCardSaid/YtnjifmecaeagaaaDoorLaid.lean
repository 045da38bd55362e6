/-
  A package-level variable that is a struct of two integers, listed among a row's laid variables: its cells.
-/
import Derived.Test.YtnjifmecaeagaaaDoorChunk1
import Derived.Lib.SmallJoins
import Derived.Lib.LaidTab
namespace Go.Proofs.YtnjifmecaeagaaaDoor
open Go.RowKit Go.ChangeShapes

theorem laid_tail {P : Program} {x : String × DataW Unit} {r : List (String × DataW Unit)} {w : World} (h : laidMet P (x :: r) w) : laidMet P r w := by
  obtain ⟨ps, hv, hnd, hrows⟩ := h
  obtain ⟨n, d⟩ := x
  obtain ⟨g, t, cs, fuel, p, q, _, _, _, _, hq, rfl⟩ := hv
  exact ⟨q, hq, List.Nodup.sublist (List.sublist_append_right _ _) hnd, fun b off hm => hrows b off (List.mem_append_right _ hm)⟩
theorem pair_of_head {P : Program} {W : World} {name : String} {x y : Int} {rest : List (String × DataW Unit)} {g : Nat} {t : TypeId} {f0 f1 : Field}
    (hg : P.globalNamed name = some g) (hty : (P.globals[g]?).map (·.type) = some t) (hs : P.underlying t = some (.struct #[f0, f1])) (o0 : f0.offset = 0) (o1 : f1.offset = 1)
    (e0 : P.underlying f0.type = some (.int .i64)) (e1 : P.underlying f1.type = some (.int .i64)) (c0 : P.cellsOf f0.type = 1) (c1 : P.cellsOf f1.type = 1)
    (h : laidMet P ((name, .agg [.lit (.int .i64 x), .lit (.int .i64 y)]) :: rest) W) : CC W g x y := by
  obtain ⟨ps, ⟨g', t', cs, fuel, p, q, hg', ht', hvar, hd, _, _⟩, _⟩ := h
  obtain rfl := Option.some.inj (hg.symm.trans hg')
  obtain rfl := Option.some.inj (hty.symm.trans ht')
  obtain ⟨y0, y1, n, hx, hl, h0, h1⟩ := trod_struct2 hs hd
  rw [o0, c0] at h0
  rw [o1, c1] at h1
  obtain ⟨n0, hc0, hy0, _⟩ := DataW.trod_int e0 h0
  obtain ⟨n1, hc1, hy1, _⟩ := DataW.trod_int e1 h1
  rw [hy0, hy1] at hx
  simp only [Prod.mk.injEq, DataW.agg.injEq, List.cons.injEq, DataW.lit.injEq, Lit.int.injEq, true_and, and_true] at hx
  obtain ⟨⟨rfl, rfl⟩, _⟩ := hx
  have a0 : cs[0]? = some (.int .i64 x) := by
    have := congrArg (·[0]?) hc0
    simpa [List.getElem?_take, List.getElem?_drop] using this
  have a1 : cs[1]? = some (.int .i64 y) := by
    have := congrArg (·[0]?) hc1
    simpa [List.getElem?_take, List.getElem?_drop] using this
  exact ⟨(World.var?_cell hg hvar 0).trans a0, (World.var?_cell hg hvar 1).trans a1⟩
end Go.Proofs.YtnjifmecaeagaaaDoor
