/-
  Arguments that came in: a list of operations.
-/
import Derived.Test.YtibhahbimoiaaaaRd1
set_option linter.unusedVariables false
namespace Go.Proofs.Ytibhahbimoiaaaa
open Go.RowKit Go.ChangeShapes Go.WideShapes Go.Deep

def OL (l : List Ox) : Prop := l.length ≤ 9223372036854775807 ∧ ∀ o ∈ l, OB o
theorem OL.ov {l : List Ox} (h : OL l) : ∀ o ∈ l, o.2.2 < 18446744073709551616 := fun o ho => (h.2 o ho).2.2.2.2
set_option maxRecDepth 10000 in
theorem ops_open {H : Type} {enc : TypeId × Value → H} {W : World} {ad : Option Addr} {len cap : Nat} {d : DataW H} {p : List MemPlace}
    (h : DataW.Trod enc Try.prog W 0 (fun _ => true) true 22 (.slice ad len cap) d p) : ∃ l : List Ox, OL l ∧ OPL W (.slice ad len cap) l := by
  refine els_open (Ok := OB) Try.underlying22 (by kernel_rfl) (by decide) (fun fuel cs x hl hx => ?_) h
  obtain ⟨xs, n, _, _, _, hxl, hf⟩ := DataW.trod_struct Try.underlying38 hx
  match xs, hxl, cs, hl with
  | [y0, y1, y2], _, [v0, v1, v2], _ =>
    have ci : Try.prog.cellsOf 3 = 1 := by kernel_rfl
    have cu : Try.prog.cellsOf 33 = 1 := by kernel_rfl
    have g0 : DataW.trod enc Try.prog W 0 (fun _ => true) true n 3 ((([v0, v1, v2] : List Value).drop 0).take (Try.prog.cellsOf 3)) = some y0 := hf 0 _ rfl
    have g1 : DataW.trod enc Try.prog W 0 (fun _ => true) true n 3 ((([v0, v1, v2] : List Value).drop 1).take (Try.prog.cellsOf 3)) = some y1 := hf 1 _ rfl
    have g2 : DataW.trod enc Try.prog W 0 (fun _ => true) true n 33 ((([v0, v1, v2] : List Value).drop 2).take (Try.prog.cellsOf 33)) = some y2 := hf 2 _ rfl
    rw [ci] at g0 g1
    rw [cu] at g2
    obtain ⟨a0, e0, _, w0⟩ := DataW.trod_int Try.underlying3 g0
    obtain ⟨a1, e1, _, w1⟩ := DataW.trod_int Try.underlying3 g1
    obtain ⟨a2, e2, _, w2⟩ := DataW.trod_int Try.underlying33 g2
    simp at e0 e1 e2
    subst e0 e1 e2
    have b0 := bounds_i64 w0
    have b1 := bounds_i64 w1
    have b2 := bounds_u64 w2
    obtain ⟨n2, rfl⟩ := Int.eq_ofNat_of_zero_le (show 0 ≤ a2 by omega)
    exact ⟨(a0, a1, n2), ⟨by simp only []; omega, by simp only []; omega, by simp only []; omega, by simp only []; omega, by simp only []; omega⟩, rfl⟩
end Go.Proofs.Ytibhahbimoiaaaa
