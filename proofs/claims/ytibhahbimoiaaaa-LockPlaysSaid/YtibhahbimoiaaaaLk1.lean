/-
  Layer 18 (lock): what comes in (a list of what is done), the document's pairs, numbers.
-/
import Derived.Test.YtibhahbimoiaaaaRd1
set_option linter.unusedVariables false
set_option linter.unusedSimpArgs false
namespace Go.Proofs.Ytibhahbimoiaaaa
open Go.RowKit Go.ChangeShapes Go.WideShapes Go.Deep

/-- a key, its lane -/
abbrev Px := Int × Int
def pE (o : Px) : List Value := [.int .i64 o.1, .int .i64 o.2]
theorem pE_len (o : Px) : (pE o).length = 2 := rfl
theorem infoPair : (Try.prog.info? 84).map (fun i => (i.zero, i.size, i.bytes)) = some (some (.agg #[.int .i64 0, .int .i64 0]), 2, 16) := by kernel_rfl
theorem pT : ElT Try.prog 51 84 2 16 pE :=
  ⟨Try.underlying51, by obtain ⟨i0, h1, h2, h3, h4⟩ := info_parts infoPair; exact ⟨i0, _, h1, h2, h3, h4, rfl⟩, pE_len, fun x u hu => by simp only [pE, List.mem_cons, List.not_mem_nil, or_false] at hu; rcases hu with rfl | rfl <;> rfl, by decide, by decide⟩

/-- numbers -/
def iE (x : Int) : List Value := [.int .i64 x]
theorem iE_len (x : Int) : (iE x).length = 1 := rfl
theorem infoInt : (Try.prog.info? 3).map (fun i => (i.zero, i.size, i.bytes)) = some (some (.int .i64 0), 1, 8) := by kernel_rfl
theorem iT : ElT Try.prog 59 3 1 8 iE :=
  ⟨Try.underlying59, by obtain ⟨i0, h1, h2, h3, h4⟩ := info_parts infoInt; exact ⟨i0, _, h1, h2, h3, h4, rfl⟩, iE_len, fun x u hu => by simp only [iE, List.mem_cons, List.not_mem_nil, or_false] at hu; subst hu; rfl, by decide, by decide⟩

/-- what is done: kind, key, lane -/
abbrev Lx := Nat × Int × Int
def lE (o : Lx) : List Value := [.int .u8 (o.1 : Nat), .int .i64 o.2.1, .int .i64 o.2.2]
theorem lE_len (o : Lx) : (lE o).length = 3 := rfl
def LB (o : Lx) : Prop := o.1 < 256 ∧ -9223372036854775808 ≤ o.2.1 ∧ o.2.1 ≤ 9223372036854775807 ∧ -9223372036854775808 ≤ o.2.2 ∧ o.2.2 ≤ 9223372036854775807
def LPL (w : World) (v : Value) (l : List Lx) : Prop := EL 3 lE w v l
theorem LPL.keep {w w1 : World} {v : Value} {l : List Lx} (h : LPL w v l) (hb : Below w.heap.size w w1) : LPL w1 v l := EL.keep h hb
def LL (l : List Lx) : Prop := l.length ≤ 9223372036854775807 ∧ ∀ o ∈ l, LB o
set_option maxRecDepth 10000 in
theorem lops_open {H : Type} {enc : TypeId × Value → H} {W : World} {ad : Option Addr} {len cap : Nat} {d : DataW H} {p : List MemPlace}
    (h : DataW.Trod enc Try.prog W 0 (fun _ => true) true 47 (.slice ad len cap) d p) : ∃ l : List Lx, LL l ∧ LPL W (.slice ad len cap) l := by
  refine els_open (Ok := LB) Try.underlying47 (by kernel_rfl) (by decide) (fun fuel cs x hl hx => ?_) h
  obtain ⟨xs, n, _, _, _, hxl, hf⟩ := DataW.trod_struct Try.underlying55 hx
  match xs, hxl, cs, hl with
  | [y0, y1, y2], _, [v0, v1, v2], _ =>
    have ci : Try.prog.cellsOf 3 = 1 := by kernel_rfl
    have cu : Try.prog.cellsOf 5 = 1 := by kernel_rfl
    have g0 : DataW.trod enc Try.prog W 0 (fun _ => true) true n 5 ((([v0, v1, v2] : List Value).drop 0).take (Try.prog.cellsOf 5)) = some y0 := hf 0 _ rfl
    have g1 : DataW.trod enc Try.prog W 0 (fun _ => true) true n 3 ((([v0, v1, v2] : List Value).drop 1).take (Try.prog.cellsOf 3)) = some y1 := hf 1 _ rfl
    have g2 : DataW.trod enc Try.prog W 0 (fun _ => true) true n 3 ((([v0, v1, v2] : List Value).drop 2).take (Try.prog.cellsOf 3)) = some y2 := hf 2 _ rfl
    rw [cu] at g0
    rw [ci] at g1 g2
    obtain ⟨a0, e0, _, w0⟩ := DataW.trod_int Try.underlying5 g0
    obtain ⟨a1, e1, _, w1⟩ := DataW.trod_int Try.underlying3 g1
    obtain ⟨a2, e2, _, w2⟩ := DataW.trod_int Try.underlying3 g2
    simp at e0 e1 e2
    subst e0 e1 e2
    have b0 := bounds_u8 w0
    have b1 := bounds_i64 w1
    have b2 := bounds_i64 w2
    obtain ⟨n0, rfl⟩ := Int.eq_ofNat_of_zero_le (show 0 ≤ a0 by omega)
    exact ⟨(n0, a1, a2), ⟨by simp only []; omega, by simp only []; omega, by simp only []; omega, by simp only []; omega, by simp only []; omega⟩, rfl⟩
end Go.Proofs.Ytibhahbimoiaaaa
