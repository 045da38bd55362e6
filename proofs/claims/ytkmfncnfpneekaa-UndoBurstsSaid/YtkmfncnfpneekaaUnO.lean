/-
  Arguments that came in: entries, in a list and by value.
-/
import Derived.Test.YtkmfncnfpneekaaUn5
import Derived.Lib.SmallJoins
set_option linter.unusedVariables false
set_option linter.unusedSimpArgs false
namespace Go.Proofs.Ytkmfncnfpneekaa
open Go.RowKit Go.ChangeShapes Go.WideShapes Go.Deep

def XOk (W : World) (x : Ex) : Prop := WL x.2.2 ∧ KL .u64 W x.2.1 x.2.2
def XL (W : World) (l : List Ex) : Prop := l.length ≤ 9223372036854775807 ∧ ∀ x ∈ l, XOk W x
def XPL (w : World) (v : Value) (l : List Ex) : Prop := EL 2 eS w v l
theorem XL.en {W : World} {v : Value} {l : List Ex} (h : XL W l) (hv : XPL W v l) : EN W v (l.map px) := ⟨l, hv, fun x hx => (h.2 x hx).2, rfl⟩
theorem XL.len {W : World} {l : List Ex} (h : XL W l) : (l.map px).length ≤ 9223372036854775807 := by rw [List.length_map]; exact h.1
theorem XL.wl {W : World} {l : List Ex} (h : XL W l) : ∀ x ∈ l.map px, WL x.2 := fun x hx => by
  obtain ⟨y, hy, rfl⟩ := List.mem_map.1 hx
  exact (h.2 y hy).1
theorem ci : Try.prog.cellsOf 3 = 1 := by kernel_rfl
theorem cl64 : Try.prog.cellsOf 23 = 1 := by kernel_rfl
theorem cEn : Try.prog.cellsOf 25 = 2 := by kernel_rfl
set_option maxRecDepth 10000 in
theorem entry_read {H : Type} {enc : TypeId × Value → H} {W : World} {fuel : Nat} {cs : List Value} {x : DataW H × List MemPlace} (hl : cs.length = 2) (h : DataW.trod enc Try.prog W 0 (fun _ => true) true fuel 25 cs = some x) :
    ∃ o : Ex, XOk W o ∧ cs = eS o := by
  obtain ⟨xs, n, _, rfl, _, hxl, hf⟩ := DataW.trod_struct Try.underlying25 h
  match xs, hxl, cs, hl with
  | [y0, y1], _, [u0, u1], _ =>
    have g0 : DataW.trod enc Try.prog W 0 (fun _ => true) true n 3 ((([u0, u1] : List Value).drop 0).take (Try.prog.cellsOf 3)) = some y0 := hf 0 _ rfl
    have g1 : DataW.trod enc Try.prog W 0 (fun _ => true) true n 23 ((([u0, u1] : List Value).drop 1).take (Try.prog.cellsOf 23)) = some y1 := hf 1 _ rfl
    rw [ci] at g0
    rw [cl64] at g1
    obtain ⟨a0, e0, rfl, w0⟩ := DataW.trod_int Try.underlying3 g0
    simp at e0
    subst e0
    have hs : ∃ ad len cap, u1 = .slice ad len cap := by
      rcases open_slice Try.underlying23 g1 with ⟨hcs, _⟩ | ⟨a, len', cap', m, n', D, Pl, hcs, _⟩
      · simp at hcs; exact ⟨none, 0, 0, hcs⟩
      · simp at hcs; exact ⟨some a, len', cap', hcs⟩
    obtain ⟨ad, len, cap, rfl⟩ := hs
    obtain ⟨d1, p1⟩ := y1
    have hT : DataW.Trod enc Try.prog W 0 (fun _ => true) true 23 (.slice ad len cap) d1 p1 := ⟨n, by simpa [Value.cells] using g1⟩
    obtain ⟨l, hl, hk⟩ := wordsK_open Try.underlying23 Try.underlying22 (by kernel_rfl) hT
    exact ⟨(a0, .slice ad len cap, l), ⟨hl, hk⟩, rfl⟩
theorem ents_open {H : Type} {enc : TypeId × Value → H} {W : World} {ad : Option Addr} {len cap : Nat} {d : DataW H} {p : List MemPlace}
    (h : DataW.Trod enc Try.prog W 0 (fun _ => true) true 34 (.slice ad len cap) d p) : ∃ l : List Ex, XL W l ∧ XPL W (.slice ad len cap) l :=
  els_open (Ok := XOk W) Try.underlying34 cEn (by decide) (fun fuel cs x hl hx => entry_read hl hx) h
set_option maxRecDepth 10000 in
/-- an entry by value -/
theorem entry_open {H : Type} {enc : TypeId × Value → H} {W : World} {r : Reach} {b1 : Nat} {v : Value} {d : DataW H} {p : List MemPlace} (hv : Value.okWide Try.prog W r b1 25 v) (h : DataW.Trod enc Try.prog W 0 (fun _ => true) true 25 v d p) :
    ∃ x : Ex, XOk W x ∧ v = eV x := by
  obtain ⟨cs, rfl, hsz⟩ := okWide_struct Try.underlying25 hv
  obtain ⟨fuel, hf⟩ := h
  rw [cEn] at hsz
  obtain ⟨x, hb, he⟩ := entry_read (by simpa [Value.cells] using hsz) hf
  refine ⟨x, hb, ?_⟩
  obtain ⟨A, cap, hv, _⟩ := hb.2
  obtain ⟨a, v, l⟩ := x
  simp only [] at hv
  subst hv
  have he2 : cs.toList = [.int .i64 a, .slice A l.length cap] := by simpa [Value.cells, eS, slV] using he
  have : cs = #[.int .i64 a, .slice A l.length cap] := by rw [← Array.toList_inj]; exact he2
  rw [this]
  rfl
end Go.Proofs.Ytkmfncnfpneekaa
