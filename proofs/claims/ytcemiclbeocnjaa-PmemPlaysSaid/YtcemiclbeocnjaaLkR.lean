/-
  How long a list that came in may be: by the form's own reach.
-/
import Derived.Test.YtcemiclbeocnjaaGl
import Derived.SizedLaws
set_option linter.unusedVariables false
namespace Go.Proofs.Ytcemiclbeocnjaa
open Go.RowKit Go.ChangeShapes Go.WideShapes Go.Deep

theorem slice_sized {α H : Type} [Inhabited α] {enc : TypeId × Value → H} {P : Program} {W : World} {ts : List TypeId} {ds : List (DataW H)} (hsz : (DataW.weightsEach P ts ds).all (· ≤ reachBytes) = true) {j : Nat} {t e : TypeId} {d : DataW H} (ht : ts[j]? = some t) (hd : ds[j]? = some d)
    (hu : P.underlying t = some (.slice e)) {b : Nat} (hb : P.bytesOf e = b) {ad : Option Addr} {len cap : Nat} {p : List MemPlace} (h : DataW.Trod enc P W 0 (fun _ => true) true t (.slice ad len cap) d p) {sz : Nat} {en : α → List Value} {l : List α} (hl : EL sz en W (.slice ad len cap) l) : l.length * b ≤ 140737488351232 := by
  subst hb
  obtain ⟨A', cap', hv, _⟩ := hl
  obtain ⟨fuel, hf⟩ := h
  rcases open_slice hu hf with ⟨hcs, hx⟩ | ⟨a, len', cap'', m, n, D, Pl, hcs, _, _, _, _, hx, _⟩
  · simp [Value.cells] at hcs
    obtain ⟨rfl, rfl, rfl⟩ := hcs
    simp only [Value.slice.injEq] at hv
    rw [← hv.2.1, Nat.zero_mul]; omega
  · simp [Value.cells] at hcs
    obtain ⟨rfl, rfl, rfl⟩ := hcs
    cases hv
    have hx' := congrArg Prod.fst hx
    simp only [] at hx'
    subst hx'
    have := sized_slice hsz ht hd hu
    rw [List.length_map, List.length_range] at this
    have h2 := Nat.le_trans (Nat.mul_le_mul_right _ (Nat.le_add_right l.length _)) this
    exact Nat.le_trans h2 (by decide)
end Go.Proofs.Ytcemiclbeocnjaa
