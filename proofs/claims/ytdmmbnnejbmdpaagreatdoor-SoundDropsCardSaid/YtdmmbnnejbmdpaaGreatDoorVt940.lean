/-
  Part of the proof of SoundApart,SoundTwins,SoundWords.
-/
import Derived.Test.YtdmmbnnejbmdpaaGreatDoorVt925
import Derived.Test.YtdmmbnnejbmdpaaGreatDoorVt933
import Derived.Test.YtdmmbnnejbmdpaaGreatDoorVt96
import Derived.Lib.SmallJoins
import Derived.Test.YtdmmbnnejbmdpaaGreatDoorVt90
set_option maxRecDepth 10000
set_option linter.unusedVariables false
set_option linter.unusedSimpArgs false
section
namespace Go.Proofs.YtdmmbnnejbmdpaaGreatDoor
open Go.Lib Go.RowKit Go.ChangeShapes Go.WideShapes Go.Deep Go.Shelf
theorem EN.at {w : World} {Ae : Option Addr} {ne ce : Nat} {es : List Pe} (h : EN w (.slice Ae ne ce) es) (hl : es.length = ne) (w1 : World) (hb : Below w.heap.size w w1) (k : Nat) (hk : k < ne) :
 ∃ g off a A l c, Ae = some ⟨g, off, none⟩ ∧ ne ≤ ce ∧ g < w.heap.size ∧ es.getD k default = (a, l) ∧ (a, l) ∈ es ∧ KL .u64 w1 (.slice A l.length c) l ∧ (w1.cell? ⟨g, off + k * 2, none⟩ = some (.int .i64 a) ∧ w1.cell? ⟨g, off + k * 2 + 1, none⟩ = some (.slice A l.length c)) := by
 obtain ⟨xs, h1, h2, h3⟩ := h
 have hx : xs.length = ne := by rw [← hl, ← h3, List.length_map]
 obtain ⟨A, c, hv, hc⟩ := EL.form h1 hx
 cases hv
 obtain ⟨g, off, rfl, q1, q2, q3, q4⟩ := hc w1 k hb hk
 have hm : xs.getD k default ∈ xs := by rw [List.getD_eq_getElem?_getD, List.getElem?_eq_getElem (by omega)]; exact List.getElem_mem _
 have hit : es.getD k default = px (xs.getD k default) := by
  rw [← h3, List.getD_eq_getElem?_getD, List.getD_eq_getElem?_getD, List.getElem?_map, List.getElem?_eq_getElem (by omega)]
  rfl
 have hmi : px (xs.getD k default) ∈ es := by rw [← h3]; exact List.mem_map_of_mem hm
 have hK := (h2 _ hm).keep hb
 obtain ⟨q, hq⟩ : ∃ q, xs.getD k default = q := ⟨_, rfl⟩
 rw [hq] at hK hit hmi q4
 obtain ⟨a, v, l⟩ := q
 simp only [] at hK
 obtain ⟨A2, c2, hv2, _⟩ := hK.form rfl
 subst hv2
 exact ⟨g, off, a, A2, l, c2, rfl, q1, q2, hit, hmi, hK, q4 0 (by omega), q4 1 (by omega)⟩
end Go.Proofs.YtdmmbnnejbmdpaaGreatDoor
end
section
namespace Go.Proofs.YtdmmbnnejbmdpaaGreatDoor
open Go.RowKit Go.ChangeShapes Go.WideShapes Go.Deep
theorem sl_cell {H : Type} {enc : TypeId × Value → H} {P : Program} {W : World} {n : Nat} {t e : TypeId} {u : Value} {y : DataW H × List MemPlace} (ht : P.underlying t = some (.slice e)) (h : DataW.trod enc P W 0 (fun _ => true) true n t [u] = some y) :
 ∃ ad len cap, u = .slice ad len cap ∧ DataW.Trod enc P W 0 (fun _ => true) true t (.slice ad len cap) y.1 y.2 := by
 have hs : ∃ ad len cap, u = .slice ad len cap := by
  obtain ⟨d, p⟩ := y
  rcases open_slice ht h with ⟨hcs, _⟩ | ⟨a, len', cap', m, n', D, Pl, hcs, _⟩
  ·simp at hcs; exact ⟨none, 0, 0, hcs⟩
  ·simp at hcs; exact ⟨some a, len', cap', hcs⟩
 obtain ⟨ad, len, cap, rfl⟩ := hs
 exact ⟨ad, len, cap, rfl, ⟨n, by obtain ⟨d, p⟩ := y; simpa [Value.cells] using h⟩⟩
def SlOk (x : Nat × Nat) : Prop := x.1 < 65536 ∧ x.2 < 18446744073709551616
theorem c8 : Tryz.prog.cellsOf 5 = 1 := by kernel_rfl
theorem c16 : Tryz.prog.cellsOf 32 = 1 := by kernel_rfl
theorem c64 : Tryz.prog.cellsOf 33 = 1 := by kernel_rfl
theorem spoil_read {H : Type} {enc : TypeId × Value → H} {W : World} {fuel : Nat} {cs : List Value} {x : DataW H × List MemPlace} (hl : cs.length = 2) (h : DataW.trod enc Tryz.prog W 0 (fun _ => true) true fuel 35 cs = some x) :
 ∃ o : Nat × Nat, SlOk o ∧ cs = eSl o := by
 obtain ⟨xs, n, _, rfl, _, hxl, hf⟩ := DataW.trod_struct Tryz.underlying35 h
 match xs, hxl, cs, hl with
 | [y0, y1], _, [u0, u1], _ =>
   have g0 : DataW.trod enc Tryz.prog W 0 (fun _ => true) true n 32 ((([u0, u1] : List Value).drop 0).take (Tryz.prog.cellsOf 32)) = some y0 := hf 0 _ rfl
   have g1 : DataW.trod enc Tryz.prog W 0 (fun _ => true) true n 33 ((([u0, u1] : List Value).drop 1).take (Tryz.prog.cellsOf 33)) = some y1 := hf 1 _ rfl
   rw [c16] at g0
   rw [c64] at g1
   obtain ⟨a0, e0, _, w0⟩ := DataW.trod_int Tryz.underlying32 g0
   obtain ⟨a1, e1, _, w1⟩ := DataW.trod_int Tryz.underlying33 g1
   simp at e0 e1
   subst e0 e1
   have b0 := bounds_u16 w0
   have b1 := bounds_u64 w1
   obtain ⟨n0, rfl⟩ := Int.eq_ofNat_of_zero_le (show 0 ≤ a0 by omega)
   obtain ⟨n1, rfl⟩ := Int.eq_ofNat_of_zero_le (show 0 ≤ a1 by omega)
   exact ⟨(n0, n1), ⟨by simp only []; omega, by simp only []; omega⟩, rfl⟩
end Go.Proofs.YtdmmbnnejbmdpaaGreatDoor
end
