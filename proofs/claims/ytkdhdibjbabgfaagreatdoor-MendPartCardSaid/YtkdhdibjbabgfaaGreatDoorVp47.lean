/-
  Part of the proof of MendPart.
-/
import Derived.Test.YtkdhdibjbabgfaaGreatDoorVp33
import Derived.Test.YtkdhdibjbabgfaaGreatDoorVp7
import Derived.Test.YtkdhdibjbabgfaaGreatDoorVp0
set_option linter.unusedVariables false
set_option linter.unusedSimpArgs false
namespace Go.Proofs.YtkdhdibjbabgfaaGreatDoor
open Go.RowKit Go.ChangeShapes Go.WideShapes Go.Deep
theorem OwnU.keepG {w w1 : World} {base g : Nat} {v : Value} {l : List Nat} (h : OwnU w base v l) (hb : Below g w w1) (hg : ∀ b, v.ownBlock = some b → b < g) : OwnU w1 base v l := by
 refine ⟨h.1, ?_⟩
 rcases h.2 with h2 | ⟨g', cap, cur, hv, hbg, hgc, h1, h2, h3, h4⟩
 ·exact .inl h2
 ·exact .inr ⟨g', cap, cur, hv, hbg, by rw [hb.block g' (hg g' (by rw [hv]; rfl))]; exact hgc, h1, h2, h3, h4⟩
theorem OwnU.lt {w : World} {base : Nat} {v : Value} {l : List Nat} (h : OwnU w base v l) : ∀ k, v.ownBlock = some k → base ≤ k ∧ k < w.heap.size := World.ownsRow.lt h
theorem OwnU.sl {w : World} {base : Nat} {v : Value} {l : List Nat} {m : Nat} (h : OwnU w base v l) (hm : l.length = m) : ∃ A c, v = .slice A m c := by
 rcases h.2 with ⟨h1, h2⟩ | ⟨g', cap', cur, h1, _⟩
 ·exact ⟨none, 0, by rw [h1, ← hm, h2]⟩
 ·exact ⟨_, _, by rw [h1, hm]⟩
theorem C5.grown {w w1 : World} {g : Nat} {k c l m b : Int} {row : Option Nat} (h : C5 w g k c l m b) (hg : w.grownBy w1 row) (hr : row ≠ some g) : C5 w1 g k c l m b := by
 have hc : ∀ o, w1.cell? ⟨g, o, none⟩ = w.cell? ⟨g, o, none⟩ := fun o => World.cell?_of_block (hg.block g h.lt (fun e => hr e.symm))
 obtain ⟨h0, h1, h2, h3, h4⟩ := h
 exact ⟨by rw [hc]; exact h0, by rw [hc]; exact h1, by rw [hc]; exact h2, by rw [hc]; exact h3, by rw [hc]; exact h4⟩
theorem appU1 {w : World} {base y : Nat} {v : Value} {l : List Nat} (h : OwnU w base v l) (hb : base ≤ w.heap.size) (hl : l.length ≤ 100000) (t : TypeId) :
 ∃ v' w', (Builtin.append_ #[23, 23] 23 #[v, .slice (some ⟨w.heap.size, 0, none⟩) 1 1]).run Tryz.prog (w.alloc (.cells #[.int .u64 (y : Nat)] t)) = .ok v' w' ∧ OwnU w' base v' (l ++ [y]) ∧ Below base w w' ∧ (w.alloc (.cells #[.int .u64 (y : Nat)] t)).grownBy w' v.ownBlock ∧ (v'.ownBlock = v.ownBlock ∨ v'.ownBlock = some (w.heap.size + 1)) := by
 have hA : Below w.heap.size w (w.alloc (.cells #[.int .u64 (y : Nat)] t)) := bZ _ _
 obtain ⟨v', w', h1, h2, h3, h4⟩ := appU (y := y) (h.keep hA) (cell_new1 w (.int .u64 (y : Nat)) t) (by simp; omega) (by omega)
 refine ⟨v', w', h1, ?_, (hA.mono hb).trans (grown_below h3 (by simp; omega) (fun k hk => (h.lt k hk).1)), h3, by simpa using h4⟩
 unfold OwnU
 rw [List.length_append, List.map_append]
 exact h2
theorem okN_word {k c l m b : Int} (h : rightB_ti k c l m b = true) (b0 : 0 ≤ b) : ∃ x : Nat, wordI k c l m b = (x : Int) ∧ okN x = true ∧ ((kN x : Nat) : Int) = k ∧ ((mN x : Nat) : Int) = m := by
 obtain ⟨k0, k1, c0, c1, l0, l1, m0, m1, b1⟩ := right_bd h b0
 obtain ⟨g0, g1, g2, g3, g4, x0, x1⟩ := word_parts k c l m b k0 k1 c0 c1 l0 l1 m0 m1 b0 b1
 obtain ⟨x, hx⟩ := Int.eq_ofNat_of_zero_le x0
 refine ⟨x, hx, ?_, ?_, ?_⟩
 ·rw [← okN_dec, ← hx]
  unfold decB_ti
  rw [g0, g1, g2, g3, g4, h]
  simpa using x1
 ·rw [← (gN_ti x).1, ← hx, g0]
 ·rw [← (gN_ti x).2.2.2.1, ← hx, g3]
end Go.Proofs.YtkdhdibjbabgfaaGreatDoor
