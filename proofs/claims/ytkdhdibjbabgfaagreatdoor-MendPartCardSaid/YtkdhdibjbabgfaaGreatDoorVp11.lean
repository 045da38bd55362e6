/-
  Part of the proof of MendPart.
-/
import Derived.Test.YtkdhdibjbabgfaaGreatDoorVp1
import Derived.Test.YtkdhdibjbabgfaaGreatDoorVp10
import Derived.Test.YtkdhdibjbabgfaaGreatDoorVp6
import Derived.Test.YtkdhdibjbabgfaaGreatDoorVp8
import Derived.Test.YtkdhdibjbabgfaaGreatDoorVp9
import Derived.Test.YtkdhdibjbabgfaaGreatDoorRows
import Derived.Deep.RegionHeld3
import Derived.WalkLawsBesides
import Derived.WalkSpells
import Derived.Test.YtkdhdibjbabgfaaGreatDoorVp0
set_option maxRecDepth 10000
set_option maxHeartbeats 400000
set_option linter.unusedVariables false
set_option linter.unusedSimpArgs false
section
namespace Go.Proofs.YtkdhdibjbabgfaaGreatDoor
open Go.RowKit
def lOk (W L i : Int) : Bool := gOk W L && decide (0 ≤ i ∧ i < L)
theorem lOk_t {W L i : Int} (h : lOk W L i = true) : gOk W L = true ∧ 0 ≤ i ∧ i < L := by
 simp only [lOk, Bool.and_eq_true, decide_eq_true_eq] at h; exact h
def Cap (w : World) (b : Nat) (x : Value) : Prop := w.cell? ⟨b, 0, none⟩ = some x
end Go.Proofs.YtkdhdibjbabgfaaGreatDoor
end
section
namespace Go.Proofs.YtkdhdibjbabgfaaGreatDoor
open Go.RowKit
theorem chunk_yes (W L i : Int) (w : World) (h : gOk W L = true) (hi : 0 ≤ i) (hi2 : i < gN W L) :
 Calls Tryz.prog 78 #[.agg #[.int .i64 W, .int .i64 L], .int .i64 i] w fun e w' => e = .returned (.agg #[.int .i64 (cFrom W L i), .int .i64 32]) ∧ Below w.heap.size w w' := by
 obtain ⟨n1, n2, n3, n4⟩ := gN_bd h
 obtain ⟨h1, h2, h3, h4⟩ := gOk_t h
 have H := lh h
 clear h
 go_enter Tryz.func78, Tryz.ntmps78
 go_wp2_with fail
 refine (table_t W L _ H.out).mono ?_
 rintro e w1 ⟨rfl, hb⟩
 have k1 := (C2.new (w.alloc (.cells #[.int .i64 W, .int .i64 L] 33)) (.int .i64 0) (.int .i64 0) 51).keep hb
 have f1 := (F2.new (w.alloc (.cells #[.int .i64 W, .int .i64 L] 33)) (.int .i64 0) (.int .i64 0) 51).keep (by simp) hb
 simp only [World.size_alloc] at k1 f1
 have lt1 := k1.lt
 obtain ⟨c0, c1⟩ := id k1
 obtain ⟨g0, g1⟩ := id f1
 have hB : Below w.heap.size w w1 := ((bZ _ _).alloc (by simp) _).trans (hb.mono (by simp; omega))
 go_wp2_with fail
 refine bodyPost_ret (v := .agg #[.int .i64 (cFrom W L i), .int .i64 32]) (by simp [results, Tryz.results78, go_sem, c0, c1, lt1, cFrom]) rfl ⟨rfl, ?_⟩
 go_grown
theorem of_yes (W L i : Int) (w : World) (h : gOk W L = true) (hi : cFrom W L 0 ≤ i) (hi2 : i < cFrom W L (gN W L)) :
 Calls Tryz.prog 126 #[.agg #[.int .i64 W, .int .i64 L], .int .i64 i] w fun e w' => e = .returned (.tuple #[.int .i64 ((i - cFrom W L 0) / 32), .int .i64 ((i - cFrom W L 0) % 32)]) ∧ Below w.heap.size w w' := by
 obtain ⟨n1, n2, n3, n4⟩ := gN_bd h
 obtain ⟨h1, h2, h3, h4⟩ := gOk_t h
 unfold cFrom at hi hi2 ⊢
 have H := lh h
 clear h
 go_enter Tryz.func126, Tryz.ntmps126
 go_wp2_with fail
 refine (table_t W L _ H.out).mono ?_
 rintro e w1 ⟨rfl, hb⟩
 have hz1 : w.heap.size < w1.heap.size := by have := hb.size; simp at this; omega
 have hB : Below w.heap.size w w1 := (bZ _ _).trans (hb.mono (by simp))
 go_wp2_with fail
 go_ret2
 exact ⟨ret_ii (by omega) (by omega), hB.alloc (by omega) _⟩
theorem of_low (W L i : Int) (w : World) (h : gOk W L = true) (hi : i < cFrom W L 0) :
 Calls Tryz.prog 126 #[.agg #[.int .i64 W, .int .i64 L], .int .i64 i] w fun e w' => e = .returned (.tuple #[.int .i64 (-1), .int .i64 (-1)]) ∧ Below w.heap.size w w' := by
 obtain ⟨n1, n2, n3, n4⟩ := gN_bd h
 obtain ⟨h1, h2, h3, h4⟩ := gOk_t h
 unfold cFrom at hi
 have H := lh h
 clear h
 go_enter Tryz.func126, Tryz.ntmps126
 go_wp2_with fail
 refine (table_t W L _ H.out).mono ?_
 rintro e w1 ⟨rfl, hb⟩
 have hz1 : w.heap.size < w1.heap.size := by have := hb.size; simp at this; omega
 have hB : Below w.heap.size w w1 := (bZ _ _).trans (hb.mono (by simp))
 go_wp2_with fail
 go_ret2
 exact ⟨ret_ii (by omega) (by omega), hB.alloc (by omega) _⟩
theorem of_high (W L i : Int) (w : World) (h : gOk W L = true) (hi : cFrom W L 0 ≤ i) (hi2 : cFrom W L (gN W L) ≤ i) :
 Calls Tryz.prog 126 #[.agg #[.int .i64 W, .int .i64 L], .int .i64 i] w fun e w' => e = .returned (.tuple #[.int .i64 (-1), .int .i64 (-1)]) ∧ Below w.heap.size w w' := by
 obtain ⟨n1, n2, n3, n4⟩ := gN_bd h
 obtain ⟨h1, h2, h3, h4⟩ := gOk_t h
 unfold cFrom at hi hi2
 have H := lh h
 clear h
 go_enter Tryz.func126, Tryz.ntmps126
 go_wp2_with fail
 refine (table_t W L _ H.out).mono ?_
 rintro e w1 ⟨rfl, hb⟩
 have hz1 : w.heap.size < w1.heap.size := by have := hb.size; simp at this; omega
 have hB : Below w.heap.size w w1 := (bZ _ _).trans (hb.mono (by simp))
 go_wp2_with fail
 go_ret2
 exact ⟨ret_ii (by omega) (by omega), hB.alloc (by omega) _⟩
end Go.Proofs.YtkdhdibjbabgfaaGreatDoor
end
