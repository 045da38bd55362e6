/-
  Part of the proof of MendWhole.
-/
import Derived.Test.YtkdhdibjbabgfaaGreatDoorVw13
import Derived.Test.YtkdhdibjbabgfaaGreatDoorVw18
import Derived.Test.YtkdhdibjbabgfaaGreatDoorVw0
set_option maxRecDepth 10000
set_option maxHeartbeats 1000000
set_option linter.unusedVariables false
set_option linter.unusedSimpArgs false
section
namespace Go.Proofs.YtkdhdibjbabgfaaGreatDoor
open Go.RowKit
theorem refChunks_out (W L : Int) (w : World) (h : L < 1 ∨ 64 < L ∨ 65536 < W) :
 Calls Tryz.prog 57 #[.agg #[.int .i64 W, .int .i64 L]] w fun e w' => e = .returned (.int .i64 0) ∧ Below w.heap.size w w' := by
 by_cases a1 : L < 1
 ·clear h
  go_enter Tryz.func57, Tryz.ntmps57
  go_wp2
  go_ret
  exact ⟨rfl, by go_grown⟩
 by_cases a2 : 64 < L
 ·clear h
  go_enter Tryz.func57, Tryz.ntmps57
  go_wp2
  go_ret
  exact ⟨rfl, by go_grown⟩
 have a3 : 65536 < W := by omega
 clear h
 go_enter Tryz.func57, Tryz.ntmps57
 go_wp2
 go_ret
 exact ⟨rfl, by go_grown⟩
def rN (W L : Int) : Int := if gOk W L then gN W L else 0
theorem refChunks_in (W L : Int) (w : World) (h1 : 1 ≤ L) (h2 : L ≤ 64) (h3 : W ≤ 65536) :
 Calls Tryz.prog 57 #[.agg #[.int .i64 W, .int .i64 L]] w fun e w' => e = .returned (.int .i64 (rN W L)) ∧ Below w.heap.size w w' := by
 go_enter Tryz.func57, Tryz.ntmps57
 go_wp2
 go_loop [3] (fun n => ∃ k : Nat, n = .int .i64 k ∧ (k = 0 ∨ 10 + 73 * L + 33 * (k : Int) ≤ W)) (fun n => 2000 - (intOf n).toNat)
 case atStart => exact ⟨0, rfl, .inl rfl⟩
 case round =>
  obtain ⟨k, rfl, hk⟩ := hrel
  have hk2 : (k : Int) ≤ 1990 := by omega
  by_cases hlt : 10 + 73 * L + 33 * ((k : Int) + 1) ≤ W
  ·clear hk
   go_wp2
   go_round
   case rel => exact ⟨k + 1, by go_num, .inr (by omega)⟩
   case measure => simp [intOf]; omega
  ·have Hk := lh hk
   clear hk
   go_wp2
   go_ret
   refine ⟨ret_i ?_, by go_grown⟩
   have hk := Hk.out
   unfold rN
   by_cases ho : gOk W L = true
   ·have := gN_bd ho
    rw [if_pos ho]; omega
   ·rw [if_neg ho]
    have := gOk_f (by simpa using ho : gOk W L = false)
    omega
theorem refChunks_t (W L : Int) (w : World) (h : gOk W L = true) :
 Calls Tryz.prog 57 #[.agg #[.int .i64 W, .int .i64 L]] w fun e w' => e = .returned (.int .i64 (gN W L)) ∧ Below w.heap.size w w' := by
 obtain ⟨h1, h2, h3, h4⟩ := gOk_t h
 have := refChunks_in W L w h1 h2 h3
 rwa [show rN W L = gN W L from if_pos h] at this
theorem refChunks_f (W L : Int) (w : World) (h : gOk W L = false) :
 Calls Tryz.prog 57 #[.agg #[.int .i64 W, .int .i64 L]] w fun e w' => e = .returned (.int .i64 0) ∧ Below w.heap.size w w' := by
 by_cases ho : L < 1 ∨ 64 < L ∨ 65536 < W
 ·exact refChunks_out W L w ho
 ·have := refChunks_in W L w (by omega) (by omega) (by omega)
  rwa [show rN W L = 0 from if_neg (by simp [h])] at this
theorem refRight_t (W L : Int) (w : World) (h : gOk W L = true) :
 Calls Tryz.prog 56 #[.agg #[.int .i64 W, .int .i64 L]] w fun e w' => e = .returned (.bool true) ∧ Below w.heap.size w w' := by
 obtain ⟨n1, n2, n3, n4⟩ := gN_bd h
 have H := lh h
 clear h
 go_enter Tryz.func56, Tryz.ntmps56
 go_wp2_with fail
 refine (refChunks_t W L _ H.out).mono ?_
 rintro e w1 ⟨rfl, hb⟩
 go_wp2_with fail
 go_ret
 exact ⟨rfl, (bZ _ _).trans (hb.mono (by simp))⟩
theorem refRight_f (W L : Int) (w : World) (h : gOk W L = false) :
 Calls Tryz.prog 56 #[.agg #[.int .i64 W, .int .i64 L]] w fun e w' => e = .returned (.bool false) ∧ Below w.heap.size w w' := by
 have H := lh h
 clear h
 go_enter Tryz.func56, Tryz.ntmps56
 go_wp2_with fail
 refine (refChunks_f W L _ H.out).mono ?_
 rintro e w1 ⟨rfl, hb⟩
 go_wp2_with fail
 go_ret
 exact ⟨rfl, (bZ _ _).trans (hb.mono (by simp))⟩
end Go.Proofs.YtkdhdibjbabgfaaGreatDoor
end
section
namespace Go.Proofs.YtkdhdibjbabgfaaGreatDoor
open Go.RowKit Go.ChangeShapes Go.WideShapes Go.Deep Go.Shelf
attribute [local go_sem] Oper.semAt_some
theorem OwnU.walk {w w1 : World} {base : Nat} {v : Value} {l : List Nat} {row : Option Nat} (h : OwnU w base v l) (hg : w.grownBy w1 row) (hr : ∀ r, row = some r → ∃ o : Obj, w.heap[r]? = some o ∧ o.isCells = false) : OwnU w1 base v l := by
 refine World.ownsRow.kept h hg ?_
 rcases h.2 with ⟨rfl, _⟩ | ⟨g, cap, cur, rfl, _, hgb, _⟩
 ·exact .inl rfl
 ·refine .inr fun e' => ?_
  obtain ⟨o, ho, hc⟩ := hr g (by simpa [Value.ownBlock] using e'.symm)
  rw [hgb] at ho; cases ho; cases hc
theorem OwnU.row {w : World} {base g n c : Nat} {l : List Nat} (h : OwnU w base (.slice (some ⟨g, 0, none⟩) n c) l) : base ≤ g ∧ ∃ cur, w.heap[g]? = some (.cells cur 25 (0, 0)) := by
 rcases h.2 with ⟨hv, _⟩ | ⟨g', cap, cur, hv, hb, hg, _⟩
 ·cases hv
 ·cases hv; exact ⟨hb, cur, hg⟩
end Go.Proofs.YtkdhdibjbabgfaaGreatDoor
end
section
namespace Go.Proofs.YtkdhdibjbabgfaaGreatDoor
open Go.RowKit
theorem has_yes (W L i : Int) (w : World) (h : gOk W L = true) (hi : 0 ≤ i) (hi2 : i < L) :
 Calls Tryz.prog 96 #[.agg #[.int .i64 W, .int .i64 L], .int .i64 i] w fun e w' => e = .returned (.bool true) ∧ Below w.heap.size w w' := by
 have H := lh h
 clear h
 go_enter Tryz.func96, Tryz.ntmps96
 go_wp2_with fail
 refine (right_t W L _ H.out).mono ?_
 rintro e w1 ⟨rfl, hb⟩
 have k1 := (C2.new w (.int .i64 W) (.int .i64 L) 33).keep hb
 obtain ⟨c0, c1⟩ := id k1
 go_wp2_with fail
 go_ret
 exact ⟨ret_b (by simp), (bZ _ _).trans (hb.mono (by simp))⟩
theorem has_t (W L i : Int) (w : World) (h : lOk W L i = true) :
 Calls Tryz.prog 96 #[.agg #[.int .i64 W, .int .i64 L], .int .i64 i] w fun e w' => e = .returned (.bool true) ∧ Below w.heap.size w w' := has_yes W L i w (lOk_t h).1 (lOk_t h).2.1 (lOk_t h).2.2
theorem mark_t (W L i : Int) (w : World) (h : lOk W L i = true) :
 Calls Tryz.prog 69 #[.agg #[.int .i64 W, .int .i64 L], .int .i64 i] w fun e w' => e = .returned (.int .i64 (10 + i)) ∧ Below w.heap.size w w' := by
 obtain ⟨h0, h1, h2⟩ := lOk_t h
 obtain ⟨h3, h4, _, _⟩ := gOk_t h0
 clear h0
 have H := lh h
 clear h
 go_enter Tryz.func69, Tryz.ntmps69
 go_wp2_with fail
 refine (has_t W L i _ H.out).mono ?_
 rintro e w1 ⟨rfl, hb⟩
 go_wp2_with fail
 go_ret
 exact ⟨rfl, (bZ _ _).trans (hb.mono (by simp))⟩
theorem words_t (W L i : Int) (w : World) (h : lOk W L i = true) :
 Calls Tryz.prog 105 #[.agg #[.int .i64 W, .int .i64 L], .int .i64 i] w fun e w' => ∃ b, e = .returned (.func (.func 131) #[] #[.pointer (some ⟨b, 0, none⟩)]) ∧ Cap w' b (.int .i64 (10 + L + i * 72)) ∧ w.heap.size ≤ b ∧ Below w.heap.size w w' := by
 obtain ⟨h0, h1, h2⟩ := lOk_t h
 obtain ⟨h3, h4, _, _⟩ := gOk_t h0
 clear h0
 have H := lh h
 clear h
 go_enter Tryz.func105, Tryz.ntmps105
 go_wp2_with fail
 refine (has_t W L i _ H.out).mono ?_
 rintro e w1 ⟨rfl, hb⟩
 have k1 := (C2.new w (.int .i64 W) (.int .i64 L) 33).keep hb
 obtain ⟨c0, c1⟩ := id k1
 have lt1 := k1.lt
 have hB : Below w.heap.size w w1 := (bZ _ _).trans (hb.mono (by simp))
 go_wp2_with fail
 refine (lane_any W L i _ h3 h4 h1 (by omega)).mono ?_
 rintro e w2 ⟨rfl, hb2⟩
 obtain ⟨hB2, hz2⟩ := belowStep hB (Nat.le_of_lt lt1) hb2
 go_wp2_with fail
 go_ret
 exact ⟨w2.heap.size, rfl, by unfold Cap; simp [go_sem], hz2, hB2.alloc hz2 _⟩
theorem words2_any (f s m : Int) (b : Nat) (w : World) (hc : w.cell? ⟨b, 0, none⟩ = some (.int .i64 f)) (h1 : 0 ≤ f) (h2 : f ≤ 100000) (h3 : 0 ≤ s) (h4 : s ≤ 100) :
 Calls Tryz.prog 131 #[.int .i64 s, .int .i64 m, .pointer (some ⟨b, 0, none⟩)] w fun e w' => e = .returned (.agg #[.int .i64 (f + s), .int .i64 m]) ∧ Below w.heap.size w w' := by
 have hlt : b < w.heap.size := World.block_lt_of_cell? w _ hc
 go_enter Tryz.func131, Tryz.ntmps131
 go_wp2
 go_returns
 exact ⟨rfl, by go_grown⟩
theorem log_t (W L i : Int) (w : World) (h : lOk W L i = true) :
 Calls Tryz.prog 76 #[.agg #[.int .i64 W, .int .i64 L], .int .i64 i] w fun e w' => e = .returned (.agg #[.int .i64 (10 + L + i * 72), .int .i64 32]) ∧ Below w.heap.size w w' := by
 obtain ⟨h0, h1, h2⟩ := lOk_t h
 obtain ⟨h3, h4, _, _⟩ := gOk_t h0
 clear h0
 have H := lh h
 clear h
 go_enter Tryz.func76, Tryz.ntmps76
 go_wp2_with fail
 refine (words_t W L i _ H.out).mono ?_
 rintro e w1 ⟨b, rfl, hcap, hbl, hb⟩
 have k1 := (C2.new (w.alloc (.cells #[.int .i64 W, .int .i64 L] 33)) (.int .i64 0) (.int .i64 0) 51).keep hb
 have f1 := (F2.new (w.alloc (.cells #[.int .i64 W, .int .i64 L] 33)) (.int .i64 0) (.int .i64 0) 51).keep (by simp) hb
 simp only [World.size_alloc] at k1 f1
 have hB : Below w.heap.size w w1 := ((bZ _ _).alloc (by simp) _).trans (hb.mono (by simp; omega))
 have lt1 := k1.lt
 go_wp2_with fail
 refine (words2_any (10 + L + i * 72) 0 32 b _ hcap (by omega) (by omega) (by omega) (by omega)).mono ?_
 rintro e w2 ⟨rfl, hb2⟩
 have k2 := k1.keep hb2
 have f2 := f1.keep lt1 hb2
 obtain ⟨hB2, hz2⟩ := belowStep hB (by omega) hb2
 obtain ⟨c0, c1⟩ := id k2
 obtain ⟨g0, g1⟩ := id f2
 go_wp2_with fail
 refine bodyPost_ret (v := .agg #[.int .i64 (10 + L + i * 72), .int .i64 32]) (by simp [results, Tryz.results76, go_sem, c0, c1]) rfl ⟨rfl, ?_⟩
 go_grown
theorem redo_t (W L i : Int) (w : World) (h : lOk W L i = true) :
 Calls Tryz.prog 104 #[.agg #[.int .i64 W, .int .i64 L], .int .i64 i] w fun e w' => e = .returned (.agg #[.int .i64 (10 + L + i * 72 + 32), .int .i64 40]) ∧ Below w.heap.size w w' := by
 obtain ⟨h0, h1, h2⟩ := lOk_t h
 obtain ⟨h3, h4, _, _⟩ := gOk_t h0
 clear h0
 have H := lh h
 clear h
 go_enter Tryz.func104, Tryz.ntmps104
 go_wp2_with fail
 refine (words_t W L i _ H.out).mono ?_
 rintro e w1 ⟨b, rfl, hcap, hbl, hb⟩
 have k1 := (C2.new (w.alloc (.cells #[.int .i64 W, .int .i64 L] 33)) (.int .i64 0) (.int .i64 0) 51).keep hb
 have f1 := (F2.new (w.alloc (.cells #[.int .i64 W, .int .i64 L] 33)) (.int .i64 0) (.int .i64 0) 51).keep (by simp) hb
 simp only [World.size_alloc] at k1 f1
 have hB : Below w.heap.size w w1 := ((bZ _ _).alloc (by simp) _).trans (hb.mono (by simp; omega))
 have lt1 := k1.lt
 go_wp2_with fail
 refine (words2_any (10 + L + i * 72) 32 40 b _ hcap (by omega) (by omega) (by omega) (by omega)).mono ?_
 rintro e w2 ⟨rfl, hb2⟩
 have k2 := k1.keep hb2
 have f2 := f1.keep lt1 hb2
 obtain ⟨hB2, hz2⟩ := belowStep hB (by omega) hb2
 obtain ⟨c0, c1⟩ := id k2
 obtain ⟨g0, g1⟩ := id f2
 go_wp2_with fail
 refine bodyPost_ret (v := .agg #[.int .i64 (10 + L + i * 72 + 32), .int .i64 40]) (by simp [results, Tryz.results104, go_sem, c0, c1]) rfl ⟨rfl, ?_⟩
 go_grown
end Go.Proofs.YtkdhdibjbabgfaaGreatDoor
end
