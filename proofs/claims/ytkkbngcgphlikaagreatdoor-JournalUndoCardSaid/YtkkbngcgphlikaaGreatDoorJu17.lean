/-
  Part of the proof of JournalUndo.
-/
import Derived.Test.YtkkbngcgphlikaaGreatDoorJu16
import Derived.Test.YtkkbngcgphlikaaGreatDoorRows
import Derived.Test.YtkkbngcgphlikaaGreatDoorJu0
set_option maxRecDepth 10000
set_option maxHeartbeats 1000000
set_option linter.unusedVariables false
set_option linter.unusedSimpArgs false
section
namespace Go.Proofs.YtkkbngcgphlikaaGreatDoor
open Go.RowKit
def lOk (W L i : Int) : Bool := gOk W L && decide (0 ≤ i ∧ i < L)
theorem lOk_t {W L i : Int} (h : lOk W L i = true) : gOk W L = true ∧ 0 ≤ i ∧ i < L := by
 simp only [lOk, Bool.and_eq_true, decide_eq_true_eq] at h; exact h
def Cap (w : World) (b : Nat) (x : Value) : Prop := w.cell? ⟨b, 0, none⟩ = some x
end Go.Proofs.YtkkbngcgphlikaaGreatDoor
end
section
namespace Go.Proofs.YtkkbngcgphlikaaGreatDoor
open Go.RowKit
theorem refChunks_out (W L : Int) (w : World) (h : L < 1 ∨ 64 < L ∨ 65536 < W) :
 Calls Tryz.prog 91 #[.agg #[.int .i64 W, .int .i64 L]] w fun e w' => e = .returned (.int .i64 0) ∧ Below w.heap.size w w' := by
 by_cases a1 : L < 1
 ·clear h
  go_enter Tryz.func91, Tryz.ntmps91
  go_wp2
  go_ret
  exact ⟨rfl, by go_grown⟩
 by_cases a2 : 64 < L
 ·clear h
  go_enter Tryz.func91, Tryz.ntmps91
  go_wp2
  go_ret
  exact ⟨rfl, by go_grown⟩
 have a3 : 65536 < W := by omega
 clear h
 go_enter Tryz.func91, Tryz.ntmps91
 go_wp2
 go_ret
 exact ⟨rfl, by go_grown⟩
def rN (W L : Int) : Int := if gOk W L then gN W L else 0
theorem refChunks_in (W L : Int) (w : World) (h1 : 1 ≤ L) (h2 : L ≤ 64) (h3 : W ≤ 65536) :
 Calls Tryz.prog 91 #[.agg #[.int .i64 W, .int .i64 L]] w fun e w' => e = .returned (.int .i64 (rN W L)) ∧ Below w.heap.size w w' := by
 go_enter Tryz.func91, Tryz.ntmps91
 go_wp2
 go_loop [3] (fun n => ∃ k : Nat, n = .int .i64 k ∧ (k = 0 ∨ 10 + 73 * L + 33 * (k : Int) ≤ W)) (fun n => 2000 - (intOf n).toNat)
 case atStart => exact ⟨0, rfl, .inl rfl⟩
 obtain ⟨k, rfl, hk⟩ := hrel
 have hk2 : (k : Int) ≤ 1990 := by omega
 by_cases hlt : 10 + 73 * L + 33 * ((k : Int) + 1) ≤ W
 ·clear hk
  go_wp2
  go_round
  case rel => exact ⟨k + 1, by go_num, .inr (by omega)⟩
  simp [intOf]; omega
 have Hk := lh hk
 clear hk
 go_wp2
 go_ret
 refine ⟨ret_i ?_, by go_grown⟩
 have hk := Hk.out
 unfold rN
 by_cases ho : gOk W L = true
 ·have := gN_bd ho
  rw [if_pos ho]; omega
 rw [if_neg ho]
 have := gOk_f (by simpa using ho : gOk W L = false)
 omega
theorem refChunks_t (W L : Int) (w : World) (h : gOk W L = true) :
 Calls Tryz.prog 91 #[.agg #[.int .i64 W, .int .i64 L]] w fun e w' => e = .returned (.int .i64 (gN W L)) ∧ Below w.heap.size w w' := by
 obtain ⟨h1, h2, h3, h4⟩ := gOk_t h
 have := refChunks_in W L w h1 h2 h3
 rwa [show rN W L = gN W L from if_pos h] at this
theorem refRight_t (W L : Int) (w : World) (h : gOk W L = true) :
 Calls Tryz.prog 101 #[.agg #[.int .i64 W, .int .i64 L]] w fun e w' => e = .returned (.bool true) ∧ Below w.heap.size w w' := by
 obtain ⟨n1, n2, n3, n4⟩ := gN_bd h
 have H := lh h
 clear h
 go_enter Tryz.func101, Tryz.ntmps101
 go_wp2_with fail
 refine (refChunks_t W L _ H.out).mono ?_
 rintro e w1 ⟨rfl, hb⟩
 go_wp2_with fail
 go_ret
 exact ⟨rfl, (bZ _ _).trans (hb.mono (by simp))⟩
end Go.Proofs.YtkkbngcgphlikaaGreatDoor
end
section
namespace Go.Proofs.YtkkbngcgphlikaaGreatDoor
open Go.RowKit Go.ChangeShapes Go.WideShapes Go.Deep
def wN (o : Ox) : Nat := (wordOp o).toNat
def encW_rd (l : List Ox) : List Nat := l.flatMap fun o => [wN o, o.2.2]
def encS (l : List Ox) : List Nat := encW_rd l ++ [moreN 0 (encW_rd l)]
theorem wN_eq {o : Ox} (h : wrongB o = false) : wordOp o = ((wN o : Nat) : Int) := by
 have := wrongB_f h
 unfold wN wordOp
 omega
theorem wN_lt {o : Ox} (h : wrongB o = false) : wN o < 262144 := by
 have := wrongB_f h
 unfold wN wordOp
 omega
theorem encW_len (l : List Ox) : (encW_rd l).length = 2 * l.length := by
 induction l with
 | nil => rfl
 | cons o l ih => simp only [encW_rd, List.flatMap_cons, List.length_append, List.length_cons, List.length_nil] at *; omega
theorem encW_take (l : List Ox) (k : Nat) (h : k < l.length) : encW_rd (l.take (k + 1)) = encW_rd (l.take k) ++ [wN (l.getD k default), (l.getD k default).2.2] := by
 unfold encW_rd
 rw [List.take_succ_eq_append_getElem h, List.flatMap_append, List.getD_eq_getElem?_getD, List.getElem?_eq_getElem h]
 simp
theorem encW_WL {l : List Ox} (h : ∀ o ∈ l, wrongB o = false) (hv : OVs l) : WL (encW_rd l) := by
 intro x hx
 obtain ⟨o, ho, hx⟩ := List.mem_flatMap.1 hx
 simp only [List.mem_cons, List.not_mem_nil, or_false] at hx
 rcases hx with rfl | rfl
 ·have := wN_lt (h o ho); omega
 exact hv o ho
theorem KL.two (w : World) (a b : Nat) (t : TypeId) : KL .u64 (w.alloc (.cells #[.int .u64 (a : Nat), .int .u64 (b : Nat)] t)) (.slice (some ⟨w.heap.size, 0, none⟩) 2 2) [a, b] := by
 refine ⟨_, 2, rfl, fun _ => ⟨w.heap.size, 0, rfl, by simp, by simp, fun i hi => ?_⟩⟩
 match i, hi with
 | 0, _ => simp [go_sem]
 | 1, _ => simp [go_sem]
 | i + 2, hi => simp at hi; omega
end Go.Proofs.YtkkbngcgphlikaaGreatDoor
end
section
namespace Go.Proofs.YtkkbngcgphlikaaGreatDoor
open Go.RowKit
theorem chunk_yes (W L i : Int) (w : World) (h : gOk W L = true) (hi : 0 ≤ i) (hi2 : i < gN W L) :
 Calls Tryz.prog 88 #[.agg #[.int .i64 W, .int .i64 L], .int .i64 i] w fun e w' => e = .returned (.agg #[.int .i64 (cFrom W L i), .int .i64 32]) ∧ Below w.heap.size w w' := by
 obtain ⟨n1, n2, n3, n4⟩ := gN_bd h
 obtain ⟨h1, h2, h3, h4⟩ := gOk_t h
 have H := lh h
 clear h
 go_enter Tryz.func88, Tryz.ntmps88
 go_wp2_with fail
 refine (table_t W L _ H.out).mono ?_
 rintro e w1 ⟨rfl, hb⟩
 have k1 := (C2.new (w.alloc (.cells #[.int .i64 W, .int .i64 L] 37)) (.int .i64 0) (.int .i64 0) 70).keep hb
 have f1 := (F2.new (w.alloc (.cells #[.int .i64 W, .int .i64 L] 37)) (.int .i64 0) (.int .i64 0) 70).keep (by simp) hb
 simp only [World.size_alloc] at k1 f1
 have lt1 := k1.lt
 obtain ⟨c0, c1⟩ := id k1
 obtain ⟨g0, g1⟩ := id f1
 have hB : Below w.heap.size w w1 := ((bZ _ _).alloc (by simp) _).trans (hb.mono (by simp; omega))
 go_wp2_with fail
 refine bodyPost_ret (v := .agg #[.int .i64 (cFrom W L i), .int .i64 32]) (by simp [results, Tryz.results88, go_sem, c0, c1, lt1, cFrom]) rfl ⟨rfl, ?_⟩
 go_grown
theorem of_yes (W L i : Int) (w : World) (h : gOk W L = true) (hi : cFrom W L 0 ≤ i) (hi2 : i < cFrom W L (gN W L)) :
 Calls Tryz.prog 130 #[.agg #[.int .i64 W, .int .i64 L], .int .i64 i] w fun e w' => e = .returned (.tuple #[.int .i64 ((i - cFrom W L 0) / 32), .int .i64 ((i - cFrom W L 0) % 32)]) ∧ Below w.heap.size w w' := by
 obtain ⟨n1, n2, n3, n4⟩ := gN_bd h
 obtain ⟨h1, h2, h3, h4⟩ := gOk_t h
 unfold cFrom at hi hi2 ⊢
 have H := lh h
 clear h
 go_enter Tryz.func130, Tryz.ntmps130
 go_wp2_with fail
 refine (table_t W L _ H.out).mono ?_
 rintro e w1 ⟨rfl, hb⟩
 have hz1 : w.heap.size < w1.heap.size := by have := hb.size; simp at this; omega
 have hB : Below w.heap.size w w1 := (bZ _ _).trans (hb.mono (by simp))
 go_wp2_with fail
 go_ret2
 exact ⟨ret_ii (by omega) (by omega), hB.alloc (by omega) _⟩
theorem of_low (W L i : Int) (w : World) (h : gOk W L = true) (hi : i < cFrom W L 0) :
 Calls Tryz.prog 130 #[.agg #[.int .i64 W, .int .i64 L], .int .i64 i] w fun e w' => e = .returned (.tuple #[.int .i64 (-1), .int .i64 (-1)]) ∧ Below w.heap.size w w' := by
 obtain ⟨n1, n2, n3, n4⟩ := gN_bd h
 obtain ⟨h1, h2, h3, h4⟩ := gOk_t h
 unfold cFrom at hi
 have H := lh h
 clear h
 go_enter Tryz.func130, Tryz.ntmps130
 go_wp2_with fail
 refine (table_t W L _ H.out).mono ?_
 rintro e w1 ⟨rfl, hb⟩
 have hz1 : w.heap.size < w1.heap.size := by have := hb.size; simp at this; omega
 have hB : Below w.heap.size w w1 := (bZ _ _).trans (hb.mono (by simp))
 go_wp2_with fail
 go_ret2
 exact ⟨ret_ii (by omega) (by omega), hB.alloc (by omega) _⟩
theorem of_high (W L i : Int) (w : World) (h : gOk W L = true) (hi : cFrom W L 0 ≤ i) (hi2 : cFrom W L (gN W L) ≤ i) :
 Calls Tryz.prog 130 #[.agg #[.int .i64 W, .int .i64 L], .int .i64 i] w fun e w' => e = .returned (.tuple #[.int .i64 (-1), .int .i64 (-1)]) ∧ Below w.heap.size w w' := by
 obtain ⟨n1, n2, n3, n4⟩ := gN_bd h
 obtain ⟨h1, h2, h3, h4⟩ := gOk_t h
 unfold cFrom at hi hi2
 have H := lh h
 clear h
 go_enter Tryz.func130, Tryz.ntmps130
 go_wp2_with fail
 refine (table_t W L _ H.out).mono ?_
 rintro e w1 ⟨rfl, hb⟩
 have hz1 : w.heap.size < w1.heap.size := by have := hb.size; simp at this; omega
 have hB : Below w.heap.size w w1 := (bZ _ _).trans (hb.mono (by simp))
 go_wp2_with fail
 go_ret2
 exact ⟨ret_ii (by omega) (by omega), hB.alloc (by omega) _⟩
end Go.Proofs.YtkkbngcgphlikaaGreatDoor
end
