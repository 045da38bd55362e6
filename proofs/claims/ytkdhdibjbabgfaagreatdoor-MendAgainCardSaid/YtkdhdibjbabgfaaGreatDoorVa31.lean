/-
  Part of the proof of MendAgain.
-/
import Derived.Test.YtkdhdibjbabgfaaGreatDoorVa10
import Derived.Test.YtkdhdibjbabgfaaGreatDoorVa11
import Derived.Test.YtkdhdibjbabgfaaGreatDoorVa12
section
set_option linter.unusedVariables false
set_option linter.unusedSimpArgs false
namespace Go.Proofs.YtkdhdibjbabgfaaGreatDoor
open Go.RowKit Go.ChangeShapes Go.WideShapes Go.Deep
theorem wp_append_run {P : Program} {w w' : World} {o : Oper} {a : Act} {K : Act → World → Prop} {Q : Exit → Act → World → Prop} (s x : Operand) (t u : TypeId)
 (hop : o.op = Op.call { callee := Callee.builtin Builtin.append, args := #[s, x], argTypes := #[t, u] }) (vs vx v : Value) (hs : a.eval s = vs) (hx : a.eval x = vx)
 (hrun : (Builtin.append_ #[t, u] o.type #[vs, vx]).run P w = .ok v w') (h : K (a.put o.dst v) w') : Oper.wp P o a w K Q := by
 unfold Oper.wp
 simp [execOp, hop, resolve, invoke, builtin, hs, hx, hrun, Result.andThen]
 exact h
theorem KL.mid {w : World} {A : Option Addr} {n cap : Nat} {l : List Nat} (h : KL .u64 w (.slice A n cap) l) (t m : Nat) (ht : t + m ≤ n) : KL .u64 w (.slice (if cap = t then A else A.map (·.add (t * 1))) (t + m - t) (cap - t)) ((l.drop t).take m) := by
 have hl : l.length = n := by obtain ⟨A', c', hv, _⟩ := h; cases hv; rfl
 rw [Nat.add_sub_cancel_left]
 exact (h.drop t (by omega)).take m (by rw [List.length_drop]; omega)
end Go.Proofs.YtkdhdibjbabgfaaGreatDoor
end
section
namespace Go.Proofs.YtkdhdibjbabgfaaGreatDoor
open Go.RowKit
set_option maxRecDepth 10000 in
set_option maxHeartbeats 400000 in
theorem has_yes (W L i : Int) (w : World) (h : gOk W L = true) (hi : 0 ≤ i) (hi2 : i < L) :
 Calls Tryz.prog 96 #[.agg #[.int .i64 W, .int .i64 L], .int .i64 i] w fun e w' => e = .returned (.bool true) ∧ Below w.heap.size w w' := by
 have H := Lib.hid h
 clear h
 go_enter Tryz.func96, Tryz.ntmps96
 go_wp2_with fail
 refine (right_t W L _ H.out).mono ?_
 rintro e w1 ⟨rfl, hb⟩
 have k1 := (C2.new w (.int .i64 W) (.int .i64 L) 33).keep hb
 obtain ⟨c0, c1⟩ := id k1
 go_wp2_with fail
 go_ret
 exact ⟨ret_b (by simp), ((Below.refl _ _).alloc (Nat.le_refl _) _).trans (hb.mono (by simp))⟩
theorem has_t (W L i : Int) (w : World) (h : lOk W L i = true) :
 Calls Tryz.prog 96 #[.agg #[.int .i64 W, .int .i64 L], .int .i64 i] w fun e w' => e = .returned (.bool true) ∧ Below w.heap.size w w' := has_yes W L i w (lOk_t h).1 (lOk_t h).2.1 (lOk_t h).2.2
set_option maxRecDepth 10000 in
set_option maxHeartbeats 400000 in
theorem mark_t (W L i : Int) (w : World) (h : lOk W L i = true) :
 Calls Tryz.prog 69 #[.agg #[.int .i64 W, .int .i64 L], .int .i64 i] w fun e w' => e = .returned (.int .i64 (10 + i)) ∧ Below w.heap.size w w' := by
 obtain ⟨h0, h1, h2⟩ := lOk_t h
 obtain ⟨h3, h4, _, _⟩ := gOk_t h0
 clear h0
 have H := Lib.hid h
 clear h
 go_enter Tryz.func69, Tryz.ntmps69
 go_wp2_with fail
 refine (has_t W L i _ H.out).mono ?_
 rintro e w1 ⟨rfl, hb⟩
 go_wp2_with fail
 go_ret
 exact ⟨rfl, ((Below.refl _ _).alloc (Nat.le_refl _) _).trans (hb.mono (by simp))⟩
set_option maxRecDepth 10000 in
set_option maxHeartbeats 400000 in
theorem words_t (W L i : Int) (w : World) (h : lOk W L i = true) :
 Calls Tryz.prog 105 #[.agg #[.int .i64 W, .int .i64 L], .int .i64 i] w fun e w' => ∃ b, e = .returned (.func (.func 131) #[] #[.pointer (some ⟨b, 0, none⟩)]) ∧ Cap w' b (.int .i64 (10 + L + i * 72)) ∧ w.heap.size ≤ b ∧ Below w.heap.size w w' := by
 obtain ⟨h0, h1, h2⟩ := lOk_t h
 obtain ⟨h3, h4, _, _⟩ := gOk_t h0
 clear h0
 have H := Lib.hid h
 clear h
 go_enter Tryz.func105, Tryz.ntmps105
 go_wp2_with fail
 refine (has_t W L i _ H.out).mono ?_
 rintro e w1 ⟨rfl, hb⟩
 have k1 := (C2.new w (.int .i64 W) (.int .i64 L) 33).keep hb
 obtain ⟨c0, c1⟩ := id k1
 have lt1 := k1.lt
 have hB : Below w.heap.size w w1 := ((Below.refl _ _).alloc (Nat.le_refl _) _).trans (hb.mono (by simp))
 go_wp2_with fail
 refine (lane_any W L i _ h3 h4 h1 (by omega)).mono ?_
 rintro e w2 ⟨rfl, hb2⟩
 obtain ⟨hB2, hz2⟩ := belowStep hB (Nat.le_of_lt lt1) hb2
 go_wp2_with fail
 go_ret
 exact ⟨w2.heap.size, rfl, by unfold Cap; simp [go_sem], hz2, hB2.alloc hz2 _⟩
set_option maxRecDepth 10000 in
set_option maxHeartbeats 400000 in
theorem words2_any (f s m : Int) (b : Nat) (w : World) (hc : w.cell? ⟨b, 0, none⟩ = some (.int .i64 f)) (h1 : 0 ≤ f) (h2 : f ≤ 100000) (h3 : 0 ≤ s) (h4 : s ≤ 100) :
 Calls Tryz.prog 131 #[.int .i64 s, .int .i64 m, .pointer (some ⟨b, 0, none⟩)] w fun e w' => e = .returned (.agg #[.int .i64 (f + s), .int .i64 m]) ∧ Below w.heap.size w w' := by
 have hlt : b < w.heap.size := World.block_lt_of_cell? w _ hc
 go_enter Tryz.func131, Tryz.ntmps131
 go_wp2
 go_returns
 exact ⟨rfl, by go_grown⟩
set_option maxRecDepth 10000 in
set_option maxHeartbeats 400000 in
theorem log_t (W L i : Int) (w : World) (h : lOk W L i = true) :
 Calls Tryz.prog 76 #[.agg #[.int .i64 W, .int .i64 L], .int .i64 i] w fun e w' => e = .returned (.agg #[.int .i64 (10 + L + i * 72), .int .i64 32]) ∧ Below w.heap.size w w' := by
 obtain ⟨h0, h1, h2⟩ := lOk_t h
 obtain ⟨h3, h4, _, _⟩ := gOk_t h0
 clear h0
 have H := Lib.hid h
 clear h
 go_enter Tryz.func76, Tryz.ntmps76
 go_wp2_with fail
 refine (words_t W L i _ H.out).mono ?_
 rintro e w1 ⟨b, rfl, hcap, hbl, hb⟩
 have k1 := (C2.new (w.alloc (.cells #[.int .i64 W, .int .i64 L] 33)) (.int .i64 0) (.int .i64 0) 51).keep hb
 have f1 := (F2.new (w.alloc (.cells #[.int .i64 W, .int .i64 L] 33)) (.int .i64 0) (.int .i64 0) 51).keep (by simp) hb
 simp only [World.size_alloc] at k1 f1
 have hB : Below w.heap.size w w1 := (((Below.refl _ _).alloc (Nat.le_refl _) _).alloc (by simp) _).trans (hb.mono (by simp; omega))
 have lt1 := k1.lt
 go_wp2_with fail
 refine (words2_any (10 + L + i * 72) 0 32 b _ hcap (by omega) (by omega) (by omega) (by omega)).mono ?_
 rintro e w2 ⟨rfl, hb2⟩
 have k2 := k1.keep hb2
 have f2 := f1.keep lt1 hb2
 obtain ⟨hB2, hz2⟩ := belowStep hB (by omega) hb2
 obtain ⟨c0, c1⟩ := id k2
 obtain ⟨g0, g1⟩ := id f2
 go_wp2_with fail
 refine bodyPost_ret (v := .agg #[.int .i64 (10 + L + i * 72), .int .i64 32]) (by simp [results, Tryz.results76, go_sem, c0, c1]) rfl ⟨rfl, ?_⟩
 go_grown
set_option maxRecDepth 10000 in
set_option maxHeartbeats 400000 in
theorem redo_t (W L i : Int) (w : World) (h : lOk W L i = true) :
 Calls Tryz.prog 104 #[.agg #[.int .i64 W, .int .i64 L], .int .i64 i] w fun e w' => e = .returned (.agg #[.int .i64 (10 + L + i * 72 + 32), .int .i64 40]) ∧ Below w.heap.size w w' := by
 obtain ⟨h0, h1, h2⟩ := lOk_t h
 obtain ⟨h3, h4, _, _⟩ := gOk_t h0
 clear h0
 have H := Lib.hid h
 clear h
 go_enter Tryz.func104, Tryz.ntmps104
 go_wp2_with fail
 refine (words_t W L i _ H.out).mono ?_
 rintro e w1 ⟨b, rfl, hcap, hbl, hb⟩
 have k1 := (C2.new (w.alloc (.cells #[.int .i64 W, .int .i64 L] 33)) (.int .i64 0) (.int .i64 0) 51).keep hb
 have f1 := (F2.new (w.alloc (.cells #[.int .i64 W, .int .i64 L] 33)) (.int .i64 0) (.int .i64 0) 51).keep (by simp) hb
 simp only [World.size_alloc] at k1 f1
 have hB : Below w.heap.size w w1 := (((Below.refl _ _).alloc (Nat.le_refl _) _).alloc (by simp) _).trans (hb.mono (by simp; omega))
 have lt1 := k1.lt
 go_wp2_with fail
 refine (words2_any (10 + L + i * 72) 32 40 b _ hcap (by omega) (by omega) (by omega) (by omega)).mono ?_
 rintro e w2 ⟨rfl, hb2⟩
 have k2 := k1.keep hb2
 have f2 := f1.keep lt1 hb2
 obtain ⟨hB2, hz2⟩ := belowStep hB (by omega) hb2
 obtain ⟨c0, c1⟩ := id k2
 obtain ⟨g0, g1⟩ := id f2
 go_wp2_with fail
 refine bodyPost_ret (v := .agg #[.int .i64 (10 + L + i * 72 + 32), .int .i64 40]) (by simp [results, Tryz.results104, go_sem, c0, c1]) rfl ⟨rfl, ?_⟩
 go_grown
end Go.Proofs.YtkdhdibjbabgfaaGreatDoor
end
section
set_option linter.unusedVariables false
namespace Go.Proofs.YtkdhdibjbabgfaaGreatDoor
open Go.RowKit
def IL (w : World) (v : Value) (l : List Int) : Prop :=
 ∃ A cap, v = .slice A l.length cap ∧ (0 < l.length → ∃ g off, A = some ⟨g, off, none⟩ ∧ g < w.heap.size ∧ l.length ≤ cap ∧ ∀ i, i < l.length → w.cell? ⟨g, off + i, none⟩ = some (.int .i64 (l.getD i 0)))
theorem IL.keep {w w1 : World} {v : Value} {l : List Int} (h : IL w v l) (hb : Below w.heap.size w w1) : IL w1 v l := by
 obtain ⟨A, cap, hv, h⟩ := h
 refine ⟨A, cap, hv, fun hl => ?_⟩
 obtain ⟨g, off, hA, hg, hc, hi⟩ := h hl
 exact ⟨g, off, hA, Nat.lt_of_lt_of_le hg hb.size, hc, fun i h => by rw [(bcell hb).1 _ _ hg]; exact hi i h⟩
theorem IL.form {w : World} {v : Value} {l : List Int} {n : Nat} (h : IL w v l) (hn : l.length = n) : ∃ A cap, v = .slice A n cap ∧
 ∀ w1 i, Below w.heap.size w w1 → i < n → ∃ g off, A = some ⟨g, off, none⟩ ∧ n ≤ cap ∧ g < w1.heap.size ∧ w1.cell? ⟨g, off + i, none⟩ = some (.int .i64 (l.getD i 0)) := by
 obtain ⟨A, cap, hv, h⟩ := h
 refine ⟨A, cap, by rw [hv, hn], fun w1 i hb hi => ?_⟩
 obtain ⟨g, off, hA, hg, hc, hcell⟩ := h (by omega)
 refine ⟨g, off, hA, by omega, Nat.lt_of_lt_of_le hg hb.size, ?_⟩
 rw [(bcell hb).1 _ _ hg]; exact hcell i (by omega)
theorem OwnI.il {w : World} {base : Nat} {v : Value} {l : List Int} (h : OwnI w base v l) : IL w v l := by
 have h' := h
 rcases h.2 with ⟨hv, hn⟩ | ⟨g, cap, cur, hv, hb, hg, h1, h2, h3, h4⟩
 ·have : l = [] := by simpa using hn
  subst this
  exact ⟨none, 0, hv, fun h => by simp at h⟩
 ·subst hv
  refine ⟨some ⟨g, 0, none⟩, cap, rfl, fun _ => ⟨g, 0, rfl, (Array.getElem?_eq_some_iff.1 hg).1, h1, fun i hi => ?_⟩⟩
  rw [Nat.zero_add]
  rw [World.ownsRow.cellAt h' i (by omega)]
  simp [List.getD_eq_getElem?_getD, List.getElem?_eq_getElem hi]
theorem places_nn {l : List Sp} (h : PBs l) : ∀ y ∈ placesL l, 0 ≤ y ∧ y ≤ 2199023255552 := fun y hy => by
 obtain ⟨x, hx, hy⟩ := List.mem_flatMap.1 hy
 obtain ⟨i, hi, rfl⟩ := List.mem_map.1 hy
 obtain ⟨h1, h2, h3, h4⟩ := h x hx
 have := List.mem_range.1 hi
 omega
end Go.Proofs.YtkdhdibjbabgfaaGreatDoor
end
