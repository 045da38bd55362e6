/-
  Part of the proof of MendLanes.
-/
import Derived.Test.YtkdhdibjbabgfaaGreatDoorVl14
import Derived.Test.YtkdhdibjbabgfaaGreatDoorVl5
import Derived.Test.YtkdhdibjbabgfaaGreatDoorVl6
import Derived.Test.YtkdhdibjbabgfaaGreatDoorVl0
set_option maxRecDepth 10000
set_option maxHeartbeats 1000000
set_option linter.unusedVariables false
set_option linter.unusedSimpArgs false
section
namespace Go.Proofs.YtkdhdibjbabgfaaGreatDoor
open Go.RowKit
theorem st8_ex {W : World} {g : Nat} {t : TypeId} (h : W.heap[g]? = some (.cells (List.replicate 8 (Value.int .u64 0)).toArray t (0, 0))) (x0 x1 x2 x3 x4 x5 x6 x7 : Value) :
 ∃ w9, w9 = ((((((((W.setCell ⟨g, 0, none⟩ x0).setCell ⟨g, 1, none⟩ x1).setCell ⟨g, 2, none⟩ x2).setCell ⟨g, 3, none⟩ x3).setCell ⟨g, 4, none⟩ x4).setCell ⟨g, 5, none⟩ x5).setCell ⟨g, 6, none⟩ x6).setCell ⟨g, 7, none⟩ x7) ∧ w9.heap[g]? = some (.cells #[x0, x1, x2, x3, x4, x5, x6, x7] t (0, 0)) ∧ Below g W w9 := by
 have q1 := heap_setCell_same _ g 0 _ _ x0 h
 have q2 := heap_setCell_same _ g 1 _ _ x1 q1
 have q3 := heap_setCell_same _ g 2 _ _ x2 q2
 have q4 := heap_setCell_same _ g 3 _ _ x3 q3
 have q5 := heap_setCell_same _ g 4 _ _ x4 q4
 have q6 := heap_setCell_same _ g 5 _ _ x5 q5
 have q7 := heap_setCell_same _ g 6 _ _ x6 q6
 have q8 := heap_setCell_same _ g 7 _ _ x7 q7
 have b0 := Below.refl g W
 have b1 := Below.setCell (p := ⟨g, 0, none⟩) b0 (Nat.le_refl _) x0
 have b2 := Below.setCell (p := ⟨g, 1, none⟩) b1 (Nat.le_refl _) x1
 have b3 := Below.setCell (p := ⟨g, 2, none⟩) b2 (Nat.le_refl _) x2
 have b4 := Below.setCell (p := ⟨g, 3, none⟩) b3 (Nat.le_refl _) x3
 have b5 := Below.setCell (p := ⟨g, 4, none⟩) b4 (Nat.le_refl _) x4
 have b6 := Below.setCell (p := ⟨g, 5, none⟩) b5 (Nat.le_refl _) x5
 have b7 := Below.setCell (p := ⟨g, 6, none⟩) b6 (Nat.le_refl _) x6
 have b8 := Below.setCell (p := ⟨g, 7, none⟩) b7 (Nat.le_refl _) x7
 simp only [List.replicate, List.setIfInBounds_toArray, List.set_cons_zero, List.set_cons_succ] at q8
 exact ⟨_, rfl, q8, b8⟩
theorem parts_x (v : Value) (l : List Nat) (w : World) (x0 x1 x2 x3 x4 x5 x6 x7 : Nat) (e0 : l.getD 0 0 = x0) (e1 : l.getD 1 0 = x1) (e2 : l.getD 2 0 = x2) (e3 : l.getD 3 0 = x3) (e4 : l.getD 4 0 = x4) (e5 : l.getD 5 0 = x5) (e6 : l.getD 6 0 = x6) (e7 : l.getD 7 0 = x7) (h8 : 8 ≤ l.length) (hv : SL w v l) :
 Calls Tryz.prog 80 #[v] w fun e w' => e = .returned (.agg #[.int .u64 x0, .int .u64 x1, .int .u64 x2, .int .u64 x3, .int .u64 x4, .int .u64 x5, .int .u64 x6, .int .u64 x7]) ∧ Below w.heap.size w w' := by
 obtain ⟨sp, cap, rfl⟩ := hv.form
 go_enter Tryz.func80, Tryz.ntmps80
 go_wp2_with fail
 have hw1 := heap_alloc_new (w.alloc (.cells (List.replicate 8 (Value.int .u64 0)).toArray 117)) (.cells (List.replicate 8 (Value.int .u64 0)).toArray 117)
 have hB1 : Below w.heap.size w ((w.alloc (.cells (List.replicate 8 (Value.int .u64 0)).toArray 117)).alloc (.cells (List.replicate 8 (Value.int .u64 0)).toArray 117)) := (bZ _ _).alloc (by simp) _
 have hr0 := Below.heap_alloc (w.alloc (.cells (List.replicate 8 (Value.int .u64 0)).toArray 117)) (.cells (List.replicate 8 (Value.int .u64 0)).toArray 117) w.heap.size (by simp)
 rw [heap_alloc_new w] at hr0
 rw [show (w.alloc (.cells (List.replicate 8 (Value.int .u64 0)).toArray 117)).heap.size = w.heap.size + 1 by simp] at hw1
 obtain ⟨w2, hrun, hrow2, hb2⟩ := copyW l hw1 (hv.keep hB1)
 have hrun2 : (Builtin.copy_ #[23, 23] 3 #[.slice (some ⟨w.heap.size + 1, 0, none⟩) 8 8, .slice sp l.length cap]).run Tryz.prog ((w.alloc (.cells #[Value.int .u64 0, Value.int .u64 0, Value.int .u64 0, Value.int .u64 0, Value.int .u64 0, Value.int .u64 0, Value.int .u64 0, Value.int .u64 0] 117)).alloc (.cells #[Value.int .u64 0, Value.int .u64 0, Value.int .u64 0, Value.int .u64 0, Value.int .u64 0, Value.int .u64 0, Value.int .u64 0, Value.int .u64 0] 117)) = .ok (goInt (Nat.min l.length 8)) w2 := hrun
 rw [hrun2]
 rw [show Nat.min l.length 8 = 8 from Nat.min_eq_right h8, Nat.sub_self, List.replicate_zero, List.append_nil] at hrow2
 have hr0' := (hb2.block w.heap.size (by omega)).trans hr0
 have hB2 : Below w.heap.size w w2 := hB1.trans (hb2.mono (by omega))
 have hK := fun i (hi : i < 8) => (row_cell hrow2 i).1.trans (by rw [List.getElem?_toArray, wv_at (l.take 8) i (by simp; omega), List.getD_eq_getElem?_getD, List.getElem?_take, if_pos hi, ← List.getD_eq_getElem?_getD])
 have a0 := hK 0 (by omega)
 have a1 := hK 1 (by omega)
 have a2 := hK 2 (by omega)
 have a3 := hK 3 (by omega)
 have a4 := hK 4 (by omega)
 have a5 := hK 5 (by omega)
 have a6 := hK 6 (by omega)
 have a7 := hK 7 (by omega)
 have b0 := row_cell hr0' 0
 have b1 := row_cell hr0' 1
 have b2 := row_cell hr0' 2
 have b3 := row_cell hr0' 3
 have b4 := row_cell hr0' 4
 have b5 := row_cell hr0' 5
 have b6 := row_cell hr0' 6
 have b7 := row_cell hr0' 7
 simp only [List.getElem?_toArray, List.replicate, List.getElem?_cons_zero, List.getElem?_cons_succ] at b0 b1 b2 b3 b4 b5 b6 b7
 clear hrun hrun2 hrow2 hr0 hw1 hb2 hK hB1 hv
 rw [e0] at a0
 rw [e1] at a1
 rw [e2] at a2
 rw [e3] at a3
 rw [e4] at a4
 rw [e5] at a5
 rw [e6] at a6
 rw [e7] at a7
 have hr9 := lh hr0'
 clear hr0'
 clear e0 e1 e2 e3 e4 e5 e6 e7
 go_wp2_with fail
 obtain ⟨w9, hw9, hq, hb9⟩ := st8_ex hr9.out (.int .u64 (x0 : Int)) (.int .u64 (x1 : Int)) (.int .u64 (x2 : Int)) (.int .u64 (x3 : Int)) (.int .u64 (x4 : Int)) (.int .u64 (x5 : Int)) (.int .u64 (x6 : Int)) (.int .u64 (x7 : Int))
 rw [← hw9]
 refine bodyPost_ret (v := .agg #[.int .u64 x0, .int .u64 x1, .int .u64 x2, .int .u64 x3, .int .u64 x4, .int .u64 x5, .int .u64 x6, .int .u64 x7]) ?_ rfl ⟨rfl, hB2.trans hb9⟩
 exact results_cell_row (p := 2) (ty := 117) rfl _ _ w.heap.size 117 _ (0, 0) _ rfl hq Tryz.underlying117 rfl (by kernel_rfl)
end Go.Proofs.YtkdhdibjbabgfaaGreatDoor
end
section
namespace Go.Proofs.YtkdhdibjbabgfaaGreatDoor
open Go.RowKit Go.ChangeShapes Go.WideShapes Go.Deep
theorem wp_append_run {P : Program} {w w' : World} {o : Oper} {a : Act} {K : Act → World → Prop} {Q : Exit → Act → World → Prop} (s x : Operand) (t u : TypeId)
 (hop : o.op = Op.call { callee := Callee.builtin Builtin.append, args := #[s, x], argTypes := #[t, u] }) (vs vx v : Value) (hs : a.eval s = vs) (hx : a.eval x = vx)
 (hrun : (Builtin.append_ #[t, u] o.type #[vs, vx]).run P w = .ok v w') (h : K (a.put o.dst v) w') : Oper.wp P o a w K Q := by
 unfold Oper.wp
 simp [execOp, hop, resolve, invoke, builtin, hs, hx, hrun, Result.andThen]
 exact h
theorem set_blk {w : World} {B o : Nat} {cs : Array Value} {t : TypeId} {v : Value} (h : w.heap[B]? = some (.cells cs t (0, 0))) : (w.setCell ⟨B, o, none⟩ v).heap[B]? = some (.cells (cs.setIfInBounds o v) t (0, 0)) := by
 obtain ⟨hlt, hk⟩ := Array.getElem?_eq_some_iff.1 h
 show (w.heap.modify B _)[B]? = _
 rw [Array.getElem?_eq_getElem (by rw [Array.size_modify]; exact hlt), Array.getElem_modify_self, hk]
 rfl
theorem run_slice_mid {P : Program} {ty e : TypeId} {i0 : TypeInfo} {sz : Nat} (hu : P.underlying ty = some (.slice e)) (hi : P.info? e = some i0) (hs : i0.size = sz) (A : Option Addr) (n cap t u : Nat) (h : t ≤ u) (h2 : u ≤ cap) (w : World) :
 (Instr.slice ty (.slice A n cap) (some (.int .i64 (t : Int))) (some (.int .i64 (u : Int))) none).run P w = .ok (.slice (if cap = t then A else A.map (·.add (t * sz))) (u - t) (cap - t)) w := by
 subst hs
 have h1 : (t : Int) ≤ (u : Int) := by omega
 have h3 : (u : Int) ≤ (cap : Int) := by omega
 have h4 : (0 : Int) ≤ (t : Int) := by omega
 have h5 : (0 : Int) ≤ (u : Int) := by omega
 simp [Instr.slice, run_underlying hu, Instr.sliceBounds, Instr.sliceBound, asIntOf, sizeOf, typeInfo, hi, h4, h5, h3, h1, h, h2, go_sem]
theorem KL.mid {w : World} {A : Option Addr} {n cap : Nat} {l : List Nat} (h : KL .u64 w (.slice A n cap) l) (t m : Nat) (ht : t + m ≤ n) : KL .u64 w (.slice (if cap = t then A else A.map (·.add (t * 1))) (t + m - t) (cap - t)) ((l.drop t).take m) := by
 have hl : l.length = n := by obtain ⟨A', c', hv, _⟩ := h; cases hv; rfl
 rw [Nat.add_sub_cancel_left]
 exact (h.drop t (by omega)).take m (by rw [List.length_drop]; omega)
theorem appWg {w : World} {base : Nat} {v u : Value} {l m : List Nat} (hown : OwnU w base v l) (ha : KL .u64 w u m) (hb : base ≤ w.heap.size) (hsm : l.length ≤ 1000000) (hsm2 : m.length ≤ 1000000) :
 ∃ v' w', (Builtin.append_ #[23, 23] 23 #[v, u]).run Tryz.prog w = .ok v' w' ∧ OwnU w' base v' (l ++ m) ∧ w.grownBy w' v.ownBlock ∧ (v'.ownBlock = v.ownBlock ∨ v'.ownBlock = some w.heap.size) := by
 obtain ⟨i0, hi, hz0, hz1, hz2⟩ := info_parts infoU64
 have ht : Tryz.prog.underlying 23 = some (.slice 25) := Tryz.underlying23
 obtain ⟨A, cap, rfl, h⟩ := ha
 cases m with
 | nil =>
   refine ⟨v, w, ?_, by simpa using hown, ⟨rfl, rfl, rfl, Nat.le_refl _, fun _ _ _ => rfl⟩, .inl rfl⟩
   rcases hown.2 with ⟨rfl, _⟩ | ⟨g, cap', cur, rfl, _, _, hnc, _⟩
   ·cases A <;> simp [Builtin.append_, run_underlying ht, sizeOf, typeInfo, hi, Builtin.lenOf, Builtin.firstCells, loadCells, loadCellsFrom, storeCells]
   ·cases A <;> simp [Builtin.append_, run_underlying ht, sizeOf, typeInfo, hi, Builtin.lenOf, Builtin.firstCells, hnc, loadCells, loadCellsFrom, storeCells]
 | cons x m =>
   obtain ⟨g, off, rfl, hg, hc, hcell⟩ := h (by simp)
   obtain ⟨v', w', hrun, k1, k2, _, k4⟩ := run_append_own_at (P := Tryz.prog) w base 23 23 25 i0 (.int .u64 0) 1 8 Tryz.underlying23 hi hz0 hz1 hz2 rfl (by decide) v l.length _ hown ⟨g, off, none⟩ (x :: m).length cap ((x :: m).map fun x : Nat => Value.int .u64 x) (by simp)
    (fun j u hj => by
      have hj2 : j < (x :: m).length := by have := (List.getElem?_eq_some_iff.1 hj).1; simpa using this
      have c0 := hcell j hj2
      rw [List.getElem?_map, List.getElem?_eq_getElem hj2] at hj
      rw [List.getD_eq_getElem?_getD, List.getElem?_eq_getElem hj2] at c0
      simp only [Option.map_some, Option.some.injEq] at hj
      rw [← hj]
      rw [add_plain]; exact c0) (by intro u hu; obtain ⟨y, _, rfl⟩ := List.mem_map.1 hu; rfl) (by unfold maxLen; omega) (by omega) hb
   refine ⟨v', w', hrun, ?_, k2, k4⟩
   unfold OwnU
   rw [List.length_append, List.map_append]
   exact k1
structure Q7 (W : World) (rv : Option (Value × List Nat)) (b : Option Nat) (w : World) : Prop where
 bel : Below W.heap.size W w
 row : ∀ v l, rv = some (v, l) → OwnU w W.heap.size v l
 blk : ∀ g, b = some g → W.heap.size ≤ g ∧ Bk w g (.int .i64 0) (.slice none 0 0)
theorem Q7.start (W : World) : Q7 W none none W.drew := ⟨(Below.refl _ _).drew, fun _ _ h => (by cases h), fun _ h => (by cases h)⟩
theorem Q7.row0 {W w : World} {b : Option Nat} (h : Q7 W none b w) : Q7 W (some (.slice (some ⟨w.heap.size, 0, none⟩) 0 0, [])) b (w.alloc (.cells #[] (25 : Nat))) := by
 have hb : Below w.heap.size w (w.alloc (.cells #[] (25 : Nat))) := bZ _ _
 refine ⟨h.bel.trans (hb.mono h.bel.size), fun v l e => ?_, fun g e => ⟨(h.blk g e).1, (h.blk g e).2.keep hb⟩⟩
 simp only [Option.some.injEq, Prod.mk.injEq] at e
 obtain ⟨rfl, rfl⟩ := e
 exact OwnU.mono (base := w.heap.size) (World.ownsRow_lit (base := w.heap.size) (e := 25) (size := 1) w #[] 0 (Nat.le_refl _) (by unfold maxLen; omega) rfl) h.bel.size
theorem Q7.blk0 {W w : World} {rv : Option (Value × List Nat)} (h : Q7 W rv none w) : Q7 W rv (some w.heap.size) (w.alloc (.cells #[.int .i64 0, .slice none 0 0] (64 : Nat))) := by
 have hb : Below w.heap.size w (w.alloc (.cells #[.int .i64 0, .slice none 0 0] (64 : Nat))) := bZ _ _
 refine ⟨h.bel.trans (hb.mono h.bel.size), fun v l e => (h.row v l e).keep hb, fun g e => ?_⟩
 cases e
 exact ⟨h.bel.size, Bk.new w _ _⟩
theorem Q7.row1 {W w : World} {v u : Value} {os : List Nat} {b : Option Nat} {m : Nat} (h : Q7 W (some (v, [])) b w) (hu : ∀ w', Below W.heap.size W w' → KL .u64 w' u os) (hm : os.length = m) (hm2 : m ≤ 1000000) :
 ∃ A c w', (Builtin.append_ #[23, 23] 23 #[v, u]).run Tryz.prog w = .ok (.slice A m c) w' ∧ Q7 W (some (.slice A m c, os)) b w' := by
 have hr := h.row _ _ rfl
 obtain ⟨v', w', hrun, ho, hg, _⟩ := appWg hr (hu w h.bel) h.bel.size (by simp) (by omega)
 rw [List.nil_append] at ho
 obtain ⟨A, c, hv, _⟩ := ho.form
 rw [hm] at hv
 subst hv
 refine ⟨A, c, w', hrun, h.bel.trans ((Below.refl _ w).grown hg h.bel.size (fun j hj => (World.ownsRow.lt hr j hj).1)), fun v2 l2 e => ?_, fun g e => ⟨(h.blk g e).1, ?_⟩⟩
 ·simp only [Option.some.injEq, Prod.mk.injEq] at e
  obtain ⟨rfl, rfl⟩ := e
  exact ho
 ·have hk := (h.blk g e).2
  refine (hg.block g hk.lt (fun q => ?_)).trans hk
  rcases hr.2 with ⟨rfl, _⟩ | ⟨g2, cap, cur, rfl, _, hgb, _⟩
  ·simp [Value.ownBlock] at q
  ·simp only [Value.ownBlock, Option.some.injEq] at q
   subst q
   have := (show w.heap[g]? = _ from hk).symm.trans hgb
   simp at this
theorem grownBy_set (W : World) (b o : Nat) (v : Value) : W.grownBy (W.setCell ⟨b, o, none⟩ v) (some b) :=
 ⟨rfl, rfl, rfl, (KeepsWalks.setCell W ⟨b, o, none⟩ v).size, fun k _ hk => Below.heap_setCell W ⟨b, o, none⟩ v k (fun e => hk (by rw [e]))⟩
theorem Q7.last {W w : World} {A : Option Addr} {m c : Nat} {os : List Nat} {g : Nat} (h : Q7 W (some (.slice A m c, os)) (some g) w) (a : Int) :
 C2 w g (.int .i64 0) (.slice none 0 0) ∧ (w.frozen? ⟨g, 0, none⟩ = false ∧ w.frozen? ⟨g, 1, none⟩ = false) ∧ ∃ w', w' = (w.setCell ⟨g, 0, none⟩ (.int .i64 a)).setCell ⟨g, 1, none⟩ (.slice A m c) ∧ Bk w' g (.int .i64 a) (.slice A m c) ∧ OwnU w' W.heap.size (.slice A m c) os ∧ Below W.heap.size W w' := by
 obtain ⟨hg, hk⟩ := h.blk _ rfl
 have hr := h.row _ _ rfl
 have hne : ∀ k, (Value.slice A m c).ownBlock = some k → g ≠ k := fun k q e => by
  subst e
  rcases hr.2 with ⟨e2, _⟩ | ⟨g2, cap, cur, e2, _, hgb, _⟩
  ·rw [e2] at q; simp [Value.ownBlock] at q
  ·rw [e2] at q
   simp only [Value.ownBlock, Option.some.injEq] at q
   subst q
   have := (show w.heap[g2]? = _ from hk).symm.trans hgb
   simp at this
 refine ⟨hk.c2, ⟨(row_cell hk 0).2, (row_cell hk 1).2⟩, _, rfl, ?_, ?_, (h.bel.setCell (p := ⟨g, 0, none⟩) hg _).setCell (p := ⟨g, 1, none⟩) hg _⟩
 ·exact set_blk (set_blk (show w.heap[g]? = some (.cells #[.int .i64 0, .slice none 0 0] 64 (0, 0)) from hk))
 ·refine World.ownsRow.kept (World.ownsRow.kept hr (grownBy_set w g 0 _) ?_) (grownBy_set _ g 1 _) ?_
  ·exact .inr (fun e => hne g e rfl)
  ·exact .inr (fun e => hne g e rfl)
def OD (n₀ : Nat) (xs : List Ex) (v : Value) (W : World) : Prop := OwnE 64 2 eS W n₀ v xs ∧ ∀ x ∈ xs, 0 < x.2.2.length ∧ KL .u64 W x.2.1 x.2.2 ∧ Off x.2.1 v.ownBlock
theorem OD.keep {n₀ : Nat} {xs : List Ex} {v : Value} {W w : World} (h : OD n₀ xs v W) (hb : Below W.heap.size W w) : OD n₀ xs v w :=
 ⟨h.1.keep hb, fun x hx => by obtain ⟨a, b, c⟩ := h.2 x hx; exact ⟨a, b.keep hb, c⟩⟩
theorem OD.en {n₀ : Nat} {xs : List Ex} {v : Value} {W : World} (h : OD n₀ xs v W) : EN W v (xs.map px) := ⟨xs, h.1.el eS_len, fun x hx => (h.2 x hx).2.1, rfl⟩
theorem OD.add {n₀ : Nat} {xs : List Ex} {v : Value} {W : World} {a : Int} {A : Option Addr} {m c : Nat} {os : List Nat} (h : OD n₀ xs v W) (hk : KL .u64 W (.slice A m c) os) (h0 : 0 < os.length) (hoff : Off (.slice A m c) v.ownBlock) (hb : n₀ ≤ W.heap.size) (hlen : xs.length ≤ 1000) :
 ∃ A' c' w1, (Builtin.append_ #[60, 60] 60 #[v, .slice (some ⟨W.heap.size, 0, none⟩) 1 1]).run Tryz.prog (W.alloc (.cells #[.int .i64 a, .slice A m c] (64 : Nat))) = .ok (.slice A' (xs.length + 1) c') w1 ∧ OD n₀ (xs ++ [(a, .slice A m c, os)]) (.slice A' (xs.length + 1) c') w1 ∧ Below n₀ W w1 := by
 have hB1 : Below W.heap.size W (W.alloc (.cells #[.int .i64 a, .slice A m c] (64 : Nat))) := bZ _ _
 have hlit : EL 2 eS (W.alloc (.cells #[.int .i64 a, .slice A m c] (64 : Nat))) (.slice (some ⟨W.heap.size, 0, none⟩) 1 1) [((a, .slice A m c, os) : Ex)] := (OwnE.lit 64 eS_len W [((a, .slice A m c, os) : Ex)] _ rfl (by simp)).el eS_len
 obtain ⟨v', w1, hrun, ho, hg, hl2, hnn⟩ := appE enT (h.1.keep hB1) hlit (by simp; omega) (by omega) (by simp)
 have hlm : (xs ++ [((a, .slice A m c, os) : Ex)]).length = xs.length + 1 := by simp
 obtain ⟨g', cap', hv', hg1, hg2, hg3⟩ := ho.form (by rw [hlm]; omega)
 rw [hlm] at hv'
 subst hv'
 have hoffx : ∀ (v2 : Value) (l2 : List Nat), KL .u64 W v2 l2 → 0 < l2.length → Off v2 v.ownBlock → Off v2 (Value.slice (some ⟨g', 0, none⟩) (xs.length + 1) cap').ownBlock := fun v2 l2 h1 h0 h2 => by
  rcases hl2 with e | e
  ·rw [e]; exact h2
  ·rw [e]
   intro g o m c e2 q
   obtain ⟨A5, cap5, e5, h5⟩ := h1
   obtain ⟨g5, off5, e6, h6, _⟩ := h5 h0
   rw [e5, e6] at e2
   simp only [Value.slice.injEq, Option.some.injEq, Addr.mk.injEq, and_true] at e2
   obtain ⟨⟨rfl, rfl⟩, rfl, rfl⟩ := e2
   simp at q
   omega
 refine ⟨_, _, w1, hrun, ⟨ho, fun x hx => ?_⟩, (hB1.mono hb).trans ((Below.refl _ _).grown hg (by simp; omega) (fun j hj => (h.1.lt j hj).1))⟩
 rw [List.mem_append, List.mem_singleton] at hx
 rcases hx with hx | rfl
 ·obtain ⟨k0, k2, k3⟩ := h.2 x hx
  exact ⟨k0, (k2.keep hB1).grown hg k3, hoffx _ _ k2 k0 k3⟩
 ·exact ⟨h0, (hk.keep hB1).grown hg hoff, hoffx _ _ hk h0 hoff⟩
theorem tkB_enc {gn : Nat} {rs : List Nat} (h : manyN rs + 2 ≤ rs.length) (hc : canB (atN rs) (manyN rs) = true) : decide (encW gn (atN rs) ((rs.drop 1).take (manyN rs)) = rs.take (manyN rs + 2)) = tkB gn rs := by
 unfold tkB
 rw [hc, decide_eq_true h, Bool.true_and, Bool.and_true]
 cases rs with
 | nil => simp at h
 | cons r rs =>
   have hg : (r :: rs).getD 0 0 = r := rfl
   generalize hm : manyN (r :: rs) = m at *
   generalize atN (r :: rs) = a at *
   simp only [List.length_cons] at h
   rw [hg]
   have e1 : ((r :: rs).drop 1).take m = rs.take m := rfl
   have e2 : (r :: rs).take (m + 2) = r :: (rs.take m ++ [rs.getD m 0]) := by
    rw [List.take_succ_cons, List.take_succ_eq_append_getElem (by omega), List.getD_eq_getElem?_getD, List.getElem?_eq_getElem (by omega)]
    rfl
   have e3 : (r :: rs).getD (m + 1) 0 = rs.getD m 0 := rfl
   have e4 : (r :: rs).take (m + 1) = r :: rs.take m := rfl
   have e5 : (rs.take m).length = m := by rw [List.length_take]; omega
   rw [e1, e2, e3, e4]
   unfold encW
   rw [e5]
   generalize firstW gn a m = f
   rw [List.cons_append]
   by_cases q1 : f = r
   ·subst q1
    rw [decide_eq_true (rfl : f = f), Bool.true_and]
    refine decide_eq_decide.2 ⟨fun q => ?_, fun q => by rw [q]⟩
    simp only [List.cons.injEq, true_and, List.append_cancel_left_eq, and_true] at q
    exact q.symm
   ·rw [decide_eq_false q1, Bool.false_and, decide_eq_false]
    exact fun q => q1 (List.cons.inj q).1
theorem decL_none {gn : Nat} {ws : List Nat} {xs : List Pe} {rs : List Nat} (h : evs gn ws = xs.map some ++ evs gn rs) (h0 : 0 < rs.length) (hk : tkB gn rs = false) : decL gn ws = none := by
 unfold decL
 rw [if_pos]
 rw [h, evs_f h0 hk]
 simp
theorem decL_all {gn : Nat} {ws : List Nat} {xs : List Pe} (h : evs gn ws = xs.map some) : decL gn ws = some xs := by
 unfold decL
 rw [h, if_neg (by simp)]
 rw [List.filterMap_map]
 congr 1
 exact List.filterMap_some
end Go.Proofs.YtkdhdibjbabgfaaGreatDoor
end
