/-
  Part of the proof of MendWhole.
-/
import Derived.Test.YtkdhdibjbabgfaaGreatDoorVw17
import Derived.Test.YtkdhdibjbabgfaaGreatDoorVw18
import Derived.Test.YtkdhdibjbabgfaaGreatDoorVw2
import Derived.Test.YtkdhdibjbabgfaaGreatDoorVw3
import Derived.Test.YtkdhdibjbabgfaaGreatDoorVw31
import Derived.Test.YtkdhdibjbabgfaaGreatDoorVw4
import Derived.Test.YtkdhdibjbabgfaaGreatDoorVw5
import Derived.Test.YtkdhdibjbabgfaaGreatDoorVw8
import Derived.Carry
import Derived.ChangeSlices
import Derived.Deep.SlicePairs
import Derived.OwnWalk
import Derived.Test.YtkdhdibjbabgfaaGreatDoorVw0
set_option maxRecDepth 10000
set_option maxHeartbeats 500000
set_option linter.unusedVariables false
set_option linter.unusedSimpArgs false
section
namespace Go.Proofs.YtkdhdibjbabgfaaGreatDoor
open Go.RowKit
theorem infoInt : (Tryz.prog.info? 3).map (fun i => (i.zero, i.size, i.bytes)) = some (some (.int .i64 0), 1, 8) := by kernel_rfl
def OwnI (w : World) (base : Nat) (v : Value) (l : List Int) : Prop := w.ownsRow base 3 1 v l.length (l.map fun x : Int => Value.int .i64 x)
theorem OwnI.keep {w w1 : World} {base : Nat} {v : Value} {l : List Int} (h : OwnI w base v l) (hb : Below w.heap.size w w1) : OwnI w1 base v l := by
 refine ⟨h.1, ?_⟩
 rcases h.2 with h2 | ⟨g, cap, cur, hv, hbg, hg, h1, h2, h3, h4⟩
 ·exact .inl h2
 ·exact .inr ⟨g, cap, cur, hv, hbg, by rw [hb.block g (Array.getElem?_eq_some_iff.1 hg).1]; exact hg, h1, h2, h3, h4⟩
theorem appI {w : World} {base g : Nat} {y : Int} {v : Value} {l : List Int} (hown : OwnI w base v l) (hx : w.cell? ⟨g, 0, none⟩ = some (.int .i64 y)) (hb : base ≤ w.heap.size) (hsm : l.length ≤ 2000000) :
 ∃ v' w', (Builtin.append_ #[87, 87] 87 #[v, .slice (some ⟨g, 0, none⟩) 1 1]).run Tryz.prog w = .ok v' w' ∧ OwnI w' base v' (l ++ [y]) ∧ Below base w w' := by
 obtain ⟨i0, hi, hz0, hz1, hz2⟩ := info_parts infoInt
 obtain ⟨v', w', hrun, h1, h2, _, h4⟩ := run_append_own_at (P := Tryz.prog) w base 87 87 3 i0 (.int .i64 0) 1 8 Tryz.underlying87 hi hz0 hz1 hz2 rfl (by decide) v l.length _ hown ⟨g, 0, none⟩ 1 1 [.int .i64 y] rfl
  (fun j u hj => by
    match j, hj with
    | 0, hj => simp only [List.getElem?_cons_zero] at hj; rw [← hj]; simpa [Addr.add] using hx
    | j + 1, hj => simp at hj) (by simp [Value.oneCell']) (by unfold maxLen; omega) (by omega) hb
 refine ⟨v', w', hrun, ?_, (Below.refl base w).grown h2 hb (fun j hj => (World.ownsRow.lt hown j hj).1)⟩
 unfold OwnI
 rw [List.length_append, List.map_append]
 exact h1
theorem placesL_tk (l : List Sp) (h : PBs l) (k : Nat) (hk : k ≤ l.length) : (placesL (l.take k)).length ≤ 1000 * k := by
 have hp : PBs (l.take k) := fun x hx => h x (List.mem_of_mem_take hx)
 have h1 := placesL_len (l.take k) hp
 have h2 := totS_le (l.take k) hp
 rw [List.length_take, Nat.min_eq_left hk] at h2
 omega
theorem refPlaces_any (v : Value) (l : List Sp) (w : World) (hl : PBs l) (hlen : l.length ≤ 1000) (hv : PL w v l) :
 Calls Tryz.prog 61 #[v] w fun e w' => ∃ v', e = .returned v' ∧ OwnI w' w.heap.size v' (placesL l) ∧ Below w.heap.size w w' := by
 obtain ⟨n, hn⟩ : ∃ n, l.length = n := ⟨_, rfl⟩
 obtain ⟨A, cap, rfl, hC⟩ := hv.form hn
 have hI := lh (fun i (hi : i < n) => hl.at i (by omega))
 have hT := lh (fun i (hi : i < n) => places_take l i (by omega))
 have hL := lh (fun i (hi : i ≤ n) => placesL_tk l hl i (by omega))
 have hE := lh (show placesL (l.take n) = placesL l from by rw [List.take_of_length_le (by omega)])
 replace hC := lh hC
 have hln : n ≤ 1000 := by omega
 clear hv hlen hl
 replace hn := lh hn
 go_enter Tryz.func61, Tryz.ntmps61
 go_wp2_with fail
 go_loopw [3, 4, 5] (fun o x z wr => ∃ (k : Nat) (L : List Int), k ≤ n ∧ x = .int .i64 k ∧ Hid (L = placesL (l.take k)) ∧ L.length ≤ 1000 * k ∧ OwnI wr w.heap.size o L ∧ Below w.heap.size w wr) (fun _ x _ _ => n + 1 - (intOf x).toNat)
 case atStart => exact ⟨0, [], Nat.zero_le _, rfl, rfl, by simp, World.ownsRow_nil _ _ _ _, Below.refl _ _⟩
 case round =>
  obtain ⟨k, L, hk, rfl, hLe, hLl, hown, hB⟩ := hrel
  by_cases hlt : k < n
  ·have hlt' : (k : Int) < (n : Int) := by omega
   have hxi := hI.out k hlt
   have hT1 := lh (hT.out k hlt)
   have hL1 := hL.out (k + 1) (by omega)
   rw [← hLe.out] at hT1
   have hCk := lh (fun w1 (hb : Below w.heap.size w w1) => hC.out w1 k hb hlt)
   generalize l.getD k (0, 0) = x at *
   obtain ⟨b1, b2, b3, b4⟩ := id hxi
   obtain ⟨m, hm⟩ : ∃ m, m = x.2.toNat := ⟨_, rfl⟩
   have hmx : (m : Int) = x.2 := by omega
   rw [← hm] at hT1
   have hm9 : m ≤ 1000 := by omega
   replace hmx := lh hmx
   replace hm := lh hm
   go_wp2_with fail
   go_loopw [3, 5] (fun o z wq => ∃ (j : Nat) (L' : List Int), j ≤ m ∧ z = .int .i64 j ∧ Hid (L' = L ++ pwL x j) ∧ L'.length = L.length + j ∧ OwnI wq w.heap.size o L' ∧ Below w.heap.size w wq) (fun _ z _ => m + 1 - (intOf z).toNat)
   case atStart => exact ⟨0, L, Nat.zero_le _, rfl, by show L = _; simp [pwL], rfl, hown, hB⟩
   case round =>
    clear hown hB
    obtain ⟨j, L', hj, rfl, hL2, hl2, hownq, hBq⟩ := hrel
    obtain ⟨g, off, rfl, hcap, hg, c0, c1⟩ := hCk.out wr hBq
    by_cases hjl : j < m
    ·have q1 : (j : Int) < x.2 := by have := hmx.out; omega
     have hLn := lh (show L' ++ [x.1 + (j : Int)] = L ++ pwL x (j + 1) from by rw [hL2.out, pwL_succ, List.append_assoc])
     obtain ⟨v', w1, hrun, hown', hgr⟩ := appI (w := wr.alloc (.cells #[.int .i64 (x.1 + (j : Int))] (3 : Nat))) (y := x.1 + (j : Int)) (base := w.heap.size) (hownq.keep (bZ _ _)) (cell_new1 wr _ _) (by have := hBq.size; simp; omega) (by omega)
     have hB1 := (hBq.alloc hBq.size (.cells #[.int .i64 (x.1 + (j : Int))] (3 : Nat))).trans hgr
     clear hgr hownq hBq
     go_wp2_with (at_builtin; refine wpList_append_run rfl _ _ 87 rfl _ _ _ rfl rfl hrun ?_)
     go_roundw
     case rel => exact ⟨j + 1, _, by omega, by go_num, hLn, by rw [List.length_append, hl2]; rfl, hown', hB1⟩
     case measure => simp [intOf]; omega
    ·obtain rfl : j = m := by omega
     have q1 : x.2 ≤ (j : Int) := by have := hmx.out; omega
     have hfin := lh (show L' = placesL (l.take (k + 1)) from by rw [hL2.out, hT1.out])
     have hfl : L'.length ≤ 1000 * (k + 1) := by rw [hfin.out]; exact hL1
     go_wp2_with fail
     exact ⟨⟨k + 1, _, by omega, by go_num, hfin, hfl, hownq, hBq⟩, by simp [intOf]; omega⟩
  ·obtain rfl : k = n := by omega
   have hR := lh (show L = placesL l from by rw [hLe.out, hE.out])
   go_wp2_with fail
   go_ret
   exact ⟨_, rfl, by rw [← hR.out]; exact hown, hB⟩
end Go.Proofs.YtkdhdibjbabgfaaGreatDoor
end
section
namespace Go.Proofs.YtkdhdibjbabgfaaGreatDoor
open Go.RowKit Go.ChangeShapes Go.WideShapes Go.Deep
theorem wp_append_run {P : Program} {w w' : World} {o : Oper} {a : Act} {K : Act → World → Prop} {Q : Exit → Act → World → Prop} (s x : Operand) (t u : TypeId)
 (hop : o.op = Op.call { callee := Callee.builtin Builtin.append, args := #[s, x], argTypes := #[t, u] }) (vs vx v : Value) (hs : a.eval s = vs) (hx : a.eval x = vx)
 (hrun : (Builtin.append_ #[t, u] o.type #[vs, vx]).run P w = .ok v w') (h : K (a.put o.dst v) w') : Oper.wp P o a w K Q := by
 unfold Oper.wp
 simp [execOp, hop, resolve, invoke, builtin, hs, hx, hrun, Result.andThen]
 exact h
theorem set_blk {w : World} {B o : Nat} {cs : Array Value} {t : TypeId} {v : Value} (h : w.heap[B]? = some (.cells cs t (0, 0))) : (w.setCell ⟨B, o, none⟩ v).heap[B]? = some (.cells (cs.setIfInBounds o v) t (0, 0)) := by
 obtain ⟨hlt, hk⟩ := Array.getElem?_eq_some_iff.1 h
 show (w.heap.modify B _)[B]? = _
 rw [Array.getElem?_eq_getElem (by rw [Array.size_modify]; exact hlt), Array.getElem_modify_self, hk]
 rfl
theorem run_slice_mid {P : Program} {ty e : TypeId} {i0 : TypeInfo} {sz : Nat} (hu : P.underlying ty = some (.slice e)) (hi : P.info? e = some i0) (hs : i0.size = sz) (A : Option Addr) (n cap t u : Nat) (h : t ≤ u) (h2 : u ≤ cap) (w : World) :
 (Instr.slice ty (.slice A n cap) (some (.int .i64 (t : Int))) (some (.int .i64 (u : Int))) none).run P w = .ok (.slice (if cap = t then A else A.map (·.add (t * sz))) (u - t) (cap - t)) w := by
 subst hs
 have h1 : (t : Int) ≤ (u : Int) := by omega
 have h3 : (u : Int) ≤ (cap : Int) := by omega
 have h4 : (0 : Int) ≤ (t : Int) := by omega
 have h5 : (0 : Int) ≤ (u : Int) := by omega
 simp [Instr.slice, run_underlying hu, Instr.sliceBounds, Instr.sliceBound, asIntOf, sizeOf, typeInfo, hi, h4, h5, h3, h1, h, h2, go_sem]
theorem KL.mid {w : World} {A : Option Addr} {n cap : Nat} {l : List Nat} (h : KL .u64 w (.slice A n cap) l) (t m : Nat) (ht : t + m ≤ n) : KL .u64 w (.slice (if cap = t then A else A.map (·.add (t * 1))) (t + m - t) (cap - t)) ((l.drop t).take m) := by
 have hl : l.length = n := by obtain ⟨A', c', hv, _⟩ := h; cases hv; rfl
 rw [Nat.add_sub_cancel_left]
 exact (h.drop t (by omega)).take m (by rw [List.length_drop]; omega)
theorem appWg {w : World} {base : Nat} {v u : Value} {l m : List Nat} (hown : OwnU w base v l) (ha : KL .u64 w u m) (hb : base ≤ w.heap.size) (hsm : l.length ≤ 1000000) (hsm2 : m.length ≤ 1000000) :
 ∃ v' w', (Builtin.append_ #[23, 23] 23 #[v, u]).run Tryz.prog w = .ok v' w' ∧ OwnU w' base v' (l ++ m) ∧ w.grownBy w' v.ownBlock ∧ (v'.ownBlock = v.ownBlock ∨ v'.ownBlock = some w.heap.size) := by
 obtain ⟨i0, hi, hz0, hz1, hz2⟩ := info_parts infoU64
 have ht : Tryz.prog.underlying 23 = some (.slice 25) := Tryz.underlying23
 obtain ⟨A, cap, rfl, h⟩ := ha
 cases m with
 | nil =>
   refine ⟨v, w, ?_, by simpa using hown, ⟨rfl, rfl, rfl, Nat.le_refl _, fun _ _ _ => rfl⟩, .inl rfl⟩
   rcases hown.2 with ⟨rfl, _⟩ | ⟨g, cap', cur, rfl, _, _, hnc, _⟩
   ·cases A <;> simp [Builtin.append_, run_underlying ht, sizeOf, typeInfo, hi, Builtin.lenOf, Builtin.firstCells, loadCells, loadCellsFrom, storeCells]
   ·cases A <;> simp [Builtin.append_, run_underlying ht, sizeOf, typeInfo, hi, Builtin.lenOf, Builtin.firstCells, hnc, loadCells, loadCellsFrom, storeCells]
 | cons x m =>
   obtain ⟨g, off, rfl, hg, hc, hcell⟩ := h (by simp)
   obtain ⟨v', w', hrun, k1, k2, _, k4⟩ := run_append_own_at (P := Tryz.prog) w base 23 23 25 i0 (.int .u64 0) 1 8 Tryz.underlying23 hi hz0 hz1 hz2 rfl (by decide) v l.length _ hown ⟨g, off, none⟩ (x :: m).length cap ((x :: m).map fun x : Nat => Value.int .u64 x) (by simp)
    (fun j u hj => by
      have hj2 : j < (x :: m).length := by have := (List.getElem?_eq_some_iff.1 hj).1; simpa using this
      have c0 := hcell j hj2
      rw [List.getElem?_map, List.getElem?_eq_getElem hj2] at hj
      rw [List.getD_eq_getElem?_getD, List.getElem?_eq_getElem hj2] at c0
      simp only [Option.map_some, Option.some.injEq] at hj
      rw [← hj]
      rw [add_plain]; exact c0) (by intro u hu; obtain ⟨y, _, rfl⟩ := List.mem_map.1 hu; rfl) (by unfold maxLen; omega) (by omega) hb
   refine ⟨v', w', hrun, ?_, k2, k4⟩
   unfold OwnU
   rw [List.length_append, List.map_append]
   exact k1
structure Q7 (W : World) (rv : Option (Value × List Nat)) (b : Option Nat) (w : World) : Prop where
 bel : Below W.heap.size W w
 row : ∀ v l, rv = some (v, l) → OwnU w W.heap.size v l
 blk : ∀ g, b = some g → W.heap.size ≤ g ∧ Bk w g (.int .i64 0) (.slice none 0 0)
theorem Q7.start (W : World) : Q7 W none none W.drew := ⟨(Below.refl _ _).drew, fun _ _ h => (by cases h), fun _ h => (by cases h)⟩
theorem Q7.row0 {W w : World} {b : Option Nat} (h : Q7 W none b w) : Q7 W (some (.slice (some ⟨w.heap.size, 0, none⟩) 0 0, [])) b (w.alloc (.cells #[] (25 : Nat))) := by
 have hb : Below w.heap.size w (w.alloc (.cells #[] (25 : Nat))) := bZ _ _
 refine ⟨h.bel.trans (hb.mono h.bel.size), fun v l e => ?_, fun g e => ⟨(h.blk g e).1, (h.blk g e).2.keep hb⟩⟩
 simp only [Option.some.injEq, Prod.mk.injEq] at e
 obtain ⟨rfl, rfl⟩ := e
 exact OwnU.mono (base := w.heap.size) (World.ownsRow_lit (base := w.heap.size) (e := 25) (size := 1) w #[] 0 (Nat.le_refl _) (by unfold maxLen; omega) rfl) h.bel.size
theorem Q7.blk0 {W w : World} {rv : Option (Value × List Nat)} (h : Q7 W rv none w) : Q7 W rv (some w.heap.size) (w.alloc (.cells #[.int .i64 0, .slice none 0 0] (64 : Nat))) := by
 have hb : Below w.heap.size w (w.alloc (.cells #[.int .i64 0, .slice none 0 0] (64 : Nat))) := bZ _ _
 refine ⟨h.bel.trans (hb.mono h.bel.size), fun v l e => (h.row v l e).keep hb, fun g e => ?_⟩
 cases e
 exact ⟨h.bel.size, Bk.new w _ _⟩
theorem Q7.row1 {W w : World} {v u : Value} {os : List Nat} {b : Option Nat} {m : Nat} (h : Q7 W (some (v, [])) b w) (hu : ∀ w', Below W.heap.size W w' → KL .u64 w' u os) (hm : os.length = m) (hm2 : m ≤ 1000000) :
 ∃ A c w', (Builtin.append_ #[23, 23] 23 #[v, u]).run Tryz.prog w = .ok (.slice A m c) w' ∧ Q7 W (some (.slice A m c, os)) b w' := by
 have hr := h.row _ _ rfl
 obtain ⟨v', w', hrun, ho, hg, _⟩ := appWg hr (hu w h.bel) h.bel.size (by simp) (by omega)
 rw [List.nil_append] at ho
 obtain ⟨A, c, hv, _⟩ := ho.form
 rw [hm] at hv
 subst hv
 refine ⟨A, c, w', hrun, h.bel.trans ((Below.refl _ w).grown hg h.bel.size (fun j hj => (World.ownsRow.lt hr j hj).1)), fun v2 l2 e => ?_, fun g e => ⟨(h.blk g e).1, ?_⟩⟩
 ·simp only [Option.some.injEq, Prod.mk.injEq] at e
  obtain ⟨rfl, rfl⟩ := e
  exact ho
 ·have hk := (h.blk g e).2
  refine (hg.block g hk.lt (fun q => ?_)).trans hk
  rcases hr.2 with ⟨rfl, _⟩ | ⟨g2, cap, cur, rfl, _, hgb, _⟩
  ·simp [Value.ownBlock] at q
  ·simp only [Value.ownBlock, Option.some.injEq] at q
   subst q
   have := (show w.heap[g]? = _ from hk).symm.trans hgb
   simp at this
theorem grownBy_set (W : World) (b o : Nat) (v : Value) : W.grownBy (W.setCell ⟨b, o, none⟩ v) (some b) :=
 ⟨rfl, rfl, rfl, (KeepsWalks.setCell W ⟨b, o, none⟩ v).size, fun k _ hk => Below.heap_setCell W ⟨b, o, none⟩ v k (fun e => hk (by rw [e]))⟩
theorem Q7.last {W w : World} {A : Option Addr} {m c : Nat} {os : List Nat} {g : Nat} (h : Q7 W (some (.slice A m c, os)) (some g) w) (a : Int) :
 C2 w g (.int .i64 0) (.slice none 0 0) ∧ (w.frozen? ⟨g, 0, none⟩ = false ∧ w.frozen? ⟨g, 1, none⟩ = false) ∧ ∃ w', w' = (w.setCell ⟨g, 0, none⟩ (.int .i64 a)).setCell ⟨g, 1, none⟩ (.slice A m c) ∧ Bk w' g (.int .i64 a) (.slice A m c) ∧ OwnU w' W.heap.size (.slice A m c) os ∧ Below W.heap.size W w' := by
 obtain ⟨hg, hk⟩ := h.blk _ rfl
 have hr := h.row _ _ rfl
 have hne : ∀ k, (Value.slice A m c).ownBlock = some k → g ≠ k := fun k q e => by
  subst e
  rcases hr.2 with ⟨e2, _⟩ | ⟨g2, cap, cur, e2, _, hgb, _⟩
  ·rw [e2] at q; simp [Value.ownBlock] at q
  ·rw [e2] at q
   simp only [Value.ownBlock, Option.some.injEq] at q
   subst q
   have := (show w.heap[g2]? = _ from hk).symm.trans hgb
   simp at this
 refine ⟨hk.c2, ⟨(row_cell hk 0).2, (row_cell hk 1).2⟩, _, rfl, ?_, ?_, (h.bel.setCell (p := ⟨g, 0, none⟩) hg _).setCell (p := ⟨g, 1, none⟩) hg _⟩
 ·exact set_blk (set_blk (show w.heap[g]? = some (.cells #[.int .i64 0, .slice none 0 0] 64 (0, 0)) from hk))
 ·refine World.ownsRow.kept (World.ownsRow.kept hr (grownBy_set w g 0 _) ?_) (grownBy_set _ g 1 _) ?_
  ·exact .inr (fun e => hne g e rfl)
  ·exact .inr (fun e => hne g e rfl)
def OD (n₀ : Nat) (xs : List Ex) (v : Value) (W : World) : Prop := OwnE 64 2 eS W n₀ v xs ∧ ∀ x ∈ xs, 0 < x.2.2.length ∧ KL .u64 W x.2.1 x.2.2 ∧ Off x.2.1 v.ownBlock
theorem OD.keep {n₀ : Nat} {xs : List Ex} {v : Value} {W w : World} (h : OD n₀ xs v W) (hb : Below W.heap.size W w) : OD n₀ xs v w :=
 ⟨h.1.keep hb, fun x hx => by obtain ⟨a, b, c⟩ := h.2 x hx; exact ⟨a, b.keep hb, c⟩⟩
theorem OD.en {n₀ : Nat} {xs : List Ex} {v : Value} {W : World} (h : OD n₀ xs v W) : EN W v (xs.map px) := ⟨xs, h.1.el eS_len, fun x hx => (h.2 x hx).2.1, rfl⟩
theorem OD.add {n₀ : Nat} {xs : List Ex} {v : Value} {W : World} {a : Int} {A : Option Addr} {m c : Nat} {os : List Nat} (h : OD n₀ xs v W) (hk : KL .u64 W (.slice A m c) os) (h0 : 0 < os.length) (hoff : Off (.slice A m c) v.ownBlock) (hb : n₀ ≤ W.heap.size) (hlen : xs.length ≤ 1000) :
 ∃ A' c' w1, (Builtin.append_ #[60, 60] 60 #[v, .slice (some ⟨W.heap.size, 0, none⟩) 1 1]).run Tryz.prog (W.alloc (.cells #[.int .i64 a, .slice A m c] (64 : Nat))) = .ok (.slice A' (xs.length + 1) c') w1 ∧ OD n₀ (xs ++ [(a, .slice A m c, os)]) (.slice A' (xs.length + 1) c') w1 ∧ Below n₀ W w1 := by
 have hB1 : Below W.heap.size W (W.alloc (.cells #[.int .i64 a, .slice A m c] (64 : Nat))) := bZ _ _
 have hlit : EL 2 eS (W.alloc (.cells #[.int .i64 a, .slice A m c] (64 : Nat))) (.slice (some ⟨W.heap.size, 0, none⟩) 1 1) [((a, .slice A m c, os) : Ex)] := (OwnE.lit 64 eS_len W [((a, .slice A m c, os) : Ex)] _ rfl (by simp)).el eS_len
 obtain ⟨v', w1, hrun, ho, hg, hl2, hnn⟩ := appE enT (h.1.keep hB1) hlit (by simp; omega) (by omega) (by simp)
 have hlm : (xs ++ [((a, .slice A m c, os) : Ex)]).length = xs.length + 1 := by simp
 obtain ⟨g', cap', hv', hg1, hg2, hg3⟩ := ho.form (by rw [hlm]; omega)
 rw [hlm] at hv'
 subst hv'
 have hoffx : ∀ (v2 : Value) (l2 : List Nat), KL .u64 W v2 l2 → 0 < l2.length → Off v2 v.ownBlock → Off v2 (Value.slice (some ⟨g', 0, none⟩) (xs.length + 1) cap').ownBlock := fun v2 l2 h1 h0 h2 => by
  rcases hl2 with e | e
  ·rw [e]; exact h2
  ·rw [e]
   intro g o m c e2 q
   obtain ⟨A5, cap5, e5, h5⟩ := h1
   obtain ⟨g5, off5, e6, h6, _⟩ := h5 h0
   rw [e5, e6] at e2
   simp only [Value.slice.injEq, Option.some.injEq, Addr.mk.injEq, and_true] at e2
   obtain ⟨⟨rfl, rfl⟩, rfl, rfl⟩ := e2
   simp at q
   omega
 refine ⟨_, _, w1, hrun, ⟨ho, fun x hx => ?_⟩, (hB1.mono hb).trans ((Below.refl _ _).grown hg (by simp; omega) (fun j hj => (h.1.lt j hj).1))⟩
 rw [List.mem_append, List.mem_singleton] at hx
 rcases hx with hx | rfl
 ·obtain ⟨k0, k2, k3⟩ := h.2 x hx
  exact ⟨k0, (k2.keep hB1).grown hg k3, hoffx _ _ k2 k0 k3⟩
 ·exact ⟨h0, (hk.keep hB1).grown hg hoff, hoffx _ _ hk h0 hoff⟩
theorem tkB_enc {gn : Nat} {rs : List Nat} (h : manyN rs + 2 ≤ rs.length) (hc : canB (atN rs) (manyN rs) = true) : decide (encW gn (atN rs) ((rs.drop 1).take (manyN rs)) = rs.take (manyN rs + 2)) = tkB gn rs := by
 unfold tkB
 rw [hc, decide_eq_true h, Bool.true_and, Bool.and_true]
 cases rs with
 | nil => simp at h
 | cons r rs =>
   have hg : (r :: rs).getD 0 0 = r := rfl
   generalize hm : manyN (r :: rs) = m at *
   generalize atN (r :: rs) = a at *
   simp only [List.length_cons] at h
   rw [hg]
   have e1 : ((r :: rs).drop 1).take m = rs.take m := rfl
   have e2 : (r :: rs).take (m + 2) = r :: (rs.take m ++ [rs.getD m 0]) := by
    rw [List.take_succ_cons, List.take_succ_eq_append_getElem (by omega), List.getD_eq_getElem?_getD, List.getElem?_eq_getElem (by omega)]
    rfl
   have e3 : (r :: rs).getD (m + 1) 0 = rs.getD m 0 := rfl
   have e4 : (r :: rs).take (m + 1) = r :: rs.take m := rfl
   have e5 : (rs.take m).length = m := by rw [List.length_take]; omega
   rw [e1, e2, e3, e4]
   unfold encW
   rw [e5]
   generalize firstW gn a m = f
   rw [List.cons_append]
   by_cases q1 : f = r
   ·subst q1
    rw [decide_eq_true (rfl : f = f), Bool.true_and]
    refine decide_eq_decide.2 ⟨fun q => ?_, fun q => by rw [q]⟩
    simp only [List.cons.injEq, true_and, List.append_cancel_left_eq, and_true] at q
    exact q.symm
   ·rw [decide_eq_false q1, Bool.false_and, decide_eq_false]
    exact fun q => q1 (List.cons.inj q).1
theorem decL_none {gn : Nat} {ws : List Nat} {xs : List Pe} {rs : List Nat} (h : evs gn ws = xs.map some ++ evs gn rs) (h0 : 0 < rs.length) (hk : tkB gn rs = false) : decL gn ws = none := by
 unfold decL
 rw [if_pos]
 rw [h, evs_f h0 hk]
 simp
theorem decL_all {gn : Nat} {ws : List Nat} {xs : List Pe} (h : evs gn ws = xs.map some) : decL gn ws = some xs := by
 unfold decL
 rw [h, if_neg (by simp)]
 rw [List.filterMap_map]
 congr 1
 exact List.filterMap_some
end Go.Proofs.YtkdhdibjbabgfaaGreatDoor
end
section
namespace Go.Proofs.YtkdhdibjbabgfaaGreatDoor
open Go.RowKit Go.ChangeShapes Go.WideShapes Go.Deep
def wN (o : Ox) : Nat := (wordOp o).toNat
def encW_rd (l : List Ox) : List Nat := l.flatMap fun o => [wN o, o.2.2]
def encS (l : List Ox) : List Nat := encW_rd l ++ [moreN 0 (encW_rd l)]
theorem wN_eq {o : Ox} (h : wrongB o = false) : wordOp o = ((wN o : Nat) : Int) := by
 have := wrongB_f h
 unfold wN wordOp
 omega
theorem wN_lt {o : Ox} (h : wrongB o = false) : wN o < 262144 := by
 have := wrongB_f h
 unfold wN wordOp
 omega
theorem encW_len (l : List Ox) : (encW_rd l).length = 2 * l.length := by
 induction l with
 | nil => rfl
 | cons o l ih => simp only [encW_rd, List.flatMap_cons, List.length_append, List.length_cons, List.length_nil] at *; omega
theorem encW_take (l : List Ox) (k : Nat) (h : k < l.length) : encW_rd (l.take (k + 1)) = encW_rd (l.take k) ++ [wN (l.getD k default), (l.getD k default).2.2] := by
 unfold encW_rd
 rw [List.take_succ_eq_append_getElem h, List.flatMap_append, List.getD_eq_getElem?_getD, List.getElem?_eq_getElem h]
 simp
theorem encW_WL {l : List Ox} (h : ∀ o ∈ l, wrongB o = false) (hv : OVs l) : WL (encW_rd l) := by
 intro x hx
 obtain ⟨o, ho, hx⟩ := List.mem_flatMap.1 hx
 simp only [List.mem_cons, List.not_mem_nil, or_false] at hx
 rcases hx with rfl | rfl
 ·have := wN_lt (h o ho); omega
 ·exact hv o ho
theorem KL.two (w : World) (a b : Nat) (t : TypeId) : KL .u64 (w.alloc (.cells #[.int .u64 (a : Nat), .int .u64 (b : Nat)] t)) (.slice (some ⟨w.heap.size, 0, none⟩) 2 2) [a, b] := by
 refine ⟨_, 2, rfl, fun _ => ⟨w.heap.size, 0, rfl, by simp, by simp, fun i hi => ?_⟩⟩
 match i, hi with
 | 0, _ => simp [go_sem]
 | 1, _ => simp [go_sem]
 | i + 2, hi => simp at hi; omega
theorem rightB_all {l : List Ox} (hk : l.length ≤ 19) (h : ∀ j, j < l.length → wrongB (l.getD j default) = false) : rightB_rd l = true := by
 unfold rightB_rd
 have : l.any wrongB = false := by
  rw [List.any_eq_false]
  intro x hx
  obtain ⟨i, hi, rfl⟩ := List.mem_iff_getElem.1 hx
  have := h i hi
  rw [List.getD_eq_getElem?_getD, List.getElem?_eq_getElem hi] at this
  simp at this; simp [this]
 rw [this]; simp [hk]
theorem refEnc_full (v : Value) (l : List Ox) (w : World) (hv : OPL w v l) (h : 19 < l.length) :
 Calls Tryz.prog 32 #[v] w fun e w' => e = .returned (.tuple #[.slice none 0 0, .int .i64 3]) ∧ Below w.heap.size w w' := by
 obtain ⟨A, cap, rfl, _⟩ := hv.form rfl
 have h' : (19 : Int) < (l.length : Int) := by omega
 clear hv
 go_enter Tryz.func32, Tryz.ntmps32
 go_wp2_with fail
 go_ret2
 exact ⟨rfl, Below.refl _ _⟩
end Go.Proofs.YtkdhdibjbabgfaaGreatDoor
end
