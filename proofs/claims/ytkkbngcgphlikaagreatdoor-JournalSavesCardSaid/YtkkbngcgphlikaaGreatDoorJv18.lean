/-
  Part of the proof of JournalSaves.
-/
import Derived.Test.YtkkbngcgphlikaaGreatDoorJv17
import Derived.Test.YtkkbngcgphlikaaGreatDoorJv24
import Derived.Test.YtkkbngcgphlikaaGreatDoorJv25
import Derived.Test.YtkkbngcgphlikaaGreatDoorJv3
import Derived.Test.YtkkbngcgphlikaaGreatDoorJv4
import Derived.Test.YtkkbngcgphlikaaGreatDoorJv7
import Derived.ChangeKeysEq
import Derived.Laws.ResultCell
import Derived.Test.YtkkbngcgphlikaaGreatDoorJv0
set_option maxRecDepth 20000
set_option maxHeartbeats 2000000
set_option linter.unusedVariables false
set_option linter.unusedSimpArgs false
section
namespace Go.Proofs.YtkkbngcgphlikaaGreatDoor
open Go.RowKit
theorem st8_ex {W : World} {g : Nat} {t : TypeId} (h : W.heap[g]? = some (.cells (List.replicate 8 (Value.int .u64 0)).toArray t (0, 0))) (x0 x1 x2 x3 x4 x5 x6 x7 : Value) :
 ∃ w9, w9 = ((((((((W.setCell ⟨g, 0, none⟩ x0).setCell ⟨g, 1, none⟩ x1).setCell ⟨g, 2, none⟩ x2).setCell ⟨g, 3, none⟩ x3).setCell ⟨g, 4, none⟩ x4).setCell ⟨g, 5, none⟩ x5).setCell ⟨g, 6, none⟩ x6).setCell ⟨g, 7, none⟩ x7) ∧ w9.heap[g]? = some (.cells #[x0, x1, x2, x3, x4, x5, x6, x7] t (0, 0)) ∧ Below g W w9 := by
 have q1 := heap_setCell_same _ g 0 _ _ x0 h
 have q2 := heap_setCell_same _ g 1 _ _ x1 q1
 have q3 := heap_setCell_same _ g 2 _ _ x2 q2
 have q4 := heap_setCell_same _ g 3 _ _ x3 q3
 have q5 := heap_setCell_same _ g 4 _ _ x4 q4
 have q6 := heap_setCell_same _ g 5 _ _ x5 q5
 have q7 := heap_setCell_same _ g 6 _ _ x6 q6
 have q8 := heap_setCell_same _ g 7 _ _ x7 q7
 have b0 := Below.refl g W
 have b1 := Below.setCell (p := ⟨g, 0, none⟩) b0 (Nat.le_refl _) x0
 have b2 := Below.setCell (p := ⟨g, 1, none⟩) b1 (Nat.le_refl _) x1
 have b3 := Below.setCell (p := ⟨g, 2, none⟩) b2 (Nat.le_refl _) x2
 have b4 := Below.setCell (p := ⟨g, 3, none⟩) b3 (Nat.le_refl _) x3
 have b5 := Below.setCell (p := ⟨g, 4, none⟩) b4 (Nat.le_refl _) x4
 have b6 := Below.setCell (p := ⟨g, 5, none⟩) b5 (Nat.le_refl _) x5
 have b7 := Below.setCell (p := ⟨g, 6, none⟩) b6 (Nat.le_refl _) x6
 have b8 := Below.setCell (p := ⟨g, 7, none⟩) b7 (Nat.le_refl _) x7
 simp only [List.replicate, List.setIfInBounds_toArray, List.set_cons_zero, List.set_cons_succ] at q8
 exact ⟨_, rfl, q8, b8⟩
theorem parts_x (v : Value) (l : List Nat) (w : World) (x0 x1 x2 x3 x4 x5 x6 x7 : Nat) (e0 : l.getD 0 0 = x0) (e1 : l.getD 1 0 = x1) (e2 : l.getD 2 0 = x2) (e3 : l.getD 3 0 = x3) (e4 : l.getD 4 0 = x4) (e5 : l.getD 5 0 = x5) (e6 : l.getD 6 0 = x6) (e7 : l.getD 7 0 = x7) (h8 : 8 ≤ l.length) (hv : SL w v l) :
 Calls Tryz.prog 117 #[v] w fun e w' => e = .returned (.agg #[.int .u64 x0, .int .u64 x1, .int .u64 x2, .int .u64 x3, .int .u64 x4, .int .u64 x5, .int .u64 x6, .int .u64 x7]) ∧ Below w.heap.size w w' := by
 obtain ⟨sp, cap, rfl⟩ := hv.form
 go_enter Tryz.func117, Tryz.ntmps117
 go_wp2_with fail
 have hw1 := heap_alloc_new (w.alloc (.cells (List.replicate 8 (Value.int .u64 0)).toArray 171)) (.cells (List.replicate 8 (Value.int .u64 0)).toArray 171)
 have hB1 : Below w.heap.size w ((w.alloc (.cells (List.replicate 8 (Value.int .u64 0)).toArray 171)).alloc (.cells (List.replicate 8 (Value.int .u64 0)).toArray 171)) := (bZ _ _).alloc (by simp) _
 have hr0 := Below.heap_alloc (w.alloc (.cells (List.replicate 8 (Value.int .u64 0)).toArray 171)) (.cells (List.replicate 8 (Value.int .u64 0)).toArray 171) w.heap.size (by simp)
 rw [heap_alloc_new w] at hr0
 rw [show (w.alloc (.cells (List.replicate 8 (Value.int .u64 0)).toArray 171)).heap.size = w.heap.size + 1 by simp] at hw1
 obtain ⟨w2, hrun, hrow2, hb2⟩ := copyW l hw1 (hv.keep hB1)
 have hrun2 : (Builtin.copy_ #[25, 25] 3 #[.slice (some ⟨w.heap.size + 1, 0, none⟩) 8 8, .slice sp l.length cap]).run Tryz.prog ((w.alloc (.cells #[Value.int .u64 0, Value.int .u64 0, Value.int .u64 0, Value.int .u64 0, Value.int .u64 0, Value.int .u64 0, Value.int .u64 0, Value.int .u64 0] 171)).alloc (.cells #[Value.int .u64 0, Value.int .u64 0, Value.int .u64 0, Value.int .u64 0, Value.int .u64 0, Value.int .u64 0, Value.int .u64 0, Value.int .u64 0] 171)) = .ok (goInt (Nat.min l.length 8)) w2 := hrun
 rw [hrun2]
 rw [show Nat.min l.length 8 = 8 from Nat.min_eq_right h8, Nat.sub_self, List.replicate_zero, List.append_nil] at hrow2
 have hr0' := (hb2.block w.heap.size (by omega)).trans hr0
 have hB2 : Below w.heap.size w w2 := hB1.trans (hb2.mono (by omega))
 have hK := fun i (hi : i < 8) => (row_cell hrow2 i).1.trans (by rw [List.getElem?_toArray, wv_at (l.take 8) i (by simp; omega), List.getD_eq_getElem?_getD, List.getElem?_take, if_pos hi, ← List.getD_eq_getElem?_getD])
 have a0 := hK 0 (by omega)
 have a1 := hK 1 (by omega)
 have a2 := hK 2 (by omega)
 have a3 := hK 3 (by omega)
 have a4 := hK 4 (by omega)
 have a5 := hK 5 (by omega)
 have a6 := hK 6 (by omega)
 have a7 := hK 7 (by omega)
 have b0 := row_cell hr0' 0
 have b1 := row_cell hr0' 1
 have b2 := row_cell hr0' 2
 have b3 := row_cell hr0' 3
 have b4 := row_cell hr0' 4
 have b5 := row_cell hr0' 5
 have b6 := row_cell hr0' 6
 have b7 := row_cell hr0' 7
 simp only [List.getElem?_toArray, List.replicate, List.getElem?_cons_zero, List.getElem?_cons_succ] at b0 b1 b2 b3 b4 b5 b6 b7
 clear hrun hrun2 hrow2 hr0 hw1 hb2 hK hB1 hv
 rw [e0] at a0
 rw [e1] at a1
 rw [e2] at a2
 rw [e3] at a3
 rw [e4] at a4
 rw [e5] at a5
 rw [e6] at a6
 rw [e7] at a7
 have hr9 := lh hr0'
 clear hr0'
 clear e0 e1 e2 e3 e4 e5 e6 e7
 go_wp2_with fail
 obtain ⟨w9, hw9, hq, hb9⟩ := st8_ex hr9.out (.int .u64 (x0 : Int)) (.int .u64 (x1 : Int)) (.int .u64 (x2 : Int)) (.int .u64 (x3 : Int)) (.int .u64 (x4 : Int)) (.int .u64 (x5 : Int)) (.int .u64 (x6 : Int)) (.int .u64 (x7 : Int))
 rw [← hw9]
 refine bodyPost_ret (v := .agg #[.int .u64 x0, .int .u64 x1, .int .u64 x2, .int .u64 x3, .int .u64 x4, .int .u64 x5, .int .u64 x6, .int .u64 x7]) ?_ rfl ⟨rfl, hB2.trans hb9⟩
 exact results_cell_row (p := 2) (ty := 171) rfl _ _ w.heap.size 171 _ (0, 0) _ rfl hq Tryz.underlying171 rfl (by kernel_rfl)
end Go.Proofs.YtkkbngcgphlikaaGreatDoor
end
section
namespace Go.Proofs.YtkkbngcgphlikaaGreatDoor
open Go.RowKit
theorem part_at (w : World) (xs : Array Value) (i : Nat) (x : Int) (h : xs[i]? = some (.int .u64 x)) : (part 40 xs i).run Tryz.prog w = .ok (.int .u64 x) w := by
 have ht : Tryz.prog.underlying 40 = some (.int .u64) := Tryz.underlying40
 unfold part
 simp [run_underlying ht, h]
theorem eqItem (w : World) (d i : Nat) (xs ys : Array Value) (is : List Nat) (x y : Int) (hx : xs[i]? = some (.int .u64 x)) (hy : ys[i]? = some (.int .u64 y)) :
 (Op.eqItems (d + 1) 40 1 xs ys (i :: is)).run Tryz.prog w = if x = y then (Op.eqItems (d + 1) 40 1 xs ys is).run Tryz.prog w else .ok false w := by
 have ht : Tryz.prog.underlying 40 = some (.int .u64) := Tryz.underlying40
 simp only [Op.eqItems, Sem.run_bind, Nat.mul_one, part_at w xs i x hx, part_at w ys i y hy, Result.andThen_ok, run_equalIn_int w d _ _ _ x y ht]
 by_cases h : x = y
 ·simp [h]
 ·have : (x == y) = false := by rw [beq_eq_false_iff_ne]; exact h
  simp [h, this]
theorem eq8 (w : World) (x0 x1 x2 x3 x4 x5 x6 x7 y0 y1 y2 y3 y4 y5 y6 y7 : Nat) :
 (Op.equalIn 10000 171 (.agg #[.int .u64 x0, .int .u64 x1, .int .u64 x2, .int .u64 x3, .int .u64 x4, .int .u64 x5, .int .u64 x6, .int .u64 x7]) (.agg #[.int .u64 y0, .int .u64 y1, .int .u64 y2, .int .u64 y3, .int .u64 y4, .int .u64 y5, .int .u64 y6, .int .u64 y7])).run Tryz.prog w
   = .ok (decide ([x0, x1, x2, x3, x4, x5, x6, x7] = [y0, y1, y2, y3, y4, y5, y6, y7])) w := by
 obtain ⟨i0, hi, hz0, hz1, hz2⟩ := info_parts infoU64
 have hu : Tryz.prog.underlying 171 = some (.array 8 40) := Tryz.underlying171
 have hc : Tryz.prog.cellsOf 40 = 1 := by unfold Program.cellsOf; simp [hi, hz1]
 rw [run_equalIn_array w 9999 _ _ hu hi, hc, show List.range 8 = [0, 1, 2, 3, 4, 5, 6, 7] by decide]
 rw [eqItem w 9998 0 _ _ _ x0 y0 rfl rfl, eqItem w 9998 1 _ _ _ x1 y1 rfl rfl, eqItem w 9998 2 _ _ _ x2 y2 rfl rfl, eqItem w 9998 3 _ _ _ x3 y3 rfl rfl, eqItem w 9998 4 _ _ _ x4 y4 rfl rfl, eqItem w 9998 5 _ _ _ x5 y5 rfl rfl, eqItem w 9998 6 _ _ _ x6 y6 rfl rfl, eqItem w 9998 7 _ _ _ x7 y7 rfl rfl]
 simp only [Op.eqItems, Sem.run_pure, Int.ofNat_inj]
 by_cases h0 : x0 = y0 <;> by_cases h1 : x1 = y1 <;> by_cases h2 : x2 = y2 <;> by_cases h3 : x3 = y3 <;> by_cases h4 : x4 = y4 <;> by_cases h5 : x5 = y5 <;> by_cases h6 : x6 = y6 <;> by_cases h7 : x7 = y7 <;> simp [h0, h1, h2, h3, h4, h5, h6, h7]
end Go.Proofs.YtkkbngcgphlikaaGreatDoor
end
section
namespace Go.Proofs.YtkkbngcgphlikaaGreatDoor
open Go.RowKit
def headW (W L G : Nat) : List Nat := headL W L G ++ [moreN 0 (headL W L G)]
theorem take8 (l : List Nat) (h : 8 ≤ l.length) : l.take 8 = [l.getD 0 0, l.getD 1 0, l.getD 2 0, l.getD 3 0, l.getD 4 0, l.getD 5 0, l.getD 6 0, l.getD 7 0] := by
 match l, h with
 | a :: b :: c :: d :: e :: f :: g :: i :: r, _ => simp
def decR (N L : Nat) (b : Bool) : Value := match b with
 | true => .tuple #[.agg #[.int .i64 N, .int .i64 L], .int .i64 0]
 | false => .tuple #[.agg #[.int .i64 0, .int .i64 0], .int .i64 7]
theorem dec_ok (v : Value) (l : List Nat) (L G N : Nat) (w : World) (hn : l.length = N) (h8 : 8 ≤ N) (hL : l.getD 3 0 = L) (hG : gN N L = (G : Int)) (hg : gOk N L = true) (hv : SL w v l) :
 Calls Tryz.prog 61 #[v] w fun e w' => e = .returned (decR N L (decide (l.take 8 = headW N L G))) ∧ Below w.heap.size w w' := by
 obtain ⟨M, hM⟩ : ∃ M, l.length = M + 1 := ⟨l.length - 1, by omega⟩
 have hS := lh hv
 obtain ⟨g, o, p, rfl, hgs, hp, hc⟩ := hv.pos hM
 rw [← hM, hn] at hS hp hc ⊢
 obtain ⟨h1, h2, h3, h4⟩ := gOk_t hg
 have c3 := hc 3 (by omega)
 rw [hL] at c3
 have hE := lh (fun w => senc_t N L G w hg hG)
 have f1 : IntKind.i64.wrap (L : Int) = (L : Int) := by rw [IntKind.wrap_i64]; omega
 have f2 : ¬ ((N : Int) < 8) := by omega
 have f3 : (3 : Int) < (N : Int) := by omega
 obtain ⟨x0, hx0⟩ : ∃ x, Hid (l.getD 0 0 = x) := ⟨_, lh rfl⟩
 obtain ⟨x1, hx1⟩ : ∃ x, Hid (l.getD 1 0 = x) := ⟨_, lh rfl⟩
 obtain ⟨x2, hx2⟩ : ∃ x, Hid (l.getD 2 0 = x) := ⟨_, lh rfl⟩
 obtain ⟨x3, hx3⟩ : ∃ x, Hid (l.getD 3 0 = x) := ⟨_, lh rfl⟩
 obtain ⟨x4, hx4⟩ : ∃ x, Hid (l.getD 4 0 = x) := ⟨_, lh rfl⟩
 obtain ⟨x5, hx5⟩ : ∃ x, Hid (l.getD 5 0 = x) := ⟨_, lh rfl⟩
 obtain ⟨x6, hx6⟩ : ∃ x, Hid (l.getD 6 0 = x) := ⟨_, lh rfl⟩
 obtain ⟨x7, hx7⟩ : ∃ x, Hid (l.getD 7 0 = x) := ⟨_, lh rfl⟩
 have hP := lh (fun (w1 : World) (hb : Below w.heap.size w w1) => parts_x _ l w1 x0 x1 x2 x3 x4 x5 x6 x7 hx0.out hx1.out hx2.out hx3.out hx4.out hx5.out hx6.out hx7.out (by omega) (hS.out.keep hb))
 replace hn := lh hn
 replace hL := lh hL
 replace hM := lh hM
 replace hG := lh hG
 replace hg := lh hg
 clear hc
 go_enter Tryz.func61, Tryz.ntmps61
 go_wp2_with fail
 refine (hE.out _).mono ?_
 rintro e w2 ⟨ge, rfl, hge, hR, hb2⟩
 have hB2 : Below w.heap.size w w2 := ((bZ _ _).alloc (by simp) _).trans (hb2.mono (by simp; omega))
 have kk := ((C2.new w (.int .i64 0) (.int .i64 0) 37).alloc (.cells #[.int .i64 N, .int .i64 L] 37)).keep hb2
 have ff := ((F2.new w (.int .i64 0) (.int .i64 0) 37).alloc (by simp) (.cells #[.int .i64 N, .int .i64 L] 37)).keep (by simp; omega) hb2
 have jj := (C2.new (w.alloc (.cells #[.int .i64 0, .int .i64 0] 37)) (.int .i64 N) (.int .i64 L) 37).keep hb2
 simp only [World.size_alloc] at jj
 go_wp2_with fail
 refine (hP.out _ hB2).mono ?_
 rintro e w3 ⟨rfl, hb3⟩
 have hB3 := hB2.trans (hb3.mono hB2.size)
 replace ff := ff.keep kk.lt hb3
 replace kk := kk.keep hb3
 replace jj := jj.keep hb3
 go_wp2_with fail
 generalize hwl : headL N L G ++ [moreN 0 (headL N L G)] = wl at *
 replace hwl := lh hwl
 obtain ⟨y0, hy0⟩ : ∃ x, Hid (wl.getD 0 0 = x) := ⟨_, lh rfl⟩
 obtain ⟨y1, hy1⟩ : ∃ x, Hid (wl.getD 1 0 = x) := ⟨_, lh rfl⟩
 obtain ⟨y2, hy2⟩ : ∃ x, Hid (wl.getD 2 0 = x) := ⟨_, lh rfl⟩
 obtain ⟨y3, hy3⟩ : ∃ x, Hid (wl.getD 3 0 = x) := ⟨_, lh rfl⟩
 obtain ⟨y4, hy4⟩ : ∃ x, Hid (wl.getD 4 0 = x) := ⟨_, lh rfl⟩
 obtain ⟨y5, hy5⟩ : ∃ x, Hid (wl.getD 5 0 = x) := ⟨_, lh rfl⟩
 obtain ⟨y6, hy6⟩ : ∃ x, Hid (wl.getD 6 0 = x) := ⟨_, lh rfl⟩
 obtain ⟨y7, hy7⟩ : ∃ x, Hid (wl.getD 7 0 = x) := ⟨_, lh rfl⟩
 have hl8 : wl.length = 8 := by rw [← hwl.out]; simp [headL]
 have hSw := hR.sl.keep hb3
 rw [hl8] at hSw
 have hQ := parts_x (.slice (some ⟨ge, 0, none⟩) 8 8) wl w3 y0 y1 y2 y3 y4 y5 y6 y7 hy0.out hy1.out hy2.out hy3.out hy4.out hy5.out hy6.out hy7.out (by omega) hSw
 refine hQ.mono ?_
 rintro e w4 ⟨rfl, hb4⟩
 have hB4 := hB3.trans (hb4.mono hB3.size)
 replace ff := ff.keep kk.lt hb4
 replace kk := kk.keep hb4
 replace jj := jj.keep hb4
 clear hR hSw hb2 hb3 hb4 hB2 hB3 hQ
 obtain ⟨k0, k1⟩ := id kk
 obtain ⟨f0, f1⟩ := id ff
 obtain ⟨j0, j1⟩ := id jj
 have hT : l.take 8 = [x0, x1, x2, x3, x4, x5, x6, x7] := by rw [take8 l (by have := hn.out; omega), hx0.out, hx1.out, hx2.out, hx3.out, hx4.out, hx5.out, hx6.out, hx7.out]
 have hW : headW N L G = [y0, y1, y2, y3, y4, y5, y6, y7] := by
  rw [show headW N L G = wl from hwl.out, ← hy0.out, ← hy1.out, ← hy2.out, ← hy3.out, ← hy4.out, ← hy5.out, ← hy6.out, ← hy7.out, ← take8 wl (by omega), List.take_of_length_le (by omega)]
 clear hx0 hx1 hx2 hx3 hx4 hx5 hx6 hx7 hy0 hy1 hy2 hy3 hy4 hy5 hy6 hy7 hP hE hv hS
 replace hT := lh hT
 replace hW := lh hW
 go_wp2_with fail
 rw [eq8]
 by_cases hE : [x0, x1, x2, x3, x4, x5, x6, x7] = [y0, y1, y2, y3, y4, y5, y6, y7]
 ·rw [decide_eq_true hE]
  replace hE := lh hE
  simp only [Result.andThen, Bool.not_true, Bool.not_false]
  go_wp2_with fail
  (try simp only [Exit.inBlock, Exit.then])
  obtain ⟨w7, hw7, hC7, hb7⟩ := st2_ex kk (.int .i64 N) (.int .i64 L)
  rw [← hw7]
  refine bodyPost_ret (v := .tuple #[.agg #[.int .i64 N, .int .i64 L], .int .i64 0]) ?_ rfl ⟨by rw [hT.out, hW.out, decide_eq_true hE.out]; rfl, hB4.trans hb7⟩
  rw [results_cell_tmp rfl]
  obtain ⟨t0, t1⟩ := hC7
  clear hw7 hb7 kk jj ff k0 k1 f0 f1 j0 j1
  go_simp
 ·rw [decide_eq_false hE]
  replace hE := lh hE
  simp only [Result.andThen, Bool.not_true, Bool.not_false]
  go_wp2_with fail
  (try simp only [Exit.inBlock, Exit.then])
  obtain ⟨w7, hw7, hC7, hb7⟩ := st2_ex kk (.int .i64 0) (.int .i64 0)
  rw [← hw7]
  refine bodyPost_ret (v := .tuple #[.agg #[.int .i64 0, .int .i64 0], .int .i64 7]) ?_ rfl ⟨by rw [hT.out, hW.out, decide_eq_false hE.out]; rfl, hB4.trans hb7⟩
  rw [results_cell_tmp rfl]
  obtain ⟨t0, t1⟩ := hC7
  clear hw7 hb7 kk jj ff k0 k1 f0 f1 j0 j1
  go_simp
theorem gOk_wrap (N L : Nat) (hL : L < 18446744073709551616) (h : gOk N L = false) : gOk N (IntKind.i64.wrap L) = false := by
 have h1 := gOk_f h
 refine decide_eq_false (fun h2 => h1 ?_)
 rw [IntKind.wrap_i64] at h2
 omega
theorem dec_no_super (v : Value) (l : List Nat) (L N : Nat) (w : World) (hn : l.length = N) (hL : l.getD 3 0 = L) (hl : L < 18446744073709551616) (hg : gOk N L = false) (hv : SL w v l) :
 Calls Tryz.prog 61 #[v] w fun e w' => e = .returned (decR N L false) ∧ Below w.heap.size w w' := by
 by_cases h8 : 8 ≤ N
 ·obtain ⟨M, hM⟩ : ∃ M, l.length = M + 1 := ⟨l.length - 1, by omega⟩
  obtain ⟨g, o, p, rfl, hgs, hp, hc⟩ := hv.pos hM
  rw [← hM, hn] at hp hc ⊢
  have c3 := hc 3 (by omega)
  rw [hL] at c3
  have hE := lh (fun w => senc_f N (IntKind.i64.wrap L) w (gOk_wrap N L hl hg))
  generalize f1 : IntKind.i64.wrap (L : Int) = J at *
  have f2 : ¬ ((N : Int) < 8) := by omega
  have f3 : (3 : Int) < (N : Int) := by omega
  clear hc hL hn hM hv hg
  go_enter Tryz.func61, Tryz.ntmps61
  go_wp2_with fail
  refine (hE.out _).mono ?_
  rintro e w2 ⟨rfl, hb2⟩
  have hB2 : Below w.heap.size w w2 := ((bZ _ _).alloc (by simp) _).trans (hb2.mono (by simp; omega))
  have kk := ((C2.new w (.int .i64 0) (.int .i64 0) 37).alloc (.cells #[.int .i64 N, .int .i64 J] 37)).keep hb2
  have ff := ((F2.new w (.int .i64 0) (.int .i64 0) 37).alloc (by simp) (.cells #[.int .i64 N, .int .i64 J] 37)).keep (by simp; omega) hb2
  obtain ⟨k0, k1⟩ := id kk
  obtain ⟨f0, f1⟩ := id ff
  clear hE hb2
  go_wp2_with fail
  (try simp only [Exit.inBlock, Exit.then])
  obtain ⟨w7, hw7, hC7, hb7⟩ := st2_ex kk (.int .i64 0) (.int .i64 0)
  rw [← hw7]
  refine bodyPost_ret (v := .tuple #[.agg #[.int .i64 0, .int .i64 0], .int .i64 7]) ?_ rfl ⟨rfl, hB2.trans hb7⟩
  rw [results_cell_tmp rfl]
  obtain ⟨t0, t1⟩ := hC7
  clear hw7 hb7 kk ff k0 k1 f0 f1
  go_simp
 ·obtain ⟨sp, cap, rfl⟩ := hv.form
  rw [hn]
  have f2 : (N : Int) < 8 := by omega
  clear hL hn hv hg
  have kk := C2.new w (.int .i64 0) (.int .i64 0) 37
  go_enter Tryz.func61, Tryz.ntmps61
  go_wp2_with fail
  refine bodyPost_ret (v := .tuple #[.agg #[.int .i64 0, .int .i64 0], .int .i64 7]) ?_ rfl ⟨rfl, bZ _ _⟩
  rw [results_cell_tmp rfl]
  obtain ⟨t0, t1⟩ := kk
  go_simp
def sOk (l : List Nat) : Bool := decide (8 ≤ l.length) && (gOk (l.length : Nat) (l.getD 3 0 : Nat) && decide (l.take 8 = headW l.length (l.getD 3 0) (gNat l.length (l.getD 3 0))))
theorem dec_any (v : Value) (l : List Nat) (w : World) (hl : WL l) (hv : SL w v l) :
 Calls Tryz.prog 61 #[v] w fun e w' => e = .returned (decR l.length (l.getD 3 0) (sOk l)) ∧ Below w.heap.size w w' := by
 have hL : l.getD 3 0 < 18446744073709551616 := by
  by_cases h : 3 < l.length
  ·exact hl.at 3 h
  ·rw [List.getD_eq_getElem?_getD, List.getElem?_eq_none (by omega)]; decide
 cases hg : gOk (l.length : Nat) (l.getD 3 0 : Nat) with
 | false =>
   rw [show sOk l = false by unfold sOk; rw [hg]; simp]
   exact dec_no_super v l _ _ w rfl rfl hL hg hv
 | true =>
   have := gOk_t hg
   rw [show sOk l = decide (l.take 8 = headW l.length (l.getD 3 0) (gNat l.length (l.getD 3 0))) by unfold sOk; rw [hg, decide_eq_true (show 8 ≤ l.length by omega)]; rfl]
   exact dec_ok v l _ _ _ w rfl (by omega) rfl (gNat_eq hg) hg hv
end Go.Proofs.YtkkbngcgphlikaaGreatDoor
end
section
namespace Go.Proofs.YtkkbngcgphlikaaGreatDoor
open Go.RowKit
theorem refEnc_yes (k c l m b : Int) (w : World) (hw : Lw w) (b0 : 0 ≤ b) (h : rightB_ti k c l m b = true) :
 Calls Tryz.prog 134 #[.agg #[.int .i64 k, .int .i64 c, .int .i64 l, .int .i64 m, .int .u64 b]] w fun e w' => e = .returned (.tuple #[.int .u64 (wordI k c l m b), .int .i64 0]) ∧ Below w.heap.size w w' := by
 have hr := rightB_t_ti h
 have hbd : 0 ≤ k ∧ k < 8 ∧ 0 ≤ c ∧ c < 4 ∧ 0 ≤ l ∧ l < 64 ∧ 0 ≤ m ∧ m < 8192 ∧ b < 256 := by unfold RightP at hr; omega
 obtain ⟨k0, k1, c0, c1, l0, l1, m0, m1, b1⟩ := hbd
 have H := lh h
 clear h hr
 have hw1 := lh (hw.alloc (.cells #[.int .i64 k, .int .i64 c, .int .i64 l, .int .i64 m, .int .u64 b] 109))
 have f1 : IntKind.u64.wrap k = k := by rw [IntKind.wrap_u64]; omega
 have f2 : IntKind.u64.wrap c = c := by rw [IntKind.wrap_u64]; omega
 have f3 : IntKind.u64.wrap l = l := by rw [IntKind.wrap_u64]; omega
 have f4 : IntKind.u64.wrap m = m := by rw [IntKind.wrap_u64]; omega
 have g1 : IntKind.u64.wrap (8 * c) = 8 * c := by rw [IntKind.wrap_u64]; omega
 have g2 : IntKind.u64.wrap (32 * l) = 32 * l := by rw [IntKind.wrap_u64]; omega
 have g3 : IntKind.u64.wrap (2048 * m) = 2048 * m := by rw [IntKind.wrap_u64]; omega
 have g4 : IntKind.u64.wrap (16777216 * b) = 16777216 * b := by rw [IntKind.wrap_u64]; omega
 have s1 : IntKind.u64.wrap (k + 8 * c) = k + 8 * c := by rw [IntKind.wrap_u64]; omega
 have s2 : IntKind.u64.wrap (k + 8 * c + 32 * l) = k + 8 * c + 32 * l := by rw [IntKind.wrap_u64]; omega
 have s3 : IntKind.u64.wrap (k + 8 * c + 32 * l + 2048 * m) = k + 8 * c + 32 * l + 2048 * m := by rw [IntKind.wrap_u64]; omega
 have s4 : IntKind.u64.wrap (k + 8 * c + 32 * l + 2048 * m + 16777216 * b) = k + 8 * c + 32 * l + 2048 * m + 16777216 * b := by rw [IntKind.wrap_u64]; omega
 go_enter Tryz.func134, Tryz.ntmps134
 go_wp2_with fail
 refine (refRight_any_ti k c l m b _ hw1.out.2.2.1 hw1.out.2.2.2.1 b0).mono ?_
 rw [H.out]
 rintro e w1 ⟨rfl, hb1⟩
 have kb := (C5.new w k c l m b 109).keep hb1
 have hB1 : Below w.heap.size w w1 := (bZ w _).trans (hb1.mono (by simp))
 obtain ⟨v0, v1, v2, v3, v4⟩ := kb
 go_wp2_with fail
 go_ret2
 exact ⟨by first | rfl | (rw [s4]; rfl) | (simp only [f1, f2, f3, f4, g1, g2, g3, g4, s1, s2, s3, s4]; rfl), hB1⟩
theorem pwI_bd (i : Nat) (h : i ≤ 7) : 0 ≤ pwI i ∧ pwI i ≤ 128 := by
 have : i = 0 ∨ i = 1 ∨ i = 2 ∨ i = 3 ∨ i = 4 ∨ i = 5 ∨ i = 6 ∨ i = 7 := by omega
 rcases this with h | h | h | h | h | h | h | h <;> subst h <;> decide +kernel
open Go.RowKit
theorem gets (x : Int) (h0 : 0 ≤ x) : getI x 0 3 = x % 8 ∧ getI x 3 2 = x / 8 % 4 ∧ getI x 5 6 = x / 32 % 64 ∧ getI x 11 13 = x / 2048 % 8192 ∧ getI x 24 8 = x / 16777216 % 256 := by
 obtain ⟨n, rfl⟩ := Int.eq_ofNat_of_zero_le h0
 unfold getI getN
 simp only [Int.toNat_natCast]
 have a1 : (0 : Int).toNat = 0 := rfl
 have a2 : (3 : Int).toNat = 3 := rfl
 have a3 : (2 : Int).toNat = 2 := rfl
 have a4 : (5 : Int).toNat = 5 := rfl
 have a5 : (6 : Int).toNat = 6 := rfl
 have a6 : (11 : Int).toNat = 11 := rfl
 have a7 : (13 : Int).toNat = 13 := rfl
 have a8 : (24 : Int).toNat = 24 := rfl
 have a9 : (8 : Int).toNat = 8 := rfl
 simp only [a1, a2, a3, a4, a5, a6, a7, a8, a9]
 omega
theorem refDecode_any_ti (x : Int) (w : World) (hw : Lw w) (h0 : 0 ≤ x) (h1 : x < 18446744073709551616) :
 Calls Tryz.prog 58 #[.int .u64 x] w fun e w' => e = .returned (.tuple #[decV x, .bool (decB_ti x)]) ∧ Below w.heap.size w w' := by
 obtain ⟨E0, E1, E2, E3, E4⟩ := gets x h0
 have hL0 := lh ((hw.alloc (.cells #[.int .i64 0, .int .i64 0, .int .i64 0, .int .i64 0, .int .u64 0] 109)).alloc (.cells #[.int .i64 (x % 8), .int .i64 (x / 8 % 4), .int .i64 (x / 32 % 64), .int .i64 (x / 2048 % 8192), .int .u64 (x / 16777216 % 256)] 109))
 have hA : Below w.heap.size w ((w.alloc (.cells #[.int .i64 0, .int .i64 0, .int .i64 0, .int .i64 0, .int .u64 0] 109)).alloc (.cells #[.int .i64 (x % 8), .int .i64 (x / 8 % 4), .int .i64 (x / 32 % 64), .int .i64 (x / 2048 % 8192), .int .u64 (x / 16777216 % 256)] 109)) := (bZ _ _).alloc (by simp) _
 have hC0 := C5.new (w.alloc (.cells #[.int .i64 0, .int .i64 0, .int .i64 0, .int .i64 0, .int .u64 0] 109)) (x % 8) (x / 8 % 4) (x / 32 % 64) (x / 2048 % 8192) (x / 16777216 % 256) 109
 rw [show (w.alloc (.cells #[.int .i64 0, .int .i64 0, .int .i64 0, .int .i64 0, .int .u64 0] 109)).heap.size = w.heap.size + 1 by simp] at hC0
 have hR0 := (Bx.new (B := w.heap.size) w 109 (Nat.le_refl _)).keep (bZ _ (.cells #[.int .i64 (x % 8), .int .i64 (x / 8 % 4), .int .i64 (x / 32 % 64), .int .i64 (x / 2048 % 8192), .int .u64 (x / 16777216 % 256)] 109))
 clear hw
 by_cases hr : rightB_ti (x % 8) (x / 8 % 4) (x / 32 % 64) (x / 2048 % 8192) (x / 16777216 % 256) = true
 ·have HR := lh hr
  clear hr
  by_cases hx : x < 4294967296
  ·have hv : decB_ti x = true := by unfold decB_ti; rw [E0, E1, E2, E3, E4, HR.out]; simpa using hx
   have hV : decV x = .agg #[.int .i64 (x % 8), .int .i64 (x / 8 % 4), .int .i64 (x / 32 % 64), .int .i64 (x / 2048 % 8192), .int .u64 (x / 16777216 % 256)] := by unfold decV; rw [if_pos hv, E0, E1, E2, E3, E4]
   have hq : x / 4294967296 = 0 := by omega
   clear E0 E1 E2 E3 E4
   go_enter Tryz.func58, Tryz.ntmps58
   go_wp2_with fail
   refine (refRight_any_ti (x % 8) (x / 8 % 4) (x / 32 % 64) (x / 2048 % 8192) (x / 16777216 % 256) _ hL0.out.2.2.1 hL0.out.2.2.2.1 (by omega)).mono ?_
   rw [HR.out]
   rintro e w1 ⟨rfl, hb⟩
   have hR1 := hR0.keep hb
   have hC1 := hC0.keep hb
   have hB1 : Below w.heap.size w w1 := hA.trans (hb.mono (by simp; omega))
   clear hR0 hC0 hA hb
   obtain ⟨c0, c1, c2, c3, c4⟩ := hC1
   have qR := hR1
   obtain ⟨⟨r0, r1, r2, r3, r4⟩, ⟨m0, m1, m2, m3, m4⟩, _⟩ := hR1
   go_wp2_with fail
   (try simp only [Exit.inBlock, Exit.then])
   obtain ⟨w7, hw7, hC7, hb7⟩ := st5_ex qR (x % 8) (x / 8 % 4) (x / 32 % 64) (x / 2048 % 8192) (x / 16777216 % 256)
   rw [← hw7]
   obtain ⟨t0, t1, t2, t3, t4⟩ := hC7
   refine bodyPost_ret (v := .tuple #[decV x, .bool (decB_ti x)]) ?_ rfl ⟨rfl, hB1.trans hb7⟩
   rw [results_cell_tmp rfl, hV, hv]
   clear hw7 hb7 qR c0 c1 c2 c3 c4 r0 r1 r2 r3 r4 m0 m1 m2 m3 m4
   go_simp
  ·have hv : decB_ti x = false := by unfold decB_ti; simp [hx]
   have hV : decV x = .agg #[.int .i64 0, .int .i64 0, .int .i64 0, .int .i64 0, .int .u64 0] := by unfold decV; rw [if_neg (by simp [hv])]
   have hq : ¬ x / 4294967296 = 0 := by omega
   clear E0 E1 E2 E3 E4
   go_enter Tryz.func58, Tryz.ntmps58
   go_wp2_with fail
   refine (refRight_any_ti (x % 8) (x / 8 % 4) (x / 32 % 64) (x / 2048 % 8192) (x / 16777216 % 256) _ hL0.out.2.2.1 hL0.out.2.2.2.1 (by omega)).mono ?_
   rw [HR.out]
   rintro e w1 ⟨rfl, hb⟩
   have hR1 := hR0.keep hb
   have hC1 := hC0.keep hb
   have hB1 : Below w.heap.size w w1 := hA.trans (hb.mono (by simp; omega))
   clear hR0 hC0 hA hb
   obtain ⟨c0, c1, c2, c3, c4⟩ := hC1
   have qR := hR1
   obtain ⟨⟨r0, r1, r2, r3, r4⟩, ⟨m0, m1, m2, m3, m4⟩, _⟩ := hR1
   go_wp2_with fail
   (try simp only [Exit.inBlock, Exit.then])
   obtain ⟨w7, hw7, hC7, hb7⟩ := st5_ex qR 0 0 0 0 0
   rw [← hw7]
   obtain ⟨t0, t1, t2, t3, t4⟩ := hC7
   refine bodyPost_ret (v := .tuple #[decV x, .bool (decB_ti x)]) ?_ rfl ⟨rfl, hB1.trans hb7⟩
   rw [results_cell_tmp rfl, hV, hv]
   clear hw7 hb7 qR c0 c1 c2 c3 c4 r0 r1 r2 r3 r4 m0 m1 m2 m3 m4
   go_simp
 ·have HR := lh (show rightB_ti (x % 8) (x / 8 % 4) (x / 32 % 64) (x / 2048 % 8192) (x / 16777216 % 256) = false by simpa using hr)
  clear hr
  have hv : decB_ti x = false := by unfold decB_ti; rw [E0, E1, E2, E3, E4, HR.out]; rfl
  have hV : decV x = .agg #[.int .i64 0, .int .i64 0, .int .i64 0, .int .i64 0, .int .u64 0] := by unfold decV; rw [if_neg (by simp [hv])]
  clear E0 E1 E2 E3 E4
  go_enter Tryz.func58, Tryz.ntmps58
  go_wp2_with fail
  refine (refRight_any_ti (x % 8) (x / 8 % 4) (x / 32 % 64) (x / 2048 % 8192) (x / 16777216 % 256) _ hL0.out.2.2.1 hL0.out.2.2.2.1 (by omega)).mono ?_
  rw [HR.out]
  rintro e w1 ⟨rfl, hb⟩
  have hR1 := hR0.keep hb
  have hC1 := hC0.keep hb
  have hB1 : Below w.heap.size w w1 := hA.trans (hb.mono (by simp; omega))
  clear hR0 hC0 hA hb
  obtain ⟨c0, c1, c2, c3, c4⟩ := hC1
  have qR := hR1
  obtain ⟨⟨r0, r1, r2, r3, r4⟩, ⟨m0, m1, m2, m3, m4⟩, _⟩ := hR1
  go_wp2_with fail
  (try simp only [Exit.inBlock, Exit.then])
  obtain ⟨w7, hw7, hC7, hb7⟩ := st5_ex qR 0 0 0 0 0
  rw [← hw7]
  obtain ⟨t0, t1, t2, t3, t4⟩ := hC7
  refine bodyPost_ret (v := .tuple #[decV x, .bool (decB_ti x)]) ?_ rfl ⟨rfl, hB1.trans hb7⟩
  rw [results_cell_tmp rfl, hV, hv]
  clear hw7 hb7 qR c0 c1 c2 c3 c4 r0 r1 r2 r3 r4 m0 m1 m2 m3 m4
  go_simp
def liveB (b : Nat) (i : Nat) : Bool := b.testBit i
theorem refLive_any (k c l m : Int) (b i : Nat) (w : World) (hi : i ≤ 7) (b0 : b < 18446744073709551616) :
 Calls Tryz.prog 107 #[.agg #[.int .i64 k, .int .i64 c, .int .i64 l, .int .i64 m, .int .u64 b], .int .i64 i] w fun e w' => e = .returned (.bool (liveB b i)) ∧ Below w.heap.size w w' := by
 have hR := lh (fun w => refPower10 i w (by omega))
 have hbd := pwI_bd i hi
 obtain ⟨hq0, hq1⟩ := hbd
 have hq2 : 1 ≤ pwI i := by unfold pwI; have := Nat.one_le_two_pow (n := i); omega
 have hq3 : ¬ pwI i = 0 := by omega
 have hq4 : (pwI i == 0) = false := by simpa using hq3
 go_enter Tryz.func107, Tryz.ntmps107
 go_wp2_with fail
 go_region_held3 (fun w' => w'.cell? ⟨w.heap.size, 4, none⟩ = some (.int .u64 b) ∧ Below w.heap.size w w')
  (((try go_split_ands); refine ⟨?_, ?_⟩ <;> first | assumption | (exact (bZ w _).drew) | (go_keep; done) | (go_grown; done)))
  ((first | (go_at_call 115; (with_reducible refine (hR.out _).mono ?_); rintro e w8 ⟨rfl, rfl⟩)))
 rename_i hHeld
 go_wp2_with fail
 go_ret
 refine ⟨ret_b ?_, hHeld.2⟩
 have e1 : (b : Int) / pwI i = ((b / 2 ^ i : Nat) : Int) := by unfold pwI; simp
 have e2 : b / 2 ^ i ≤ b := Nat.div_le_self _ _
 rw [e1, liveB, Nat.testBit_eq_decide_div_mod_eq]
 clear e1
 generalize b / 2 ^ i = q at *
 have e3 : IntKind.u64.wrap (q : Int) = (q : Int) := by rw [IntKind.wrap_u64]; omega
 rw [e3, Int.tmod_eq_emod_of_nonneg (by omega), Bool.eq_iff_iff]
 simp
 omega
open Go.RowKit
open Go.RowKit
theorem dec_yes_ti (x : Int) (w : World) (hw : Lw w) (h0 : 0 ≤ x) (h1 : x < 18446744073709551616) (h : decB_ti x = true) :
 Calls Tryz.prog 125 #[.int .u64 x] w fun e w' => e = .returned (.tuple #[.agg #[.int .i64 (getI x 0 3), .int .i64 (getI x 3 2), .int .i64 (getI x 5 6), .int .i64 (getI x 11 13), .int .u64 (getI x 24 8)], .bool true]) ∧ Below w.heap.size w w' := by
 have := decode_any x w hw h0 h1
 rwa [show decV x = .agg #[.int .i64 (getI x 0 3), .int .i64 (getI x 3 2), .int .i64 (getI x 5 6), .int .i64 (getI x 11 13), .int .u64 (getI x 24 8)] by unfold decV; rw [if_pos h], h] at this
theorem dec_no_ti (x : Int) (w : World) (hw : Lw w) (h0 : 0 ≤ x) (h1 : x < 18446744073709551616) (h : decB_ti x = false) :
 Calls Tryz.prog 125 #[.int .u64 x] w fun e w' => e = .returned (.tuple #[.agg #[.int .i64 0, .int .i64 0, .int .i64 0, .int .i64 0, .int .u64 0], .bool false]) ∧ Below w.heap.size w w' := by
 have := decode_any x w hw h0 h1
 rwa [show decV x = .agg #[.int .i64 0, .int .i64 0, .int .i64 0, .int .i64 0, .int .u64 0] by unfold decV; rw [if_neg (by simp [h])], h] at this
theorem word_parts (k c l m b : Int) (k0 : 0 ≤ k) (k1 : k < 8) (c0 : 0 ≤ c) (c1 : c < 4) (l0 : 0 ≤ l) (l1 : l < 64) (m0 : 0 ≤ m) (m1 : m < 8192) (b0 : 0 ≤ b) (b1 : b < 256) :
 getI (wordI k c l m b) 0 3 = k ∧ getI (wordI k c l m b) 3 2 = c ∧ getI (wordI k c l m b) 5 6 = l ∧ getI (wordI k c l m b) 11 13 = m ∧ getI (wordI k c l m b) 24 8 = b ∧ 0 ≤ wordI k c l m b ∧ wordI k c l m b < 4294967296 := by
 have hx : 0 ≤ wordI k c l m b ∧ wordI k c l m b < 4294967296 := by unfold wordI; omega
 obtain ⟨g0, g1, g2, g3, g4⟩ := gets (wordI k c l m b) hx.1
 rw [g0, g1, g2, g3, g4]
 refine ⟨?_, ?_, ?_, ?_, ?_, hx.1, hx.2⟩ <;> (unfold wordI; omega)
theorem right_bd {k c l m b : Int} (h : rightB_ti k c l m b = true) (b0 : 0 ≤ b) : 0 ≤ k ∧ k < 8 ∧ 0 ≤ c ∧ c < 4 ∧ 0 ≤ l ∧ l < 64 ∧ 0 ≤ m ∧ m < 8192 ∧ b < 256 := by
 have hr := rightB_t_ti h
 unfold RightP at hr; omega
end Go.Proofs.YtkkbngcgphlikaaGreatDoor
end
