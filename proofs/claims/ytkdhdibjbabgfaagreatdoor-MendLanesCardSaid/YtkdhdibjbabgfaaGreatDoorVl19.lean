/-
  Part of the proof of MendLanes.
-/
import Derived.Test.YtkdhdibjbabgfaaGreatDoorVl10
import Derived.Test.YtkdhdibjbabgfaaGreatDoorVl12
import Derived.Test.YtkdhdibjbabgfaaGreatDoorVl18
import Derived.Test.YtkdhdibjbabgfaaGreatDoorVl7
import Derived.Test.YtkdhdibjbabgfaaGreatDoorVl8
import Derived.Test.YtkdhdibjbabgfaaGreatDoorVl9
import Derived.ChangeKeysEq
import Derived.Laws.ResultCell
import Derived.Test.YtkdhdibjbabgfaaGreatDoorVl0
set_option maxRecDepth 10000
set_option maxHeartbeats 4000000
set_option linter.unusedVariables false
set_option linter.unusedSimpArgs false
section
namespace Go.Proofs.YtkdhdibjbabgfaaGreatDoor
open Go.RowKit
theorem part_at (w : World) (xs : Array Value) (i : Nat) (x : Int) (h : xs[i]? = some (.int .u64 x)) : (part 25 xs i).run Tryz.prog w = .ok (.int .u64 x) w := by
 have ht : Tryz.prog.underlying 25 = some (.int .u64) := Tryz.underlying25
 unfold part
 simp [run_underlying ht, h]
theorem eqItem (w : World) (d i : Nat) (xs ys : Array Value) (is : List Nat) (x y : Int) (hx : xs[i]? = some (.int .u64 x)) (hy : ys[i]? = some (.int .u64 y)) :
 (Op.eqItems (d + 1) 25 1 xs ys (i :: is)).run Tryz.prog w = if x = y then (Op.eqItems (d + 1) 25 1 xs ys is).run Tryz.prog w else .ok false w := by
 have ht : Tryz.prog.underlying 25 = some (.int .u64) := Tryz.underlying25
 simp only [Op.eqItems, Sem.run_bind, Nat.mul_one, part_at w xs i x hx, part_at w ys i y hy, Result.andThen_ok, run_equalIn_int w d _ _ _ x y ht]
 by_cases h : x = y
 ·simp [h]
 ·have : (x == y) = false := by rw [beq_eq_false_iff_ne]; exact h
  simp [h, this]
theorem eq8 (w : World) (x0 x1 x2 x3 x4 x5 x6 x7 y0 y1 y2 y3 y4 y5 y6 y7 : Nat) :
 (Op.equalIn 10000 117 (.agg #[.int .u64 x0, .int .u64 x1, .int .u64 x2, .int .u64 x3, .int .u64 x4, .int .u64 x5, .int .u64 x6, .int .u64 x7]) (.agg #[.int .u64 y0, .int .u64 y1, .int .u64 y2, .int .u64 y3, .int .u64 y4, .int .u64 y5, .int .u64 y6, .int .u64 y7])).run Tryz.prog w
   = .ok (decide ([x0, x1, x2, x3, x4, x5, x6, x7] = [y0, y1, y2, y3, y4, y5, y6, y7])) w := by
 obtain ⟨i0, hi, hz0, hz1, hz2⟩ := info_parts infoU64
 have hu : Tryz.prog.underlying 117 = some (.array 8 25) := Tryz.underlying117
 have hc : Tryz.prog.cellsOf 25 = 1 := by unfold Program.cellsOf; simp [hi, hz1]
 rw [run_equalIn_array w 9999 _ _ hu hi, hc, show List.range 8 = [0, 1, 2, 3, 4, 5, 6, 7] by decide]
 rw [eqItem w 9998 0 _ _ _ x0 y0 rfl rfl, eqItem w 9998 1 _ _ _ x1 y1 rfl rfl, eqItem w 9998 2 _ _ _ x2 y2 rfl rfl, eqItem w 9998 3 _ _ _ x3 y3 rfl rfl, eqItem w 9998 4 _ _ _ x4 y4 rfl rfl, eqItem w 9998 5 _ _ _ x5 y5 rfl rfl, eqItem w 9998 6 _ _ _ x6 y6 rfl rfl, eqItem w 9998 7 _ _ _ x7 y7 rfl rfl]
 simp only [Op.eqItems, Sem.run_pure, Int.ofNat_inj]
 by_cases h0 : x0 = y0 <;> by_cases h1 : x1 = y1 <;> by_cases h2 : x2 = y2 <;> by_cases h3 : x3 = y3 <;> by_cases h4 : x4 = y4 <;> by_cases h5 : x5 = y5 <;> by_cases h6 : x6 = y6 <;> by_cases h7 : x7 = y7 <;> simp [h0, h1, h2, h3, h4, h5, h6, h7]
end Go.Proofs.YtkdhdibjbabgfaaGreatDoor
end
section
namespace Go.Proofs.YtkdhdibjbabgfaaGreatDoor
open Go.RowKit
def headW (W L G : Nat) : List Nat := headL W L G ++ [moreN 0 (headL W L G)]
theorem take8 (l : List Nat) (h : 8 ≤ l.length) : l.take 8 = [l.getD 0 0, l.getD 1 0, l.getD 2 0, l.getD 3 0, l.getD 4 0, l.getD 5 0, l.getD 6 0, l.getD 7 0] := by
 match l, h with
 | a :: b :: c :: d :: e :: f :: g :: i :: r, _ => simp
def decR (N L : Nat) (b : Bool) : Value := match b with
 | true => .tuple #[.agg #[.int .i64 N, .int .i64 L], .int .i64 0]
 | false => .tuple #[.agg #[.int .i64 0, .int .i64 0], .int .i64 7]
theorem dec_ok (v : Value) (l : List Nat) (L G N : Nat) (w : World) (hn : l.length = N) (h8 : 8 ≤ N) (hL : l.getD 3 0 = L) (hG : gN N L = (G : Int)) (hg : gOk N L = true) (hv : SL w v l) :
 Calls Tryz.prog 49 #[v] w fun e w' => e = .returned (decR N L (decide (l.take 8 = headW N L G))) ∧ Below w.heap.size w w' := by
 obtain ⟨M, hM⟩ : ∃ M, l.length = M + 1 := ⟨l.length - 1, by omega⟩
 have hS := lh hv
 obtain ⟨g, o, p, rfl, hgs, hp, hc⟩ := hv.pos hM
 rw [← hM, hn] at hS hp hc ⊢
 obtain ⟨h1, h2, h3, h4⟩ := gOk_t hg
 have c3 := hc 3 (by omega)
 rw [hL] at c3
 have hE := lh (fun w => senc_t N L G w hg hG)
 have f1 : IntKind.i64.wrap (L : Int) = (L : Int) := by rw [IntKind.wrap_i64]; omega
 have f2 : ¬ ((N : Int) < 8) := by omega
 have f3 : (3 : Int) < (N : Int) := by omega
 obtain ⟨x0, hx0⟩ : ∃ x, Hid (l.getD 0 0 = x) := ⟨_, lh rfl⟩
 obtain ⟨x1, hx1⟩ : ∃ x, Hid (l.getD 1 0 = x) := ⟨_, lh rfl⟩
 obtain ⟨x2, hx2⟩ : ∃ x, Hid (l.getD 2 0 = x) := ⟨_, lh rfl⟩
 obtain ⟨x3, hx3⟩ : ∃ x, Hid (l.getD 3 0 = x) := ⟨_, lh rfl⟩
 obtain ⟨x4, hx4⟩ : ∃ x, Hid (l.getD 4 0 = x) := ⟨_, lh rfl⟩
 obtain ⟨x5, hx5⟩ : ∃ x, Hid (l.getD 5 0 = x) := ⟨_, lh rfl⟩
 obtain ⟨x6, hx6⟩ : ∃ x, Hid (l.getD 6 0 = x) := ⟨_, lh rfl⟩
 obtain ⟨x7, hx7⟩ : ∃ x, Hid (l.getD 7 0 = x) := ⟨_, lh rfl⟩
 have hP := lh (fun (w1 : World) (hb : Below w.heap.size w w1) => parts_x _ l w1 x0 x1 x2 x3 x4 x5 x6 x7 hx0.out hx1.out hx2.out hx3.out hx4.out hx5.out hx6.out hx7.out (by omega) (hS.out.keep hb))
 replace hn := lh hn
 replace hL := lh hL
 replace hM := lh hM
 replace hG := lh hG
 replace hg := lh hg
 clear hc
 go_enter Tryz.func49, Tryz.ntmps49
 go_wp2_with fail
 refine (hE.out _).mono ?_
 rintro e w2 ⟨ge, rfl, hge, hR, hb2⟩
 have hB2 : Below w.heap.size w w2 := ((bZ _ _).alloc (by simp) _).trans (hb2.mono (by simp; omega))
 have kk := ((C2.new w (.int .i64 0) (.int .i64 0) 33).alloc (.cells #[.int .i64 N, .int .i64 L] 33)).keep hb2
 have ff := ((F2.new w (.int .i64 0) (.int .i64 0) 33).alloc (by simp) (.cells #[.int .i64 N, .int .i64 L] 33)).keep (by simp; omega) hb2
 have jj := (C2.new (w.alloc (.cells #[.int .i64 0, .int .i64 0] 33)) (.int .i64 N) (.int .i64 L) 33).keep hb2
 simp only [World.size_alloc] at jj
 go_wp2_with fail
 refine (hP.out _ hB2).mono ?_
 rintro e w3 ⟨rfl, hb3⟩
 have hB3 := hB2.trans (hb3.mono hB2.size)
 replace ff := ff.keep kk.lt hb3
 replace kk := kk.keep hb3
 replace jj := jj.keep hb3
 go_wp2_with fail
 generalize hwl : headL N L G ++ [moreN 0 (headL N L G)] = wl at *
 replace hwl := lh hwl
 obtain ⟨y0, hy0⟩ : ∃ x, Hid (wl.getD 0 0 = x) := ⟨_, lh rfl⟩
 obtain ⟨y1, hy1⟩ : ∃ x, Hid (wl.getD 1 0 = x) := ⟨_, lh rfl⟩
 obtain ⟨y2, hy2⟩ : ∃ x, Hid (wl.getD 2 0 = x) := ⟨_, lh rfl⟩
 obtain ⟨y3, hy3⟩ : ∃ x, Hid (wl.getD 3 0 = x) := ⟨_, lh rfl⟩
 obtain ⟨y4, hy4⟩ : ∃ x, Hid (wl.getD 4 0 = x) := ⟨_, lh rfl⟩
 obtain ⟨y5, hy5⟩ : ∃ x, Hid (wl.getD 5 0 = x) := ⟨_, lh rfl⟩
 obtain ⟨y6, hy6⟩ : ∃ x, Hid (wl.getD 6 0 = x) := ⟨_, lh rfl⟩
 obtain ⟨y7, hy7⟩ : ∃ x, Hid (wl.getD 7 0 = x) := ⟨_, lh rfl⟩
 have hl8 : wl.length = 8 := by rw [← hwl.out]; simp [headL]
 have hSw := hR.sl.keep hb3
 rw [hl8] at hSw
 have hQ := parts_x (.slice (some ⟨ge, 0, none⟩) 8 8) wl w3 y0 y1 y2 y3 y4 y5 y6 y7 hy0.out hy1.out hy2.out hy3.out hy4.out hy5.out hy6.out hy7.out (by omega) hSw
 refine hQ.mono ?_
 rintro e w4 ⟨rfl, hb4⟩
 have hB4 := hB3.trans (hb4.mono hB3.size)
 replace ff := ff.keep kk.lt hb4
 replace kk := kk.keep hb4
 replace jj := jj.keep hb4
 clear hR hSw hb2 hb3 hb4 hB2 hB3 hQ
 obtain ⟨k0, k1⟩ := id kk
 obtain ⟨f0, f1⟩ := id ff
 obtain ⟨j0, j1⟩ := id jj
 have hT : l.take 8 = [x0, x1, x2, x3, x4, x5, x6, x7] := by rw [take8 l (by have := hn.out; omega), hx0.out, hx1.out, hx2.out, hx3.out, hx4.out, hx5.out, hx6.out, hx7.out]
 have hW : headW N L G = [y0, y1, y2, y3, y4, y5, y6, y7] := by
  rw [show headW N L G = wl from hwl.out, ← hy0.out, ← hy1.out, ← hy2.out, ← hy3.out, ← hy4.out, ← hy5.out, ← hy6.out, ← hy7.out, ← take8 wl (by omega), List.take_of_length_le (by omega)]
 clear hx0 hx1 hx2 hx3 hx4 hx5 hx6 hx7 hy0 hy1 hy2 hy3 hy4 hy5 hy6 hy7 hP hE hv hS
 replace hT := lh hT
 replace hW := lh hW
 go_wp2_with fail
 rw [eq8]
 by_cases hE : [x0, x1, x2, x3, x4, x5, x6, x7] = [y0, y1, y2, y3, y4, y5, y6, y7]
 ·rw [decide_eq_true hE]
  replace hE := lh hE
  simp only [Result.andThen, Bool.not_true, Bool.not_false]
  go_wp2_with fail
  (try simp only [Exit.inBlock, Exit.then])
  obtain ⟨w7, hw7, hC7, hb7⟩ := st2_ex kk (.int .i64 N) (.int .i64 L)
  rw [← hw7]
  refine bodyPost_ret (v := .tuple #[.agg #[.int .i64 N, .int .i64 L], .int .i64 0]) ?_ rfl ⟨by rw [hT.out, hW.out, decide_eq_true hE.out]; rfl, hB4.trans hb7⟩
  rw [results_cell_tmp rfl]
  obtain ⟨t0, t1⟩ := hC7
  clear hw7 hb7 kk jj ff k0 k1 f0 f1 j0 j1
  go_simp
 ·rw [decide_eq_false hE]
  replace hE := lh hE
  simp only [Result.andThen, Bool.not_true, Bool.not_false]
  go_wp2_with fail
  (try simp only [Exit.inBlock, Exit.then])
  obtain ⟨w7, hw7, hC7, hb7⟩ := st2_ex kk (.int .i64 0) (.int .i64 0)
  rw [← hw7]
  refine bodyPost_ret (v := .tuple #[.agg #[.int .i64 0, .int .i64 0], .int .i64 7]) ?_ rfl ⟨by rw [hT.out, hW.out, decide_eq_false hE.out]; rfl, hB4.trans hb7⟩
  rw [results_cell_tmp rfl]
  obtain ⟨t0, t1⟩ := hC7
  clear hw7 hb7 kk jj ff k0 k1 f0 f1 j0 j1
  go_simp
theorem gOk_wrap (N L : Nat) (hL : L < 18446744073709551616) (h : gOk N L = false) : gOk N (IntKind.i64.wrap L) = false := by
 have h1 := gOk_f h
 refine decide_eq_false (fun h2 => h1 ?_)
 rw [IntKind.wrap_i64] at h2
 omega
theorem dec_no_super (v : Value) (l : List Nat) (L N : Nat) (w : World) (hn : l.length = N) (hL : l.getD 3 0 = L) (hl : L < 18446744073709551616) (hg : gOk N L = false) (hv : SL w v l) :
 Calls Tryz.prog 49 #[v] w fun e w' => e = .returned (decR N L false) ∧ Below w.heap.size w w' := by
 by_cases h8 : 8 ≤ N
 ·obtain ⟨M, hM⟩ : ∃ M, l.length = M + 1 := ⟨l.length - 1, by omega⟩
  obtain ⟨g, o, p, rfl, hgs, hp, hc⟩ := hv.pos hM
  rw [← hM, hn] at hp hc ⊢
  have c3 := hc 3 (by omega)
  rw [hL] at c3
  have hE := lh (fun w => senc_f N (IntKind.i64.wrap L) w (gOk_wrap N L hl hg))
  generalize f1 : IntKind.i64.wrap (L : Int) = J at *
  have f2 : ¬ ((N : Int) < 8) := by omega
  have f3 : (3 : Int) < (N : Int) := by omega
  clear hc hL hn hM hv hg
  go_enter Tryz.func49, Tryz.ntmps49
  go_wp2_with fail
  refine (hE.out _).mono ?_
  rintro e w2 ⟨rfl, hb2⟩
  have hB2 : Below w.heap.size w w2 := ((bZ _ _).alloc (by simp) _).trans (hb2.mono (by simp; omega))
  have kk := ((C2.new w (.int .i64 0) (.int .i64 0) 33).alloc (.cells #[.int .i64 N, .int .i64 J] 33)).keep hb2
  have ff := ((F2.new w (.int .i64 0) (.int .i64 0) 33).alloc (by simp) (.cells #[.int .i64 N, .int .i64 J] 33)).keep (by simp; omega) hb2
  obtain ⟨k0, k1⟩ := id kk
  obtain ⟨f0, f1⟩ := id ff
  clear hE hb2
  go_wp2_with fail
  (try simp only [Exit.inBlock, Exit.then])
  obtain ⟨w7, hw7, hC7, hb7⟩ := st2_ex kk (.int .i64 0) (.int .i64 0)
  rw [← hw7]
  refine bodyPost_ret (v := .tuple #[.agg #[.int .i64 0, .int .i64 0], .int .i64 7]) ?_ rfl ⟨rfl, hB2.trans hb7⟩
  rw [results_cell_tmp rfl]
  obtain ⟨t0, t1⟩ := hC7
  clear hw7 hb7 kk ff k0 k1 f0 f1
  go_simp
 ·obtain ⟨sp, cap, rfl⟩ := hv.form
  rw [hn]
  have f2 : (N : Int) < 8 := by omega
  clear hL hn hv hg
  have kk := C2.new w (.int .i64 0) (.int .i64 0) 33
  go_enter Tryz.func49, Tryz.ntmps49
  go_wp2_with fail
  refine bodyPost_ret (v := .tuple #[.agg #[.int .i64 0, .int .i64 0], .int .i64 7]) ?_ rfl ⟨rfl, bZ _ _⟩
  rw [results_cell_tmp rfl]
  obtain ⟨t0, t1⟩ := kk
  go_simp
def sOk (l : List Nat) : Bool := decide (8 ≤ l.length) && (gOk (l.length : Nat) (l.getD 3 0 : Nat) && decide (l.take 8 = headW l.length (l.getD 3 0) (gNat l.length (l.getD 3 0))))
theorem dec_any (v : Value) (l : List Nat) (w : World) (hl : WL l) (hv : SL w v l) :
 Calls Tryz.prog 49 #[v] w fun e w' => e = .returned (decR l.length (l.getD 3 0) (sOk l)) ∧ Below w.heap.size w w' := by
 have hL : l.getD 3 0 < 18446744073709551616 := by
  by_cases h : 3 < l.length
  ·exact hl.at 3 h
  ·rw [List.getD_eq_getElem?_getD, List.getElem?_eq_none (by omega)]; decide
 cases hg : gOk (l.length : Nat) (l.getD 3 0 : Nat) with
 | false =>
   rw [show sOk l = false by unfold sOk; rw [hg]; simp]
   exact dec_no_super v l _ _ w rfl rfl hL hg hv
 | true =>
   have := gOk_t hg
   rw [show sOk l = decide (l.take 8 = headW l.length (l.getD 3 0) (gNat l.length (l.getD 3 0))) by unfold sOk; rw [hg, decide_eq_true (show 8 ≤ l.length by omega)]; rfl]
   exact dec_ok v l _ _ _ w rfl (by omega) rfl (gNat_eq hg) hg hv
end Go.Proofs.YtkdhdibjbabgfaaGreatDoor
end
section
namespace Go.Proofs.YtkdhdibjbabgfaaGreatDoor
open Go.RowKit Go.ChangeShapes Go.WideShapes Go.Deep
def wN (o : Ox) : Nat := (wordOp o).toNat
def encW_rd (l : List Ox) : List Nat := l.flatMap fun o => [wN o, o.2.2]
def encS (l : List Ox) : List Nat := encW_rd l ++ [moreN 0 (encW_rd l)]
theorem wN_eq {o : Ox} (h : wrongB o = false) : wordOp o = ((wN o : Nat) : Int) := by
 have := wrongB_f h
 unfold wN wordOp
 omega
theorem wN_lt {o : Ox} (h : wrongB o = false) : wN o < 262144 := by
 have := wrongB_f h
 unfold wN wordOp
 omega
theorem encW_len (l : List Ox) : (encW_rd l).length = 2 * l.length := by
 induction l with
 | nil => rfl
 | cons o l ih => simp only [encW_rd, List.flatMap_cons, List.length_append, List.length_cons, List.length_nil] at *; omega
theorem encW_take (l : List Ox) (k : Nat) (h : k < l.length) : encW_rd (l.take (k + 1)) = encW_rd (l.take k) ++ [wN (l.getD k default), (l.getD k default).2.2] := by
 unfold encW_rd
 rw [List.take_succ_eq_append_getElem h, List.flatMap_append, List.getD_eq_getElem?_getD, List.getElem?_eq_getElem h]
 simp
theorem encW_WL {l : List Ox} (h : ∀ o ∈ l, wrongB o = false) (hv : OVs l) : WL (encW_rd l) := by
 intro x hx
 obtain ⟨o, ho, hx⟩ := List.mem_flatMap.1 hx
 simp only [List.mem_cons, List.not_mem_nil, or_false] at hx
 rcases hx with rfl | rfl
 ·have := wN_lt (h o ho); omega
 ·exact hv o ho
theorem KL.two (w : World) (a b : Nat) (t : TypeId) : KL .u64 (w.alloc (.cells #[.int .u64 (a : Nat), .int .u64 (b : Nat)] t)) (.slice (some ⟨w.heap.size, 0, none⟩) 2 2) [a, b] := by
 refine ⟨_, 2, rfl, fun _ => ⟨w.heap.size, 0, rfl, by simp, by simp, fun i hi => ?_⟩⟩
 match i, hi with
 | 0, _ => simp [go_sem]
 | 1, _ => simp [go_sem]
 | i + 2, hi => simp at hi; omega
theorem rightB_all {l : List Ox} (hk : l.length ≤ 19) (h : ∀ j, j < l.length → wrongB (l.getD j default) = false) : rightB_rd l = true := by
 unfold rightB_rd
 have : l.any wrongB = false := by
  rw [List.any_eq_false]
  intro x hx
  obtain ⟨i, hi, rfl⟩ := List.mem_iff_getElem.1 hx
  have := h i hi
  rw [List.getD_eq_getElem?_getD, List.getElem?_eq_getElem hi] at this
  simp at this; simp [this]
 rw [this]; simp [hk]
theorem refEnc_full (v : Value) (l : List Ox) (w : World) (hv : OPL w v l) (h : 19 < l.length) :
 Calls Tryz.prog 32 #[v] w fun e w' => e = .returned (.tuple #[.slice none 0 0, .int .i64 3]) ∧ Below w.heap.size w w' := by
 obtain ⟨A, cap, rfl, _⟩ := hv.form rfl
 have h' : (19 : Int) < (l.length : Int) := by omega
 clear hv
 go_enter Tryz.func32, Tryz.ntmps32
 go_wp2_with fail
 go_ret2
 exact ⟨rfl, Below.refl _ _⟩
end Go.Proofs.YtkdhdibjbabgfaaGreatDoor
end
section
namespace Go.Proofs.YtkdhdibjbabgfaaGreatDoor
open Go.RowKit Go.ChangeShapes Go.WideShapes Go.Deep
theorem refEnc_arg (v : Value) (l : List Ox) (w : World) (hv : OPL w v l) (ho : OVs l) (hl19 : l.length ≤ 19) (hr : rightB_rd l = false) :
 Calls Tryz.prog 32 #[v] w fun e w' => e = .returned (.tuple #[.slice none 0 0, .int .i64 1]) ∧ Below w.heap.size w w' := by
 have hX := lh (fun (h : ∀ j, j < l.length → wrongB (l.getD j default) = false) => show False from by have := rightB_all hl19 h; rw [hr] at this; cases this)
 clear hr
 obtain ⟨n, hn⟩ : ∃ n, l.length = n := ⟨_, rfl⟩
 obtain ⟨A, cap, rfl, hC⟩ := hv.form hn
 have hS := lh (fun k (hk : k < n) => show encW_rd (l.take (k + 1)) = encW_rd (l.take k) ++ [wN (l.getD k default), (l.getD k default).2.2] from encW_take l k (by omega))
 have hE := lh (show encW_rd (l.take n) = encW_rd l from by rw [List.take_of_length_le (by omega)])
 have hZ := lh (show encW_rd (l.take 0) = [] from by simp [encW_rd])
 have hLn := lh (fun k (hk : k ≤ n) => show (encW_rd (l.take k)).length = 2 * k from by rw [encW_len, List.length_take]; omega)
 have hV := lh (fun k (hk : k < n) => ho.at k (by omega))
 replace hC := lh hC
 have hn9 : n ≤ 19 := by omega
 have h' : (n : Int) ≤ 19 := by omega
 replace hn := lh hn
 clear hv ho hl19
 go_enter Tryz.func32, Tryz.ntmps32
 go_wp2_with fail
 go_loopw [5, 4] (fun i wd wr => ∃ (k : Nat) (J : List Nat), k ≤ n ∧ i = .int .i64 k ∧ Hid (J = encW_rd (l.take k)) ∧ Hid (∀ j, j < k → wrongB (l.getD j default) = false) ∧ OwnU wr w.heap.size wd J ∧ Below w.heap.size w wr) (fun i _ _ => n + 1 - (intOf i).toNat)
 case atStart => exact ⟨0, [], Nat.zero_le _, rfl, lh hZ.out.symm, (fun j hj => by omega), World.ownsRow_nil _ _ _ _, Below.refl _ _⟩
 case round =>
  obtain ⟨k, J, hk, rfl, hJ, hF, hown, hB⟩ := hrel
  by_cases hlt : k < n
  ·obtain ⟨g, off, rfl, hcap, hgw, hg, c0, c1, c2⟩ := hC.out wr k hB hlt
   have hlt' : (k : Int) < (n : Int) := by omega
   have hs1 := hS.out k hlt
   have hJl : J.length = 2 * k := by rw [hJ.out]; exact hLn.out k hk
   have hov := hV.out k hlt
   rw [← hJ.out] at hs1
   cases hw1 : wrongB (l.getD k default) with
   | true =>
     generalize l.getD k default = o at *
     have hCa := fun w => can_any_rd o w
     rw [hw1] at hCa
     simp only [Bool.not_true] at hCa
     obtain ⟨x, a, y⟩ := o
     unfold opV at hCa
     simp only [] at c0 c1 c2 hCa
     replace hCa := lh hCa
     clear hs1 hw1 hov
     go_wp2_with fail
     refine (hCa.out _).mono ?_
     rintro e w2 ⟨rfl, hb⟩
     have hB2 := hB.trans (hb.mono hB.size)
     go_wp2_with fail
     go_ret2
     exact ⟨rfl, hB2⟩
   | false =>
     have hF2 := lh (fun j (hj : j < k + 1) => show wrongB (l.getD j default) = false from by
      by_cases e : j = k
      ·subst e; exact hw1
      ·exact hF.out j (by omega))
     generalize l.getD k default = o at *
     have hCa := fun w => can_any_rd o w
     rw [hw1] at hCa
     simp only [Bool.not_false] at hCa
     obtain ⟨p1, p2, p3, p4⟩ := wrongB_f hw1
     have hWd := wN_eq hw1
     unfold wordOp at hWd
     generalize wN o = wd at *
     obtain ⟨x, a, y⟩ := o
     unfold opV at hCa
     simp only [] at c0 c1 c2 hov hs1 hCa p1 p2 p3 p4 hWd
     replace hCa := lh hCa
     replace hs1 := lh hs1
     have fa : IntKind.u64.wrap a = a := by rw [IntKind.wrap_u64]; omega
     have fk : IntKind.u64.wrap x = x := by rw [IntKind.wrap_u64]; omega
     have fm : IntKind.u64.wrap (4 * a) = 4 * a := by rw [IntKind.wrap_u64]; omega
     have fs : IntKind.u64.wrap (4 * a + x) = (wd : Int) := by rw [IntKind.wrap_u64, ← hWd]; omega
     replace hWd := lh hWd
     clear hw1
     go_wp2_with fail
     refine (hCa.out _).mono ?_
     rintro e W ⟨rfl, hbC⟩
     have b0 := cellK c0 hbC
     have b1 := cellK c1 hbC
     have b2 := cellK c2 hbC
     have hownW := hown.keep hbC
     have hBW := hB.trans (hbC.mono hB.size)
     clear hown hB hbC
     go_wp2_with fail
     refine wp_region_tail (S := (fun w' => w'.cell? ⟨g, off + k * 3, none⟩ = some (.int .i64 x) ∧ w'.cell? ⟨g, off + k * 3 + 1, none⟩ = some (.int .i64 a) ∧ w'.cell? ⟨g, off + k * 3 + 2, none⟩ = some (.int .u64 (y : Nat)) ∧ Below W.heap.size W w')) (n := 21) (by kernel_rfl) ?_ (fun hHeld hInv => ?_) (by decide)
     ·(try dsimp only)
      (first | assumption | (exact ⟨b0, b1, b2, (Below.refl _ _).drew⟩) | ((try go_split_ands); exact ⟨cellK (by assumption) hb, cellK (by assumption) hb, cellK (by assumption) hb, Below.trans (by assumption) (hb.mono (Below.size (by assumption)))⟩))
     refine takeVS 0 hInv ?_; clear hInv; intro hInv
     refine takeVS 1 hInv ?_; clear hInv; intro hInv
     refine takeVS 2 hInv ?_; clear hInv; intro hInv
     refine takeVS 3 hInv ?_; clear hInv; intro hInv
     refine takeVS 4 hInv ?_; clear hInv; intro hInv
     refine takeVS 5 hInv ?_; clear hInv; intro hInv
     refine takeVS 6 hInv ?_; clear hInv; intro hInv
     refine takeVS 7 hInv ?_; clear hInv; intro hInv
     refine takeVS 8 hInv ?_; clear hInv; intro hInv
     refine takeVS 9 hInv ?_; clear hInv; intro hInv
     refine takeVS 10 hInv ?_; clear hInv; intro hInv
     refine takeVS 11 hInv ?_; clear hInv; intro hInv
     refine takeVS 12 hInv ?_; clear hInv; intro hInv
     refine takeVS 13 hInv ?_; clear hInv; intro hInv
     refine takeVS 14 hInv ?_; clear hInv; intro hInv
     refine takeVS 15 hInv ?_; clear hInv; intro hInv
     refine takeVS 16 hInv ?_; clear hInv; intro hInv
     refine takeVS 17 hInv ?_; clear hInv; intro hInv
     refine takeVS 18 hInv ?_; clear hInv; intro hInv
     refine takeVS 19 hInv ?_; clear hInv; intro hInv
     refine oneS 20 hInv (by decide) rfl (by kernel_rfl) (fun K hK => ?_)
     go_simp
     have hb := bZ W.drew (.cells #[.int .u64 (wd : Nat), .int .u64 (y : Nat)] (25 : Nat))
     refine hK.out _ _ ?_ (fun hHeld2 hInv2 => ?_)
     ·(try dsimp only)
      (first | assumption | (exact ⟨b0, b1, b2, (Below.refl _ _).drew⟩) | ((try go_split_ands); exact ⟨cellK (by assumption) hb, cellK (by assumption) hb, cellK (by assumption) hb, Below.trans (by assumption) (hb.mono (Below.size (by assumption)))⟩))
     clear hK K hHeld hInv
     have hHeld := hHeld2
     have hInv := hInv2
     clear hHeld2 hInv2
     try simp only [Act.put,sA,sB,sC] at hInv ⊢
     refine lastS 21 rfl (by decide) (by kernel_rfl) (fun K hK => ?_)
     obtain ⟨_, _, _, hbL⟩ := id hHeld
     have hB8 := hBW.trans (hbL.mono hBW.size)
     obtain ⟨v', w4, hrun, ho, hb4⟩ := appW (hownW.keep hbL) (KL.two W.drew wd y (25 : Nat)) hB8.size (by omega) (by simp)
     rw [hs1.out.symm] at ho
     obtain ⟨J2, hJ2⟩ : ∃ J2, J2 = encW_rd (l.take (k + 1)) := ⟨_, rfl⟩
     rw [← hJ2] at ho
     replace hJ2 := lh hJ2
     have hBN := hB8.trans hb4
     clear hHeld hb4 hbL hs1 hownW hBW
     rw [if_pos (by rfl)]
     refine wp_append_run _ _ _ _ rfl _ _ _ rfl rfl hrun ?_
     refine hK.out _ _ ?_
     clear hK K
     try simp only [Act.put,sA,sB,sC]
     refine lastS 22 rfl (by decide) (by kernel_rfl) (fun K hK => ?_)
     go_simp
     refine hK.out _ _ ?_
     clear hK K
     try simp only [Act.put,sA,sB,sC]
     refine wpAnyS_done (by kernel_rfl) ?_ _
     clear hInv hrun hB8
     go_wp2_with fail
     go_roundw
     case rel => exact ⟨k + 1, _, by omega, by go_num, hJ2, hF2, ho, hBN⟩
     case measure => simp [intOf]; omega
  ·have hkn : k = n := by omega
   obtain rfl := hkn
   exact absurd (hX.out (fun j hj => hF.out j (by have := hn.out; omega))) id
end Go.Proofs.YtkdhdibjbabgfaaGreatDoor
end
