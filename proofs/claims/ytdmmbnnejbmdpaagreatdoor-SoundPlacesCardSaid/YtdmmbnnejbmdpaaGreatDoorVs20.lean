/-
  Part of the proof of SoundPlaces.
-/
import Derived.Test.YtdmmbnnejbmdpaaGreatDoorVs11
import Derived.Test.YtdmmbnnejbmdpaaGreatDoorVs12
import Derived.Test.YtdmmbnnejbmdpaaGreatDoorVs19
import Derived.Laws.ResultCell
import Derived.Test.YtdmmbnnejbmdpaaGreatDoorVs0
set_option maxRecDepth 10000
set_option maxHeartbeats 2000000
set_option linter.unusedVariables false
set_option linter.unusedSimpArgs false
section
namespace Go.Proofs.YtdmmbnnejbmdpaaGreatDoor
open Go.RowKit
def headW (W L G : Nat) : List Nat := headL W L G ++ [moreN 0 (headL W L G)]
theorem take8 (l : List Nat) (h : 8 ≤ l.length) : l.take 8 = [l.getD 0 0, l.getD 1 0, l.getD 2 0, l.getD 3 0, l.getD 4 0, l.getD 5 0, l.getD 6 0, l.getD 7 0] := by
 match l, h with
 | a :: b :: c :: d :: e :: f :: g :: i :: r, _ => simp
def decR (N L : Nat) (b : Bool) : Value := match b with
 | true => .tuple #[.agg #[.int .i64 N, .int .i64 L], .int .i64 0]
 | false => .tuple #[.agg #[.int .i64 0, .int .i64 0], .int .i64 7]
theorem dec_ok (v : Value) (l : List Nat) (L G N : Nat) (w : World) (hn : l.length = N) (h8 : 8 ≤ N) (hL : l.getD 3 0 = L) (hG : gN N L = (G : Int)) (hg : gOk N L = true) (hv : SL w v l) :
 Calls Tryz.prog 68 #[v] w fun e w' => e = .returned (decR N L (decide (l.take 8 = headW N L G))) ∧ Below w.heap.size w w' := by
 obtain ⟨M, hM⟩ : ∃ M, l.length = M + 1 := ⟨l.length - 1, by omega⟩
 have hS := lh hv
 obtain ⟨g, o, p, rfl, hgs, hp, hc⟩ := hv.pos hM
 rw [← hM, hn] at hS hp hc ⊢
 obtain ⟨h1, h2, h3, h4⟩ := gOk_t hg
 have c3 := hc 3 (by omega)
 rw [hL] at c3
 have hE := lh (fun w => senc_t N L G w hg hG)
 have f1 : IntKind.i64.wrap (L : Int) = (L : Int) := by rw [IntKind.wrap_i64]; omega
 have f2 : ¬ ((N : Int) < 8) := by omega
 have f3 : (3 : Int) < (N : Int) := by omega
 obtain ⟨x0, hx0⟩ : ∃ x, Hid (l.getD 0 0 = x) := ⟨_, lh rfl⟩
 obtain ⟨x1, hx1⟩ : ∃ x, Hid (l.getD 1 0 = x) := ⟨_, lh rfl⟩
 obtain ⟨x2, hx2⟩ : ∃ x, Hid (l.getD 2 0 = x) := ⟨_, lh rfl⟩
 obtain ⟨x3, hx3⟩ : ∃ x, Hid (l.getD 3 0 = x) := ⟨_, lh rfl⟩
 obtain ⟨x4, hx4⟩ : ∃ x, Hid (l.getD 4 0 = x) := ⟨_, lh rfl⟩
 obtain ⟨x5, hx5⟩ : ∃ x, Hid (l.getD 5 0 = x) := ⟨_, lh rfl⟩
 obtain ⟨x6, hx6⟩ : ∃ x, Hid (l.getD 6 0 = x) := ⟨_, lh rfl⟩
 obtain ⟨x7, hx7⟩ : ∃ x, Hid (l.getD 7 0 = x) := ⟨_, lh rfl⟩
 have hP := lh (fun (w1 : World) (hb : Below w.heap.size w w1) => parts_x _ l w1 x0 x1 x2 x3 x4 x5 x6 x7 hx0.out hx1.out hx2.out hx3.out hx4.out hx5.out hx6.out hx7.out (by omega) (hS.out.keep hb))
 replace hn := lh hn
 replace hL := lh hL
 replace hM := lh hM
 replace hG := lh hG
 replace hg := lh hg
 clear hc
 go_enter Tryz.func68, Tryz.ntmps68
 go_wp2_with fail
 refine (hE.out _).mono ?_
 rintro e w2 ⟨ge, rfl, hge, hR, hb2⟩
 have hB2 : Below w.heap.size w w2 := ((bZ _ _).alloc (by simp) _).trans (hb2.mono (by simp; omega))
 have kk := ((C2.new w (.int .i64 0) (.int .i64 0) 51).alloc (.cells #[.int .i64 N, .int .i64 L] 51)).keep hb2
 have ff := ((F2.new w (.int .i64 0) (.int .i64 0) 51).alloc (by simp) (.cells #[.int .i64 N, .int .i64 L] 51)).keep (by simp; omega) hb2
 have jj := (C2.new (w.alloc (.cells #[.int .i64 0, .int .i64 0] 51)) (.int .i64 N) (.int .i64 L) 51).keep hb2
 simp only [World.size_alloc] at jj
 go_wp2_with fail
 refine (hP.out _ hB2).mono ?_
 rintro e w3 ⟨rfl, hb3⟩
 have hB3 := hB2.trans (hb3.mono hB2.size)
 replace ff := ff.keep kk.lt hb3
 replace kk := kk.keep hb3
 replace jj := jj.keep hb3
 go_wp2_with fail
 generalize hwl : headL N L G ++ [moreN 0 (headL N L G)] = wl at *
 replace hwl := lh hwl
 obtain ⟨y0, hy0⟩ : ∃ x, Hid (wl.getD 0 0 = x) := ⟨_, lh rfl⟩
 obtain ⟨y1, hy1⟩ : ∃ x, Hid (wl.getD 1 0 = x) := ⟨_, lh rfl⟩
 obtain ⟨y2, hy2⟩ : ∃ x, Hid (wl.getD 2 0 = x) := ⟨_, lh rfl⟩
 obtain ⟨y3, hy3⟩ : ∃ x, Hid (wl.getD 3 0 = x) := ⟨_, lh rfl⟩
 obtain ⟨y4, hy4⟩ : ∃ x, Hid (wl.getD 4 0 = x) := ⟨_, lh rfl⟩
 obtain ⟨y5, hy5⟩ : ∃ x, Hid (wl.getD 5 0 = x) := ⟨_, lh rfl⟩
 obtain ⟨y6, hy6⟩ : ∃ x, Hid (wl.getD 6 0 = x) := ⟨_, lh rfl⟩
 obtain ⟨y7, hy7⟩ : ∃ x, Hid (wl.getD 7 0 = x) := ⟨_, lh rfl⟩
 have hl8 : wl.length = 8 := by rw [← hwl.out]; simp [headL]
 have hSw := hR.sl.keep hb3
 rw [hl8] at hSw
 have hQ := parts_x (.slice (some ⟨ge, 0, none⟩) 8 8) wl w3 y0 y1 y2 y3 y4 y5 y6 y7 hy0.out hy1.out hy2.out hy3.out hy4.out hy5.out hy6.out hy7.out (by omega) hSw
 refine hQ.mono ?_
 rintro e w4 ⟨rfl, hb4⟩
 have hB4 := hB3.trans (hb4.mono hB3.size)
 replace ff := ff.keep kk.lt hb4
 replace kk := kk.keep hb4
 replace jj := jj.keep hb4
 clear hR hSw hb2 hb3 hb4 hB2 hB3 hQ
 obtain ⟨k0, k1⟩ := id kk
 obtain ⟨f0, f1⟩ := id ff
 obtain ⟨j0, j1⟩ := id jj
 have hT : l.take 8 = [x0, x1, x2, x3, x4, x5, x6, x7] := by rw [take8 l (by have := hn.out; omega), hx0.out, hx1.out, hx2.out, hx3.out, hx4.out, hx5.out, hx6.out, hx7.out]
 have hW : headW N L G = [y0, y1, y2, y3, y4, y5, y6, y7] := by
  rw [show headW N L G = wl from hwl.out, ← hy0.out, ← hy1.out, ← hy2.out, ← hy3.out, ← hy4.out, ← hy5.out, ← hy6.out, ← hy7.out, ← take8 wl (by omega), List.take_of_length_le (by omega)]
 clear hx0 hx1 hx2 hx3 hx4 hx5 hx6 hx7 hy0 hy1 hy2 hy3 hy4 hy5 hy6 hy7 hP hE hv hS
 replace hT := lh hT
 replace hW := lh hW
 go_wp2_with fail
 rw [eq8]
 by_cases hE : [x0, x1, x2, x3, x4, x5, x6, x7] = [y0, y1, y2, y3, y4, y5, y6, y7]
 ·rw [decide_eq_true hE]
  replace hE := lh hE
  simp only [Result.andThen, Bool.not_true, Bool.not_false]
  go_wp2_with fail
  (try simp only [Exit.inBlock, Exit.then])
  obtain ⟨w7, hw7, hC7, hb7⟩ := st2_ex kk (.int .i64 N) (.int .i64 L)
  rw [← hw7]
  refine bodyPost_ret (v := .tuple #[.agg #[.int .i64 N, .int .i64 L], .int .i64 0]) ?_ rfl ⟨by rw [hT.out, hW.out, decide_eq_true hE.out]; rfl, hB4.trans hb7⟩
  rw [results_cell_tmp rfl]
  obtain ⟨t0, t1⟩ := hC7
  clear hw7 hb7 kk jj ff k0 k1 f0 f1 j0 j1
  go_simp
 ·rw [decide_eq_false hE]
  replace hE := lh hE
  simp only [Result.andThen, Bool.not_true, Bool.not_false]
  go_wp2_with fail
  (try simp only [Exit.inBlock, Exit.then])
  obtain ⟨w7, hw7, hC7, hb7⟩ := st2_ex kk (.int .i64 0) (.int .i64 0)
  rw [← hw7]
  refine bodyPost_ret (v := .tuple #[.agg #[.int .i64 0, .int .i64 0], .int .i64 7]) ?_ rfl ⟨by rw [hT.out, hW.out, decide_eq_false hE.out]; rfl, hB4.trans hb7⟩
  rw [results_cell_tmp rfl]
  obtain ⟨t0, t1⟩ := hC7
  clear hw7 hb7 kk jj ff k0 k1 f0 f1 j0 j1
  go_simp
theorem gOk_wrap (N L : Nat) (hL : L < 18446744073709551616) (h : gOk N L = false) : gOk N (IntKind.i64.wrap L) = false := by
 have h1 := gOk_f h
 refine decide_eq_false (fun h2 => h1 ?_)
 rw [IntKind.wrap_i64] at h2
 omega
theorem dec_no_super (v : Value) (l : List Nat) (L N : Nat) (w : World) (hn : l.length = N) (hL : l.getD 3 0 = L) (hl : L < 18446744073709551616) (hg : gOk N L = false) (hv : SL w v l) :
 Calls Tryz.prog 68 #[v] w fun e w' => e = .returned (decR N L false) ∧ Below w.heap.size w w' := by
 by_cases h8 : 8 ≤ N
 ·obtain ⟨M, hM⟩ : ∃ M, l.length = M + 1 := ⟨l.length - 1, by omega⟩
  obtain ⟨g, o, p, rfl, hgs, hp, hc⟩ := hv.pos hM
  rw [← hM, hn] at hp hc ⊢
  have c3 := hc 3 (by omega)
  rw [hL] at c3
  have hE := lh (fun w => senc_f N (IntKind.i64.wrap L) w (gOk_wrap N L hl hg))
  generalize f1 : IntKind.i64.wrap (L : Int) = J at *
  have f2 : ¬ ((N : Int) < 8) := by omega
  have f3 : (3 : Int) < (N : Int) := by omega
  clear hc hL hn hM hv hg
  go_enter Tryz.func68, Tryz.ntmps68
  go_wp2_with fail
  refine (hE.out _).mono ?_
  rintro e w2 ⟨rfl, hb2⟩
  have hB2 : Below w.heap.size w w2 := ((bZ _ _).alloc (by simp) _).trans (hb2.mono (by simp; omega))
  have kk := ((C2.new w (.int .i64 0) (.int .i64 0) 51).alloc (.cells #[.int .i64 N, .int .i64 J] 51)).keep hb2
  have ff := ((F2.new w (.int .i64 0) (.int .i64 0) 51).alloc (by simp) (.cells #[.int .i64 N, .int .i64 J] 51)).keep (by simp; omega) hb2
  obtain ⟨k0, k1⟩ := id kk
  obtain ⟨f0, f1⟩ := id ff
  clear hE hb2
  go_wp2_with fail
  (try simp only [Exit.inBlock, Exit.then])
  obtain ⟨w7, hw7, hC7, hb7⟩ := st2_ex kk (.int .i64 0) (.int .i64 0)
  rw [← hw7]
  refine bodyPost_ret (v := .tuple #[.agg #[.int .i64 0, .int .i64 0], .int .i64 7]) ?_ rfl ⟨rfl, hB2.trans hb7⟩
  rw [results_cell_tmp rfl]
  obtain ⟨t0, t1⟩ := hC7
  clear hw7 hb7 kk ff k0 k1 f0 f1
  go_simp
 ·obtain ⟨sp, cap, rfl⟩ := hv.form
  rw [hn]
  have f2 : (N : Int) < 8 := by omega
  clear hL hn hv hg
  have kk := C2.new w (.int .i64 0) (.int .i64 0) 51
  go_enter Tryz.func68, Tryz.ntmps68
  go_wp2_with fail
  refine bodyPost_ret (v := .tuple #[.agg #[.int .i64 0, .int .i64 0], .int .i64 7]) ?_ rfl ⟨rfl, bZ _ _⟩
  rw [results_cell_tmp rfl]
  obtain ⟨t0, t1⟩ := kk
  go_simp
def sOk (l : List Nat) : Bool := decide (8 ≤ l.length) && (gOk (l.length : Nat) (l.getD 3 0 : Nat) && decide (l.take 8 = headW l.length (l.getD 3 0) (gNat l.length (l.getD 3 0))))
theorem dec_any (v : Value) (l : List Nat) (w : World) (hl : WL l) (hv : SL w v l) :
 Calls Tryz.prog 68 #[v] w fun e w' => e = .returned (decR l.length (l.getD 3 0) (sOk l)) ∧ Below w.heap.size w w' := by
 have hL : l.getD 3 0 < 18446744073709551616 := by
  by_cases h : 3 < l.length
  ·exact hl.at 3 h
  ·rw [List.getD_eq_getElem?_getD, List.getElem?_eq_none (by omega)]; decide
 cases hg : gOk (l.length : Nat) (l.getD 3 0 : Nat) with
 | false =>
   rw [show sOk l = false by unfold sOk; rw [hg]; simp]
   exact dec_no_super v l _ _ w rfl rfl hL hg hv
 | true =>
   have := gOk_t hg
   rw [show sOk l = decide (l.take 8 = headW l.length (l.getD 3 0) (gNat l.length (l.getD 3 0))) by unfold sOk; rw [hg, decide_eq_true (show 8 ≤ l.length by omega)]; rfl]
   exact dec_ok v l _ _ _ w rfl (by omega) rfl (gNat_eq hg) hg hv
end Go.Proofs.YtdmmbnnejbmdpaaGreatDoor
end
section
namespace Go.Proofs.YtdmmbnnejbmdpaaGreatDoor
open Go.RowKit
theorem refPw_8 (w : World) : Calls Tryz.prog 96 #[.int .i64 8] w fun e w' => e = .returned (.int .u64 256) ∧ w = w' := refPower10 8 w (by omega)
theorem refPw_4 (w : World) : Calls Tryz.prog 96 #[.int .i64 4] w fun e w' => e = .returned (.int .u64 16) ∧ w = w' := refPower10 4 w (by omega)
theorem refPw_2 (w : World) : Calls Tryz.prog 96 #[.int .i64 2] w fun e w' => e = .returned (.int .u64 4) ∧ w = w' := refPower10 2 w (by omega)
theorem refRight_0 (k c l m b : Int) (w : World) (hk : k = 0) :
 Calls Tryz.prog 114 #[.agg #[.int .i64 k, .int .i64 c, .int .i64 l, .int .i64 m, .int .u64 b]] w fun e w' => e = .returned (.bool (rightB_ti k c l m b)) ∧ Below w.heap.size w w' := by
 skip
 all_goals
  go_enter Tryz.func114, Tryz.ntmps114
  go_wp2_with fail
 all_goals
  go_ret
  refine ⟨ret_b ?_, bZ _ _⟩
  first | (exact (right_yes (by unfold RightP; omega)).symm) | (exact (right_no (by unfold RightP; omega)).symm) | (simp [rightB_ti, RightP]; done) | (simp [rightB_ti, RightP, *]; done) | (simp [rightB_ti, RightP]; omega)
theorem refRight_3 (k c l m b : Int) (w : World) (hk : k = 3) :
 Calls Tryz.prog 114 #[.agg #[.int .i64 k, .int .i64 c, .int .i64 l, .int .i64 m, .int .u64 b]] w fun e w' => e = .returned (.bool (rightB_ti k c l m b)) ∧ Below w.heap.size w w' := by
 skip
 all_goals
  go_enter Tryz.func114, Tryz.ntmps114
  go_wp2_with fail
 all_goals
  go_ret
  refine ⟨ret_b ?_, bZ _ _⟩
  first | (exact (right_yes (by unfold RightP; omega)).symm) | (exact (right_no (by unfold RightP; omega)).symm) | (simp [rightB_ti, RightP]; done) | (simp [rightB_ti, RightP, *]; done) | (simp [rightB_ti, RightP]; omega)
theorem refRight_2 (k c l m b : Int) (w : World) (hk : k = 2) :
 Calls Tryz.prog 114 #[.agg #[.int .i64 k, .int .i64 c, .int .i64 l, .int .i64 m, .int .u64 b]] w fun e w' => e = .returned (.bool (rightB_ti k c l m b)) ∧ Below w.heap.size w w' := by
 skip
 all_goals
  go_enter Tryz.func114, Tryz.ntmps114
  go_wp2_with fail
 all_goals
  go_ret
  refine ⟨ret_b ?_, bZ _ _⟩
  first | (exact (right_yes (by unfold RightP; omega)).symm) | (exact (right_no (by unfold RightP; omega)).symm) | (simp [rightB_ti, RightP]; done) | (simp [rightB_ti, RightP, *]; done) | (simp [rightB_ti, RightP]; omega)
theorem refRight_4 (k c l m b : Int) (w : World) (hk : k = 4) :
 Calls Tryz.prog 114 #[.agg #[.int .i64 k, .int .i64 c, .int .i64 l, .int .i64 m, .int .u64 b]] w fun e w' => e = .returned (.bool (rightB_ti k c l m b)) ∧ Below w.heap.size w w' := by
 by_cases hm7 : m ≤ 7
 all_goals
  go_enter Tryz.func114, Tryz.ntmps114
  go_wp2_with fail
 all_goals
  go_ret
  refine ⟨ret_b ?_, bZ _ _⟩
  first | (exact (right_yes (by unfold RightP; omega)).symm) | (exact (right_no (by unfold RightP; omega)).symm) | (simp [rightB_ti, RightP]; done) | (simp [rightB_ti, RightP, *]; done) | (simp [rightB_ti, RightP]; omega)
theorem refRight_x (k c l m b : Int) (w : World) (q0 : ¬ k = 0) (q1 : ¬ k = 1) (q2 : ¬ k = 2) (q3 : ¬ k = 3) (q4 : ¬ k = 4) :
 Calls Tryz.prog 114 #[.agg #[.int .i64 k, .int .i64 c, .int .i64 l, .int .i64 m, .int .u64 b]] w fun e w' => e = .returned (.bool (rightB_ti k c l m b)) ∧ Below w.heap.size w w' := by
 skip
 all_goals
  go_enter Tryz.func114, Tryz.ntmps114
  go_wp2_with fail
 all_goals
  go_ret
  refine ⟨ret_b ?_, bZ _ _⟩
  first | (exact (right_yes (by unfold RightP; omega)).symm) | (exact (right_no (by unfold RightP; omega)).symm) | (simp [rightB_ti, RightP]; done) | (simp [rightB_ti, RightP, *]; done) | (simp [rightB_ti, RightP]; omega)
theorem refRight_1l (c l m b : Int) (w : World) (ht : Tab w) (hs : 5 < w.heap.size) (hl : ¬ l = 0) :
 Calls Tryz.prog 114 #[.agg #[.int .i64 1, .int .i64 c, .int .i64 l, .int .i64 m, .int .u64 b]] w fun e w' => e = .returned (.bool (rightB_ti 1 c l m b)) ∧ Below w.heap.size w w' := by
 have ht1 : Tab (w.alloc (.cells #[.int .i64 1, .int .i64 c, .int .i64 l, .int .i64 m, .int .u64 b] 121)).drew := tab_keep ht hs (bZ _ _).drew
 go_enter Tryz.func114, Tryz.ntmps114
 go_wp2_with fail
 refine wp_region_held_drew (S := (fun w' => w'.cell? ⟨w.heap.size, 0, none⟩ = some (.int .i64 1) ∧ w'.cell? ⟨w.heap.size, 1, none⟩ = some (.int .i64 c) ∧ w'.cell? ⟨w.heap.size, 2, none⟩ = some (.int .i64 l) ∧ w'.cell? ⟨w.heap.size, 3, none⟩ = some (.int .i64 m) ∧ w'.cell? ⟨w.heap.size, 4, none⟩ = some (.int .u64 b))) (by kernel_rfl) ?_ (fun hHeld => ?_)
 ·(try dsimp only)
  first | exact hHeld | (refine ⟨?_, ?_, ?_, ?_, ?_⟩ <;> simp [go_sem])
 refine takeQ 0 ?_
 refine takeQ 1 ?_
 refine takeQ 2 ?_
 refine takeQ 3 ?_
 refine takeQ 4 ?_
 refine takeQ 5 ?_
 refine takeQ 6 ?_
 refine takeQ 7 ?_
 refine idleQ 8 ?_
 refine idleQ 9 ?_
 refine idleQ 10 ?_
 refine takeQ 11 ?_
 refine takeQ 12 ?_
 refine idleQ 13 ?_
 refine idleQ 14 ?_
 refine idleQ 15 ?_
 refine takeQ 16 ?_
 refine takeQ 17 ?_
 refine idleQ 18 ?_
 refine idleQ 19 ?_
 refine idleQ 20 ?_
 refine idleQ 21 ?_
 refine idleQ 22 ?_
 refine idleQ 23 ?_
 refine idleQ 24 ?_
 refine takeQ 25 ?_
 refine takeQ 26 ?_
 refine wpAnyH_done (by kernel_rfl) ?_ _
 go_wp2_with fail
 go_ret
 refine ⟨ret_b ?_, (bZ _ _).drew⟩
 first | (exact (right_yes (by unfold RightP; omega)).symm) | (exact (right_no (by unfold RightP; omega)).symm) | (rw [right_yes (by unfold RightP; omega)]; first | (simp; done) | (simp [*]; done) | (simp; omega)) | (rw [right_no (by unfold RightP; omega)]; first | (simp; done) | (simp [*]; done) | (simp; omega))
theorem refRight_1m (c l m b : Int) (w : World) (ht : Tab w) (hs : 5 < w.heap.size) (hm : ¬ m = 0) :
 Calls Tryz.prog 114 #[.agg #[.int .i64 1, .int .i64 c, .int .i64 0, .int .i64 m, .int .u64 b]] w fun e w' => e = .returned (.bool (rightB_ti 1 c 0 m b)) ∧ Below w.heap.size w w' := by
 have ht1 : Tab (w.alloc (.cells #[.int .i64 1, .int .i64 c, .int .i64 0, .int .i64 m, .int .u64 b] 121)).drew := tab_keep ht hs (bZ _ _).drew
 go_enter Tryz.func114, Tryz.ntmps114
 go_wp2_with fail
 refine wp_region_held_drew (S := (fun w' => w'.cell? ⟨w.heap.size, 0, none⟩ = some (.int .i64 1) ∧ w'.cell? ⟨w.heap.size, 1, none⟩ = some (.int .i64 c) ∧ w'.cell? ⟨w.heap.size, 2, none⟩ = some (.int .i64 0) ∧ w'.cell? ⟨w.heap.size, 3, none⟩ = some (.int .i64 m) ∧ w'.cell? ⟨w.heap.size, 4, none⟩ = some (.int .u64 b))) (by kernel_rfl) ?_ (fun hHeld => ?_)
 ·(try dsimp only)
  first | exact hHeld | (refine ⟨?_, ?_, ?_, ?_, ?_⟩ <;> simp [go_sem])
 refine takeQ 0 ?_
 refine takeQ 1 ?_
 refine takeQ 2 ?_
 refine takeQ 3 ?_
 refine takeQ 4 ?_
 refine takeQ 5 ?_
 refine takeQ 6 ?_
 refine takeQ 7 ?_
 refine idleQ 8 ?_
 refine idleQ 9 ?_
 refine idleQ 10 ?_
 refine takeQ 11 ?_
 refine takeQ 12 ?_
 refine idleQ 13 ?_
 refine idleQ 14 ?_
 refine idleQ 15 ?_
 refine takeQ 16 ?_
 refine takeQ 17 ?_
 refine idleQ 18 ?_
 refine idleQ 19 ?_
 refine idleQ 20 ?_
 refine idleQ 21 ?_
 refine idleQ 22 ?_
 refine idleQ 23 ?_
 refine idleQ 24 ?_
 refine takeQ 25 ?_
 refine takeQ 26 ?_
 refine wpAnyH_done (by kernel_rfl) ?_ _
 go_wp2_with fail
 go_ret
 refine ⟨ret_b ?_, (bZ _ _).drew⟩
 first | (exact (right_yes (by unfold RightP; omega)).symm) | (exact (right_no (by unfold RightP; omega)).symm) | (rw [right_yes (by unfold RightP; omega)]; first | (simp; done) | (simp [*]; done) | (simp; omega)) | (rw [right_no (by unfold RightP; omega)]; first | (simp; done) | (simp [*]; done) | (simp; omega))
theorem refRight_1b (c l m b : Int) (w : World) (ht : Tab w) (hs : 5 < w.heap.size) (hc : 3 ≤ c) :
 Calls Tryz.prog 114 #[.agg #[.int .i64 1, .int .i64 c, .int .i64 0, .int .i64 0, .int .u64 b]] w fun e w' => e = .returned (.bool (rightB_ti 1 c 0 0 b)) ∧ Below w.heap.size w w' := by
 have ht1 : Tab (w.alloc (.cells #[.int .i64 1, .int .i64 c, .int .i64 0, .int .i64 0, .int .u64 b] 121)).drew := tab_keep ht hs (bZ _ _).drew
 have c00 : 0 ≤ c := by omega
 have c22 : decide (c ≤ 2) = false := decide_eq_false (by omega)
 have c23 : ¬ c ≤ 2 := by omega
 clear hc
 go_enter Tryz.func114, Tryz.ntmps114
 go_wp2_with fail
 refine wp_region_held_drew (S := (fun w' => w'.cell? ⟨w.heap.size, 0, none⟩ = some (.int .i64 1) ∧ w'.cell? ⟨w.heap.size, 1, none⟩ = some (.int .i64 c) ∧ w'.cell? ⟨w.heap.size, 2, none⟩ = some (.int .i64 0) ∧ w'.cell? ⟨w.heap.size, 3, none⟩ = some (.int .i64 0) ∧ w'.cell? ⟨w.heap.size, 4, none⟩ = some (.int .u64 b))) (by kernel_rfl) ?_ (fun hHeld => ?_)
 ·(try dsimp only)
  first | exact hHeld | (refine ⟨?_, ?_, ?_, ?_, ?_⟩ <;> simp [go_sem])
 refine takeQ 0 ?_
 refine takeQ 1 ?_
 refine takeQ 2 ?_
 refine takeQ 3 ?_
 refine takeQ 4 ?_
 refine takeQ 5 ?_
 refine takeQ 6 ?_
 refine takeQ 7 ?_
 refine takeQ 8 ?_
 refine takeQ 9 ?_
 refine takeQ 10 ?_
 refine takeQ 11 ?_
 refine takeQ 12 ?_
 refine takeQ 13 ?_
 refine takeQ 14 ?_
 refine takeQ 15 ?_
 refine takeQ 16 ?_
 refine takeQ 17 ?_
 refine idleQ 18 ?_
 refine idleQ 19 ?_
 refine idleQ 20 ?_
 refine idleQ 21 ?_
 refine idleQ 22 ?_
 refine idleQ 23 ?_
 refine idleQ 24 ?_
 refine takeQ 25 ?_
 refine takeQ 26 ?_
 refine wpAnyH_done (by kernel_rfl) ?_ _
 go_wp2_with fail
 go_ret
 refine ⟨ret_b ?_, (bZ _ _).drew⟩
 first | (exact (right_yes (by unfold RightP; omega)).symm) | (exact (right_no (by unfold RightP; omega)).symm) | (rw [right_yes (by unfold RightP; omega)]; first | (simp; done) | (simp [*]; done) | (simp; omega)) | (rw [right_no (by unfold RightP; omega)]; first | (simp; done) | (simp [*]; done) | (simp; omega))
theorem refRight_1s (c l m b : Int) (w : World) (ht : Tab w) (hs : 5 < w.heap.size) (hc : c ≤ -1) :
 Calls Tryz.prog 114 #[.agg #[.int .i64 1, .int .i64 c, .int .i64 0, .int .i64 0, .int .u64 b]] w fun e w' => e = .returned (.bool (rightB_ti 1 c 0 0 b)) ∧ Below w.heap.size w w' := by
 have ht1 : Tab (w.alloc (.cells #[.int .i64 1, .int .i64 c, .int .i64 0, .int .i64 0, .int .u64 b] 121)).drew := tab_keep ht hs (bZ _ _).drew
 have c22 : decide (0 ≤ c) = false := decide_eq_false (by omega)
 have c23 : ¬ 0 ≤ c := by omega
 clear hc
 go_enter Tryz.func114, Tryz.ntmps114
 go_wp2_with fail
 refine wp_region_held_drew (S := (fun w' => w'.cell? ⟨w.heap.size, 0, none⟩ = some (.int .i64 1) ∧ w'.cell? ⟨w.heap.size, 1, none⟩ = some (.int .i64 c) ∧ w'.cell? ⟨w.heap.size, 2, none⟩ = some (.int .i64 0) ∧ w'.cell? ⟨w.heap.size, 3, none⟩ = some (.int .i64 0) ∧ w'.cell? ⟨w.heap.size, 4, none⟩ = some (.int .u64 b))) (by kernel_rfl) ?_ (fun hHeld => ?_)
 ·(try dsimp only)
  first | exact hHeld | (refine ⟨?_, ?_, ?_, ?_, ?_⟩ <;> simp [go_sem])
 refine takeQ 0 ?_
 refine takeQ 1 ?_
 refine takeQ 2 ?_
 refine takeQ 3 ?_
 refine takeQ 4 ?_
 refine takeQ 5 ?_
 refine takeQ 6 ?_
 refine takeQ 7 ?_
 refine takeQ 8 ?_
 refine takeQ 9 ?_
 refine takeQ 10 ?_
 refine takeQ 11 ?_
 refine takeQ 12 ?_
 refine idleQ 13 ?_
 refine idleQ 14 ?_
 refine idleQ 15 ?_
 refine takeQ 16 ?_
 refine takeQ 17 ?_
 refine idleQ 18 ?_
 refine idleQ 19 ?_
 refine idleQ 20 ?_
 refine idleQ 21 ?_
 refine idleQ 22 ?_
 refine idleQ 23 ?_
 refine idleQ 24 ?_
 refine takeQ 25 ?_
 refine takeQ 26 ?_
 refine wpAnyH_done (by kernel_rfl) ?_ _
 go_wp2_with fail
 go_ret
 refine ⟨ret_b ?_, (bZ _ _).drew⟩
 first | (exact (right_yes (by unfold RightP; omega)).symm) | (exact (right_no (by unfold RightP; omega)).symm) | (rw [right_yes (by unfold RightP; omega)]; first | (simp; done) | (simp [*]; done) | (simp; omega)) | (rw [right_no (by unfold RightP; omega)]; first | (simp; done) | (simp [*]; done) | (simp; omega))
theorem refRight_10y (c l m b : Int) (w : World) (ht : Tab w) (hs : 5 < w.heap.size) (hb0 : 0 ≤ b) (hb : b < 256) :
 Calls Tryz.prog 114 #[.agg #[.int .i64 1, .int .i64 0, .int .i64 0, .int .i64 0, .int .u64 b]] w fun e w' => e = .returned (.bool (rightB_ti 1 0 0 0 b)) ∧ Below w.heap.size w w' := by
 have ht1 : Tab (w.alloc (.cells #[.int .i64 1, .int .i64 0, .int .i64 0, .int .i64 0, .int .u64 b] 121)).drew := tab_keep ht hs (bZ _ _).drew
 go_enter Tryz.func114, Tryz.ntmps114
 go_wp2_with fail
 refine wp_region_held_drew (S := (fun w' => w'.cell? ⟨w.heap.size, 0, none⟩ = some (.int .i64 1) ∧ w'.cell? ⟨w.heap.size, 1, none⟩ = some (.int .i64 0) ∧ w'.cell? ⟨w.heap.size, 2, none⟩ = some (.int .i64 0) ∧ w'.cell? ⟨w.heap.size, 3, none⟩ = some (.int .i64 0) ∧ w'.cell? ⟨w.heap.size, 4, none⟩ = some (.int .u64 b))) (by kernel_rfl) ?_ (fun hHeld => ?_)
 ·(try dsimp only)
  first | exact hHeld | (refine ⟨?_, ?_, ?_, ?_, ?_⟩ <;> simp [go_sem])
 refine takeQ 0 ?_
 refine takeQ 1 ?_
 refine takeQ 2 ?_
 refine takeQ 3 ?_
 refine takeQ 4 ?_
 refine takeQ 5 ?_
 refine takeQ 6 ?_
 refine takeQ 7 ?_
 refine takeQ 8 ?_
 refine takeQ 9 ?_
 refine takeQ 10 ?_
 refine takeQ 11 ?_
 refine takeQ 12 ?_
 refine takeQ 13 ?_
 refine takeQ 14 ?_
 refine takeQ 15 ?_
 refine takeQ 16 ?_
 refine takeQ 17 ?_
 refine takeQ 18 ?_
 refine takeQ 19 ?_
 refine takeQ 20 ?_
 refine takeQ 21 ?_
 refine oneL 22 rfl (by kernel_rfl) (fun K hK => ?_)
 go_simp
 (go_at_call 61; (with_reducible refine (refMny_0 0 _ rfl).mono ?_); rintro e w8 ⟨rfl, rfl⟩)
 refine hK.out _ _ ?_ (fun hHeld2 => ?_)
 ·(try dsimp only)
  first | exact hHeld | (refine ⟨?_, ?_, ?_, ?_, ?_⟩ <;> simp [go_sem])
 clear hK K hHeld
 have hHeld := hHeld2
 clear hHeld2
 try simp only [Act.put,sA,sB,sC]
 refine oneL 23 rfl (by kernel_rfl) (fun K hK => ?_)
 go_simp
 (go_at_call 96; (with_reducible refine (refPw_8 _).mono ?_); rintro e w8 ⟨rfl, rfl⟩)
 refine hK.out _ _ ?_ (fun hHeld2 => ?_)
 ·(try dsimp only)
  first | exact hHeld | (refine ⟨?_, ?_, ?_, ?_, ?_⟩ <;> simp [go_sem])
 clear hK K hHeld
 have hHeld := hHeld2
 clear hHeld2
 try simp only [Act.put,sA,sB,sC]
 refine takeQ 24 ?_
 refine takeQ 25 ?_
 refine takeQ 26 ?_
 refine wpAnyH_done (by kernel_rfl) ?_ _
 go_wp2_with fail
 go_ret
 refine ⟨ret_b ?_, (bZ _ _).drew⟩
 first | (exact (right_yes (by unfold RightP; omega)).symm) | (exact (right_no (by unfold RightP; omega)).symm) | (rw [right_yes (by unfold RightP; omega)]; first | (simp; done) | (simp [*]; done) | (simp; omega)) | (rw [right_no (by unfold RightP; omega)]; first | (simp; done) | (simp [*]; done) | (simp; omega))
theorem refRight_10n (c l m b : Int) (w : World) (ht : Tab w) (hs : 5 < w.heap.size) (hb0 : 0 ≤ b) (hb : 256 ≤ b) :
 Calls Tryz.prog 114 #[.agg #[.int .i64 1, .int .i64 0, .int .i64 0, .int .i64 0, .int .u64 b]] w fun e w' => e = .returned (.bool (rightB_ti 1 0 0 0 b)) ∧ Below w.heap.size w w' := by
 have ht1 : Tab (w.alloc (.cells #[.int .i64 1, .int .i64 0, .int .i64 0, .int .i64 0, .int .u64 b] 121)).drew := tab_keep ht hs (bZ _ _).drew
 go_enter Tryz.func114, Tryz.ntmps114
 go_wp2_with fail
 refine wp_region_held_drew (S := (fun w' => w'.cell? ⟨w.heap.size, 0, none⟩ = some (.int .i64 1) ∧ w'.cell? ⟨w.heap.size, 1, none⟩ = some (.int .i64 0) ∧ w'.cell? ⟨w.heap.size, 2, none⟩ = some (.int .i64 0) ∧ w'.cell? ⟨w.heap.size, 3, none⟩ = some (.int .i64 0) ∧ w'.cell? ⟨w.heap.size, 4, none⟩ = some (.int .u64 b))) (by kernel_rfl) ?_ (fun hHeld => ?_)
 ·(try dsimp only)
  first | exact hHeld | (refine ⟨?_, ?_, ?_, ?_, ?_⟩ <;> simp [go_sem])
 refine takeQ 0 ?_
 refine takeQ 1 ?_
 refine takeQ 2 ?_
 refine takeQ 3 ?_
 refine takeQ 4 ?_
 refine takeQ 5 ?_
 refine takeQ 6 ?_
 refine takeQ 7 ?_
 refine takeQ 8 ?_
 refine takeQ 9 ?_
 refine takeQ 10 ?_
 refine takeQ 11 ?_
 refine takeQ 12 ?_
 refine takeQ 13 ?_
 refine takeQ 14 ?_
 refine takeQ 15 ?_
 refine takeQ 16 ?_
 refine takeQ 17 ?_
 refine takeQ 18 ?_
 refine takeQ 19 ?_
 refine takeQ 20 ?_
 refine takeQ 21 ?_
 refine oneL 22 rfl (by kernel_rfl) (fun K hK => ?_)
 go_simp
 (go_at_call 61; (with_reducible refine (refMny_0 0 _ rfl).mono ?_); rintro e w8 ⟨rfl, rfl⟩)
 refine hK.out _ _ ?_ (fun hHeld2 => ?_)
 ·(try dsimp only)
  first | exact hHeld | (refine ⟨?_, ?_, ?_, ?_, ?_⟩ <;> simp [go_sem])
 clear hK K hHeld
 have hHeld := hHeld2
 clear hHeld2
 try simp only [Act.put,sA,sB,sC]
 refine oneL 23 rfl (by kernel_rfl) (fun K hK => ?_)
 go_simp
 (go_at_call 96; (with_reducible refine (refPw_8 _).mono ?_); rintro e w8 ⟨rfl, rfl⟩)
 refine hK.out _ _ ?_ (fun hHeld2 => ?_)
 ·(try dsimp only)
  first | exact hHeld | (refine ⟨?_, ?_, ?_, ?_, ?_⟩ <;> simp [go_sem])
 clear hK K hHeld
 have hHeld := hHeld2
 clear hHeld2
 try simp only [Act.put,sA,sB,sC]
 refine takeQ 24 ?_
 refine takeQ 25 ?_
 refine takeQ 26 ?_
 refine wpAnyH_done (by kernel_rfl) ?_ _
 go_wp2_with fail
 go_ret
 refine ⟨ret_b ?_, (bZ _ _).drew⟩
 first | (exact (right_yes (by unfold RightP; omega)).symm) | (exact (right_no (by unfold RightP; omega)).symm) | (rw [right_yes (by unfold RightP; omega)]; first | (simp; done) | (simp [*]; done) | (simp; omega)) | (rw [right_no (by unfold RightP; omega)]; first | (simp; done) | (simp [*]; done) | (simp; omega))
theorem refRight_11y (c l m b : Int) (w : World) (ht : Tab w) (hs : 5 < w.heap.size) (hb0 : 0 ≤ b) (hb : b < 16) :
 Calls Tryz.prog 114 #[.agg #[.int .i64 1, .int .i64 1, .int .i64 0, .int .i64 0, .int .u64 b]] w fun e w' => e = .returned (.bool (rightB_ti 1 1 0 0 b)) ∧ Below w.heap.size w w' := by
 have ht1 : Tab (w.alloc (.cells #[.int .i64 1, .int .i64 1, .int .i64 0, .int .i64 0, .int .u64 b] 121)).drew := tab_keep ht hs (bZ _ _).drew
 go_enter Tryz.func114, Tryz.ntmps114
 go_wp2_with fail
 refine wp_region_held_drew (S := (fun w' => w'.cell? ⟨w.heap.size, 0, none⟩ = some (.int .i64 1) ∧ w'.cell? ⟨w.heap.size, 1, none⟩ = some (.int .i64 1) ∧ w'.cell? ⟨w.heap.size, 2, none⟩ = some (.int .i64 0) ∧ w'.cell? ⟨w.heap.size, 3, none⟩ = some (.int .i64 0) ∧ w'.cell? ⟨w.heap.size, 4, none⟩ = some (.int .u64 b))) (by kernel_rfl) ?_ (fun hHeld => ?_)
 ·(try dsimp only)
  first | exact hHeld | (refine ⟨?_, ?_, ?_, ?_, ?_⟩ <;> simp [go_sem])
 refine takeQ 0 ?_
 refine takeQ 1 ?_
 refine takeQ 2 ?_
 refine takeQ 3 ?_
 refine takeQ 4 ?_
 refine takeQ 5 ?_
 refine takeQ 6 ?_
 refine takeQ 7 ?_
 refine takeQ 8 ?_
 refine takeQ 9 ?_
 refine takeQ 10 ?_
 refine takeQ 11 ?_
 refine takeQ 12 ?_
 refine takeQ 13 ?_
 refine takeQ 14 ?_
 refine takeQ 15 ?_
 refine takeQ 16 ?_
 refine takeQ 17 ?_
 refine takeQ 18 ?_
 refine takeQ 19 ?_
 refine takeQ 20 ?_
 refine takeQ 21 ?_
 refine oneL 22 rfl (by kernel_rfl) (fun K hK => ?_)
 go_simp
 (go_at_call 61; (with_reducible refine (refMny_1 1 _ rfl).mono ?_); rintro e w8 ⟨rfl, rfl⟩)
 refine hK.out _ _ ?_ (fun hHeld2 => ?_)
 ·(try dsimp only)
  first | exact hHeld | (refine ⟨?_, ?_, ?_, ?_, ?_⟩ <;> simp [go_sem])
 clear hK K hHeld
 have hHeld := hHeld2
 clear hHeld2
 try simp only [Act.put,sA,sB,sC]
 refine oneL 23 rfl (by kernel_rfl) (fun K hK => ?_)
 go_simp
 (go_at_call 96; (with_reducible refine (refPw_4 _).mono ?_); rintro e w8 ⟨rfl, rfl⟩)
 refine hK.out _ _ ?_ (fun hHeld2 => ?_)
 ·(try dsimp only)
  first | exact hHeld | (refine ⟨?_, ?_, ?_, ?_, ?_⟩ <;> simp [go_sem])
 clear hK K hHeld
 have hHeld := hHeld2
 clear hHeld2
 try simp only [Act.put,sA,sB,sC]
 refine takeQ 24 ?_
 refine takeQ 25 ?_
 refine takeQ 26 ?_
 refine wpAnyH_done (by kernel_rfl) ?_ _
 go_wp2_with fail
 go_ret
 refine ⟨ret_b ?_, (bZ _ _).drew⟩
 first | (exact (right_yes (by unfold RightP; omega)).symm) | (exact (right_no (by unfold RightP; omega)).symm) | (rw [right_yes (by unfold RightP; omega)]; first | (simp; done) | (simp [*]; done) | (simp; omega)) | (rw [right_no (by unfold RightP; omega)]; first | (simp; done) | (simp [*]; done) | (simp; omega))
theorem refRight_11n (c l m b : Int) (w : World) (ht : Tab w) (hs : 5 < w.heap.size) (hb0 : 0 ≤ b) (hb : 16 ≤ b) :
 Calls Tryz.prog 114 #[.agg #[.int .i64 1, .int .i64 1, .int .i64 0, .int .i64 0, .int .u64 b]] w fun e w' => e = .returned (.bool (rightB_ti 1 1 0 0 b)) ∧ Below w.heap.size w w' := by
 have ht1 : Tab (w.alloc (.cells #[.int .i64 1, .int .i64 1, .int .i64 0, .int .i64 0, .int .u64 b] 121)).drew := tab_keep ht hs (bZ _ _).drew
 go_enter Tryz.func114, Tryz.ntmps114
 go_wp2_with fail
 refine wp_region_held_drew (S := (fun w' => w'.cell? ⟨w.heap.size, 0, none⟩ = some (.int .i64 1) ∧ w'.cell? ⟨w.heap.size, 1, none⟩ = some (.int .i64 1) ∧ w'.cell? ⟨w.heap.size, 2, none⟩ = some (.int .i64 0) ∧ w'.cell? ⟨w.heap.size, 3, none⟩ = some (.int .i64 0) ∧ w'.cell? ⟨w.heap.size, 4, none⟩ = some (.int .u64 b))) (by kernel_rfl) ?_ (fun hHeld => ?_)
 ·(try dsimp only)
  first | exact hHeld | (refine ⟨?_, ?_, ?_, ?_, ?_⟩ <;> simp [go_sem])
 refine takeQ 0 ?_
 refine takeQ 1 ?_
 refine takeQ 2 ?_
 refine takeQ 3 ?_
 refine takeQ 4 ?_
 refine takeQ 5 ?_
 refine takeQ 6 ?_
 refine takeQ 7 ?_
 refine takeQ 8 ?_
 refine takeQ 9 ?_
 refine takeQ 10 ?_
 refine takeQ 11 ?_
 refine takeQ 12 ?_
 refine takeQ 13 ?_
 refine takeQ 14 ?_
 refine takeQ 15 ?_
 refine takeQ 16 ?_
 refine takeQ 17 ?_
 refine takeQ 18 ?_
 refine takeQ 19 ?_
 refine takeQ 20 ?_
 refine takeQ 21 ?_
 refine oneL 22 rfl (by kernel_rfl) (fun K hK => ?_)
 go_simp
 (go_at_call 61; (with_reducible refine (refMny_1 1 _ rfl).mono ?_); rintro e w8 ⟨rfl, rfl⟩)
 refine hK.out _ _ ?_ (fun hHeld2 => ?_)
 ·(try dsimp only)
  first | exact hHeld | (refine ⟨?_, ?_, ?_, ?_, ?_⟩ <;> simp [go_sem])
 clear hK K hHeld
 have hHeld := hHeld2
 clear hHeld2
 try simp only [Act.put,sA,sB,sC]
 refine oneL 23 rfl (by kernel_rfl) (fun K hK => ?_)
 go_simp
 (go_at_call 96; (with_reducible refine (refPw_4 _).mono ?_); rintro e w8 ⟨rfl, rfl⟩)
 refine hK.out _ _ ?_ (fun hHeld2 => ?_)
 ·(try dsimp only)
  first | exact hHeld | (refine ⟨?_, ?_, ?_, ?_, ?_⟩ <;> simp [go_sem])
 clear hK K hHeld
 have hHeld := hHeld2
 clear hHeld2
 try simp only [Act.put,sA,sB,sC]
 refine takeQ 24 ?_
 refine takeQ 25 ?_
 refine takeQ 26 ?_
 refine wpAnyH_done (by kernel_rfl) ?_ _
 go_wp2_with fail
 go_ret
 refine ⟨ret_b ?_, (bZ _ _).drew⟩
 first | (exact (right_yes (by unfold RightP; omega)).symm) | (exact (right_no (by unfold RightP; omega)).symm) | (rw [right_yes (by unfold RightP; omega)]; first | (simp; done) | (simp [*]; done) | (simp; omega)) | (rw [right_no (by unfold RightP; omega)]; first | (simp; done) | (simp [*]; done) | (simp; omega))
theorem refRight_12y (c l m b : Int) (w : World) (ht : Tab w) (hs : 5 < w.heap.size) (hb0 : 0 ≤ b) (hb : b < 4) :
 Calls Tryz.prog 114 #[.agg #[.int .i64 1, .int .i64 2, .int .i64 0, .int .i64 0, .int .u64 b]] w fun e w' => e = .returned (.bool (rightB_ti 1 2 0 0 b)) ∧ Below w.heap.size w w' := by
 have ht1 : Tab (w.alloc (.cells #[.int .i64 1, .int .i64 2, .int .i64 0, .int .i64 0, .int .u64 b] 121)).drew := tab_keep ht hs (bZ _ _).drew
 go_enter Tryz.func114, Tryz.ntmps114
 go_wp2_with fail
 refine wp_region_held_drew (S := (fun w' => w'.cell? ⟨w.heap.size, 0, none⟩ = some (.int .i64 1) ∧ w'.cell? ⟨w.heap.size, 1, none⟩ = some (.int .i64 2) ∧ w'.cell? ⟨w.heap.size, 2, none⟩ = some (.int .i64 0) ∧ w'.cell? ⟨w.heap.size, 3, none⟩ = some (.int .i64 0) ∧ w'.cell? ⟨w.heap.size, 4, none⟩ = some (.int .u64 b))) (by kernel_rfl) ?_ (fun hHeld => ?_)
 ·(try dsimp only)
  first | exact hHeld | (refine ⟨?_, ?_, ?_, ?_, ?_⟩ <;> simp [go_sem])
 refine takeQ 0 ?_
 refine takeQ 1 ?_
 refine takeQ 2 ?_
 refine takeQ 3 ?_
 refine takeQ 4 ?_
 refine takeQ 5 ?_
 refine takeQ 6 ?_
 refine takeQ 7 ?_
 refine takeQ 8 ?_
 refine takeQ 9 ?_
 refine takeQ 10 ?_
 refine takeQ 11 ?_
 refine takeQ 12 ?_
 refine takeQ 13 ?_
 refine takeQ 14 ?_
 refine takeQ 15 ?_
 refine takeQ 16 ?_
 refine takeQ 17 ?_
 refine takeQ 18 ?_
 refine takeQ 19 ?_
 refine takeQ 20 ?_
 refine takeQ 21 ?_
 refine oneL 22 rfl (by kernel_rfl) (fun K hK => ?_)
 go_simp
 (go_at_call 61; (with_reducible refine (refMny_2 2 _ rfl).mono ?_); rintro e w8 ⟨rfl, rfl⟩)
 refine hK.out _ _ ?_ (fun hHeld2 => ?_)
 ·(try dsimp only)
  first | exact hHeld | (refine ⟨?_, ?_, ?_, ?_, ?_⟩ <;> simp [go_sem])
 clear hK K hHeld
 have hHeld := hHeld2
 clear hHeld2
 try simp only [Act.put,sA,sB,sC]
 refine oneL 23 rfl (by kernel_rfl) (fun K hK => ?_)
 go_simp
 (go_at_call 96; (with_reducible refine (refPw_2 _).mono ?_); rintro e w8 ⟨rfl, rfl⟩)
 refine hK.out _ _ ?_ (fun hHeld2 => ?_)
 ·(try dsimp only)
  first | exact hHeld | (refine ⟨?_, ?_, ?_, ?_, ?_⟩ <;> simp [go_sem])
 clear hK K hHeld
 have hHeld := hHeld2
 clear hHeld2
 try simp only [Act.put,sA,sB,sC]
 refine takeQ 24 ?_
 refine takeQ 25 ?_
 refine takeQ 26 ?_
 refine wpAnyH_done (by kernel_rfl) ?_ _
 go_wp2_with fail
 go_ret
 refine ⟨ret_b ?_, (bZ _ _).drew⟩
 first | (exact (right_yes (by unfold RightP; omega)).symm) | (exact (right_no (by unfold RightP; omega)).symm) | (rw [right_yes (by unfold RightP; omega)]; first | (simp; done) | (simp [*]; done) | (simp; omega)) | (rw [right_no (by unfold RightP; omega)]; first | (simp; done) | (simp [*]; done) | (simp; omega))
theorem refRight_12n (c l m b : Int) (w : World) (ht : Tab w) (hs : 5 < w.heap.size) (hb0 : 0 ≤ b) (hb : 4 ≤ b) :
 Calls Tryz.prog 114 #[.agg #[.int .i64 1, .int .i64 2, .int .i64 0, .int .i64 0, .int .u64 b]] w fun e w' => e = .returned (.bool (rightB_ti 1 2 0 0 b)) ∧ Below w.heap.size w w' := by
 have ht1 : Tab (w.alloc (.cells #[.int .i64 1, .int .i64 2, .int .i64 0, .int .i64 0, .int .u64 b] 121)).drew := tab_keep ht hs (bZ _ _).drew
 go_enter Tryz.func114, Tryz.ntmps114
 go_wp2_with fail
 refine wp_region_held_drew (S := (fun w' => w'.cell? ⟨w.heap.size, 0, none⟩ = some (.int .i64 1) ∧ w'.cell? ⟨w.heap.size, 1, none⟩ = some (.int .i64 2) ∧ w'.cell? ⟨w.heap.size, 2, none⟩ = some (.int .i64 0) ∧ w'.cell? ⟨w.heap.size, 3, none⟩ = some (.int .i64 0) ∧ w'.cell? ⟨w.heap.size, 4, none⟩ = some (.int .u64 b))) (by kernel_rfl) ?_ (fun hHeld => ?_)
 ·(try dsimp only)
  first | exact hHeld | (refine ⟨?_, ?_, ?_, ?_, ?_⟩ <;> simp [go_sem])
 refine takeQ 0 ?_
 refine takeQ 1 ?_
 refine takeQ 2 ?_
 refine takeQ 3 ?_
 refine takeQ 4 ?_
 refine takeQ 5 ?_
 refine takeQ 6 ?_
 refine takeQ 7 ?_
 refine takeQ 8 ?_
 refine takeQ 9 ?_
 refine takeQ 10 ?_
 refine takeQ 11 ?_
 refine takeQ 12 ?_
 refine takeQ 13 ?_
 refine takeQ 14 ?_
 refine takeQ 15 ?_
 refine takeQ 16 ?_
 refine takeQ 17 ?_
 refine takeQ 18 ?_
 refine takeQ 19 ?_
 refine takeQ 20 ?_
 refine takeQ 21 ?_
 refine oneL 22 rfl (by kernel_rfl) (fun K hK => ?_)
 go_simp
 (go_at_call 61; (with_reducible refine (refMny_2 2 _ rfl).mono ?_); rintro e w8 ⟨rfl, rfl⟩)
 refine hK.out _ _ ?_ (fun hHeld2 => ?_)
 ·(try dsimp only)
  first | exact hHeld | (refine ⟨?_, ?_, ?_, ?_, ?_⟩ <;> simp [go_sem])
 clear hK K hHeld
 have hHeld := hHeld2
 clear hHeld2
 try simp only [Act.put,sA,sB,sC]
 refine oneL 23 rfl (by kernel_rfl) (fun K hK => ?_)
 go_simp
 (go_at_call 96; (with_reducible refine (refPw_2 _).mono ?_); rintro e w8 ⟨rfl, rfl⟩)
 refine hK.out _ _ ?_ (fun hHeld2 => ?_)
 ·(try dsimp only)
  first | exact hHeld | (refine ⟨?_, ?_, ?_, ?_, ?_⟩ <;> simp [go_sem])
 clear hK K hHeld
 have hHeld := hHeld2
 clear hHeld2
 try simp only [Act.put,sA,sB,sC]
 refine takeQ 24 ?_
 refine takeQ 25 ?_
 refine takeQ 26 ?_
 refine wpAnyH_done (by kernel_rfl) ?_ _
 go_wp2_with fail
 go_ret
 refine ⟨ret_b ?_, (bZ _ _).drew⟩
 first | (exact (right_yes (by unfold RightP; omega)).symm) | (exact (right_no (by unfold RightP; omega)).symm) | (rw [right_yes (by unfold RightP; omega)]; first | (simp; done) | (simp [*]; done) | (simp; omega)) | (rw [right_no (by unfold RightP; omega)]; first | (simp; done) | (simp [*]; done) | (simp; omega))
theorem refRight_any_ti (k c l m b : Int) (w : World) (ht : Tab w) (hs : 5 < w.heap.size) (b0 : 0 ≤ b) :
 Calls Tryz.prog 114 #[.agg #[.int .i64 k, .int .i64 c, .int .i64 l, .int .i64 m, .int .u64 b]] w fun e w' => e = .returned (.bool (rightB_ti k c l m b)) ∧ Below w.heap.size w w' := by
 by_cases q0 : k = 0
 ·exact refRight_0 k c l m b w q0
 by_cases q2 : k = 2
 ·exact refRight_2 k c l m b w q2
 by_cases q3 : k = 3
 ·exact refRight_3 k c l m b w q3
 by_cases q4 : k = 4
 ·exact refRight_4 k c l m b w q4
 by_cases q1 : k = 1
 ·subst q1
  by_cases hl : l = 0
  ·subst hl
   by_cases hm : m = 0
   ·subst hm
    by_cases h3 : 3 ≤ c
    ·exact refRight_1b c 0 0 b w ht hs h3
    by_cases h4 : c ≤ -1
    ·exact refRight_1s c 0 0 b w ht hs h4
    by_cases hc0 : c = 0
    ·subst hc0
     by_cases hb : b < 256
     ·exact refRight_10y 0 0 0 b w ht hs b0 hb
     ·exact refRight_10n 0 0 0 b w ht hs b0 (by omega)
    by_cases hc1 : c = 1
    ·subst hc1
     by_cases hb : b < 16
     ·exact refRight_11y 0 0 0 b w ht hs b0 hb
     ·exact refRight_11n 0 0 0 b w ht hs b0 (by omega)
    obtain rfl : c = 2 := by omega
    by_cases hb : b < 4
    ·exact refRight_12y 0 0 0 b w ht hs b0 hb
    ·exact refRight_12n 0 0 0 b w ht hs b0 (by omega)
   ·exact refRight_1m c 0 m b w ht hs hm
  ·exact refRight_1l c l m b w ht hs hl
 exact refRight_x k c l m b w q0 q1 q2 q3 q4
end Go.Proofs.YtdmmbnnejbmdpaaGreatDoor
end
