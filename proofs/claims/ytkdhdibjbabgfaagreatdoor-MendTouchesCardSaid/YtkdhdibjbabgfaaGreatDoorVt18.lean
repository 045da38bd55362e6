/-
  Part of the proof of MendTouches.
-/
import Derived.Test.YtkdhdibjbabgfaaGreatDoorVt17
import Derived.Test.YtkdhdibjbabgfaaGreatDoorVt2
import Derived.Test.YtkdhdibjbabgfaaGreatDoorVt6
import Derived.Test.YtkdhdibjbabgfaaGreatDoorVt7
import Derived.Laws.ResultCell
import Derived.Test.YtkdhdibjbabgfaaGreatDoorVt0
set_option maxRecDepth 10000
set_option maxHeartbeats 2000000
set_option linter.unusedVariables false
set_option linter.unusedSimpArgs false
section
namespace Go.Proofs.YtkdhdibjbabgfaaGreatDoor
open Go.RowKit
def headW (W L G : Nat) : List Nat := headL W L G ++ [moreN 0 (headL W L G)]
theorem take8 (l : List Nat) (h : 8 ≤ l.length) : l.take 8 = [l.getD 0 0, l.getD 1 0, l.getD 2 0, l.getD 3 0, l.getD 4 0, l.getD 5 0, l.getD 6 0, l.getD 7 0] := by
 match l, h with
 | a :: b :: c :: d :: e :: f :: g :: i :: r, _ => simp
def decR (N L : Nat) (b : Bool) : Value := match b with
 | true => .tuple #[.agg #[.int .i64 N, .int .i64 L], .int .i64 0]
 | false => .tuple #[.agg #[.int .i64 0, .int .i64 0], .int .i64 7]
theorem dec_ok (v : Value) (l : List Nat) (L G N : Nat) (w : World) (hn : l.length = N) (h8 : 8 ≤ N) (hL : l.getD 3 0 = L) (hG : gN N L = (G : Int)) (hg : gOk N L = true) (hv : SL w v l) :
 Calls Tryz.prog 49 #[v] w fun e w' => e = .returned (decR N L (decide (l.take 8 = headW N L G))) ∧ Below w.heap.size w w' := by
 obtain ⟨M, hM⟩ : ∃ M, l.length = M + 1 := ⟨l.length - 1, by omega⟩
 have hS := lh hv
 obtain ⟨g, o, p, rfl, hgs, hp, hc⟩ := hv.pos hM
 rw [← hM, hn] at hS hp hc ⊢
 obtain ⟨h1, h2, h3, h4⟩ := gOk_t hg
 have c3 := hc 3 (by omega)
 rw [hL] at c3
 have hE := lh (fun w => senc_t N L G w hg hG)
 have f1 : IntKind.i64.wrap (L : Int) = (L : Int) := by rw [IntKind.wrap_i64]; omega
 have f2 : ¬ ((N : Int) < 8) := by omega
 have f3 : (3 : Int) < (N : Int) := by omega
 obtain ⟨x0, hx0⟩ : ∃ x, Hid (l.getD 0 0 = x) := ⟨_, lh rfl⟩
 obtain ⟨x1, hx1⟩ : ∃ x, Hid (l.getD 1 0 = x) := ⟨_, lh rfl⟩
 obtain ⟨x2, hx2⟩ : ∃ x, Hid (l.getD 2 0 = x) := ⟨_, lh rfl⟩
 obtain ⟨x3, hx3⟩ : ∃ x, Hid (l.getD 3 0 = x) := ⟨_, lh rfl⟩
 obtain ⟨x4, hx4⟩ : ∃ x, Hid (l.getD 4 0 = x) := ⟨_, lh rfl⟩
 obtain ⟨x5, hx5⟩ : ∃ x, Hid (l.getD 5 0 = x) := ⟨_, lh rfl⟩
 obtain ⟨x6, hx6⟩ : ∃ x, Hid (l.getD 6 0 = x) := ⟨_, lh rfl⟩
 obtain ⟨x7, hx7⟩ : ∃ x, Hid (l.getD 7 0 = x) := ⟨_, lh rfl⟩
 have hP := lh (fun (w1 : World) (hb : Below w.heap.size w w1) => parts_x _ l w1 x0 x1 x2 x3 x4 x5 x6 x7 hx0.out hx1.out hx2.out hx3.out hx4.out hx5.out hx6.out hx7.out (by omega) (hS.out.keep hb))
 replace hn := lh hn
 replace hL := lh hL
 replace hM := lh hM
 replace hG := lh hG
 replace hg := lh hg
 clear hc
 go_enter Tryz.func49, Tryz.ntmps49
 go_wp2_with fail
 refine (hE.out _).mono ?_
 rintro e w2 ⟨ge, rfl, hge, hR, hb2⟩
 have hB2 : Below w.heap.size w w2 := ((bZ _ _).alloc (by simp) _).trans (hb2.mono (by simp; omega))
 have kk := ((C2.new w (.int .i64 0) (.int .i64 0) 33).alloc (.cells #[.int .i64 N, .int .i64 L] 33)).keep hb2
 have ff := ((F2.new w (.int .i64 0) (.int .i64 0) 33).alloc (by simp) (.cells #[.int .i64 N, .int .i64 L] 33)).keep (by simp; omega) hb2
 have jj := (C2.new (w.alloc (.cells #[.int .i64 0, .int .i64 0] 33)) (.int .i64 N) (.int .i64 L) 33).keep hb2
 simp only [World.size_alloc] at jj
 go_wp2_with fail
 refine (hP.out _ hB2).mono ?_
 rintro e w3 ⟨rfl, hb3⟩
 have hB3 := hB2.trans (hb3.mono hB2.size)
 replace ff := ff.keep kk.lt hb3
 replace kk := kk.keep hb3
 replace jj := jj.keep hb3
 go_wp2_with fail
 generalize hwl : headL N L G ++ [moreN 0 (headL N L G)] = wl at *
 replace hwl := lh hwl
 obtain ⟨y0, hy0⟩ : ∃ x, Hid (wl.getD 0 0 = x) := ⟨_, lh rfl⟩
 obtain ⟨y1, hy1⟩ : ∃ x, Hid (wl.getD 1 0 = x) := ⟨_, lh rfl⟩
 obtain ⟨y2, hy2⟩ : ∃ x, Hid (wl.getD 2 0 = x) := ⟨_, lh rfl⟩
 obtain ⟨y3, hy3⟩ : ∃ x, Hid (wl.getD 3 0 = x) := ⟨_, lh rfl⟩
 obtain ⟨y4, hy4⟩ : ∃ x, Hid (wl.getD 4 0 = x) := ⟨_, lh rfl⟩
 obtain ⟨y5, hy5⟩ : ∃ x, Hid (wl.getD 5 0 = x) := ⟨_, lh rfl⟩
 obtain ⟨y6, hy6⟩ : ∃ x, Hid (wl.getD 6 0 = x) := ⟨_, lh rfl⟩
 obtain ⟨y7, hy7⟩ : ∃ x, Hid (wl.getD 7 0 = x) := ⟨_, lh rfl⟩
 have hl8 : wl.length = 8 := by rw [← hwl.out]; simp [headL]
 have hSw := hR.sl.keep hb3
 rw [hl8] at hSw
 have hQ := parts_x (.slice (some ⟨ge, 0, none⟩) 8 8) wl w3 y0 y1 y2 y3 y4 y5 y6 y7 hy0.out hy1.out hy2.out hy3.out hy4.out hy5.out hy6.out hy7.out (by omega) hSw
 refine hQ.mono ?_
 rintro e w4 ⟨rfl, hb4⟩
 have hB4 := hB3.trans (hb4.mono hB3.size)
 replace ff := ff.keep kk.lt hb4
 replace kk := kk.keep hb4
 replace jj := jj.keep hb4
 clear hR hSw hb2 hb3 hb4 hB2 hB3 hQ
 obtain ⟨k0, k1⟩ := id kk
 obtain ⟨f0, f1⟩ := id ff
 obtain ⟨j0, j1⟩ := id jj
 have hT : l.take 8 = [x0, x1, x2, x3, x4, x5, x6, x7] := by rw [take8 l (by have := hn.out; omega), hx0.out, hx1.out, hx2.out, hx3.out, hx4.out, hx5.out, hx6.out, hx7.out]
 have hW : headW N L G = [y0, y1, y2, y3, y4, y5, y6, y7] := by
  rw [show headW N L G = wl from hwl.out, ← hy0.out, ← hy1.out, ← hy2.out, ← hy3.out, ← hy4.out, ← hy5.out, ← hy6.out, ← hy7.out, ← take8 wl (by omega), List.take_of_length_le (by omega)]
 clear hx0 hx1 hx2 hx3 hx4 hx5 hx6 hx7 hy0 hy1 hy2 hy3 hy4 hy5 hy6 hy7 hP hE hv hS
 replace hT := lh hT
 replace hW := lh hW
 go_wp2_with fail
 rw [eq8]
 by_cases hE : [x0, x1, x2, x3, x4, x5, x6, x7] = [y0, y1, y2, y3, y4, y5, y6, y7]
 ·rw [decide_eq_true hE]
  replace hE := lh hE
  simp only [Result.andThen, Bool.not_true, Bool.not_false]
  go_wp2_with fail
  (try simp only [Exit.inBlock, Exit.then])
  obtain ⟨w7, hw7, hC7, hb7⟩ := st2_ex kk (.int .i64 N) (.int .i64 L)
  rw [← hw7]
  refine bodyPost_ret (v := .tuple #[.agg #[.int .i64 N, .int .i64 L], .int .i64 0]) ?_ rfl ⟨by rw [hT.out, hW.out, decide_eq_true hE.out]; rfl, hB4.trans hb7⟩
  rw [results_cell_tmp rfl]
  obtain ⟨t0, t1⟩ := hC7
  clear hw7 hb7 kk jj ff k0 k1 f0 f1 j0 j1
  go_simp
 ·rw [decide_eq_false hE]
  replace hE := lh hE
  simp only [Result.andThen, Bool.not_true, Bool.not_false]
  go_wp2_with fail
  (try simp only [Exit.inBlock, Exit.then])
  obtain ⟨w7, hw7, hC7, hb7⟩ := st2_ex kk (.int .i64 0) (.int .i64 0)
  rw [← hw7]
  refine bodyPost_ret (v := .tuple #[.agg #[.int .i64 0, .int .i64 0], .int .i64 7]) ?_ rfl ⟨by rw [hT.out, hW.out, decide_eq_false hE.out]; rfl, hB4.trans hb7⟩
  rw [results_cell_tmp rfl]
  obtain ⟨t0, t1⟩ := hC7
  clear hw7 hb7 kk jj ff k0 k1 f0 f1 j0 j1
  go_simp
theorem gOk_wrap (N L : Nat) (hL : L < 18446744073709551616) (h : gOk N L = false) : gOk N (IntKind.i64.wrap L) = false := by
 have h1 := gOk_f h
 refine decide_eq_false (fun h2 => h1 ?_)
 rw [IntKind.wrap_i64] at h2
 omega
theorem dec_no_super (v : Value) (l : List Nat) (L N : Nat) (w : World) (hn : l.length = N) (hL : l.getD 3 0 = L) (hl : L < 18446744073709551616) (hg : gOk N L = false) (hv : SL w v l) :
 Calls Tryz.prog 49 #[v] w fun e w' => e = .returned (decR N L false) ∧ Below w.heap.size w w' := by
 by_cases h8 : 8 ≤ N
 ·obtain ⟨M, hM⟩ : ∃ M, l.length = M + 1 := ⟨l.length - 1, by omega⟩
  obtain ⟨g, o, p, rfl, hgs, hp, hc⟩ := hv.pos hM
  rw [← hM, hn] at hp hc ⊢
  have c3 := hc 3 (by omega)
  rw [hL] at c3
  have hE := lh (fun w => senc_f N (IntKind.i64.wrap L) w (gOk_wrap N L hl hg))
  generalize f1 : IntKind.i64.wrap (L : Int) = J at *
  have f2 : ¬ ((N : Int) < 8) := by omega
  have f3 : (3 : Int) < (N : Int) := by omega
  clear hc hL hn hM hv hg
  go_enter Tryz.func49, Tryz.ntmps49
  go_wp2_with fail
  refine (hE.out _).mono ?_
  rintro e w2 ⟨rfl, hb2⟩
  have hB2 : Below w.heap.size w w2 := ((bZ _ _).alloc (by simp) _).trans (hb2.mono (by simp; omega))
  have kk := ((C2.new w (.int .i64 0) (.int .i64 0) 33).alloc (.cells #[.int .i64 N, .int .i64 J] 33)).keep hb2
  have ff := ((F2.new w (.int .i64 0) (.int .i64 0) 33).alloc (by simp) (.cells #[.int .i64 N, .int .i64 J] 33)).keep (by simp; omega) hb2
  obtain ⟨k0, k1⟩ := id kk
  obtain ⟨f0, f1⟩ := id ff
  clear hE hb2
  go_wp2_with fail
  (try simp only [Exit.inBlock, Exit.then])
  obtain ⟨w7, hw7, hC7, hb7⟩ := st2_ex kk (.int .i64 0) (.int .i64 0)
  rw [← hw7]
  refine bodyPost_ret (v := .tuple #[.agg #[.int .i64 0, .int .i64 0], .int .i64 7]) ?_ rfl ⟨rfl, hB2.trans hb7⟩
  rw [results_cell_tmp rfl]
  obtain ⟨t0, t1⟩ := hC7
  clear hw7 hb7 kk ff k0 k1 f0 f1
  go_simp
 ·obtain ⟨sp, cap, rfl⟩ := hv.form
  rw [hn]
  have f2 : (N : Int) < 8 := by omega
  clear hL hn hv hg
  have kk := C2.new w (.int .i64 0) (.int .i64 0) 33
  go_enter Tryz.func49, Tryz.ntmps49
  go_wp2_with fail
  refine bodyPost_ret (v := .tuple #[.agg #[.int .i64 0, .int .i64 0], .int .i64 7]) ?_ rfl ⟨rfl, bZ _ _⟩
  rw [results_cell_tmp rfl]
  obtain ⟨t0, t1⟩ := kk
  go_simp
def sOk (l : List Nat) : Bool := decide (8 ≤ l.length) && (gOk (l.length : Nat) (l.getD 3 0 : Nat) && decide (l.take 8 = headW l.length (l.getD 3 0) (gNat l.length (l.getD 3 0))))
theorem dec_any (v : Value) (l : List Nat) (w : World) (hl : WL l) (hv : SL w v l) :
 Calls Tryz.prog 49 #[v] w fun e w' => e = .returned (decR l.length (l.getD 3 0) (sOk l)) ∧ Below w.heap.size w w' := by
 have hL : l.getD 3 0 < 18446744073709551616 := by
  by_cases h : 3 < l.length
  ·exact hl.at 3 h
  ·rw [List.getD_eq_getElem?_getD, List.getElem?_eq_none (by omega)]; decide
 cases hg : gOk (l.length : Nat) (l.getD 3 0 : Nat) with
 | false =>
   rw [show sOk l = false by unfold sOk; rw [hg]; simp]
   exact dec_no_super v l _ _ w rfl rfl hL hg hv
 | true =>
   have := gOk_t hg
   rw [show sOk l = decide (l.take 8 = headW l.length (l.getD 3 0) (gNat l.length (l.getD 3 0))) by unfold sOk; rw [hg, decide_eq_true (show 8 ≤ l.length by omega)]; rfl]
   exact dec_ok v l _ _ _ w rfl (by omega) rfl (gNat_eq hg) hg hv
end Go.Proofs.YtkdhdibjbabgfaaGreatDoor
end
section
namespace Go.Proofs.YtkdhdibjbabgfaaGreatDoor
open Go.RowKit
theorem SL.cell {w : World} {g o n c : Nat} {l : List Nat} (h : SL w (.slice (some ⟨g, o, none⟩) n c) l) (i : Nat) (hi : i < l.length) : w.cell? ⟨g, o + i, none⟩ = some (.int .u64 (l.getD i 0 : Nat)) := by
 rcases h with ⟨rfl, _⟩ | ⟨g', o', c', hv, hg, hcap, hc⟩
 ·simp at hi
 ·simp only [Value.slice.injEq, Option.some.injEq, Addr.mk.injEq, and_true] at hv
  obtain ⟨⟨rfl, rfl⟩, _, _⟩ := hv
  exact hc i hi
theorem SL.lt {w : World} {g o n c : Nat} {l : List Nat} (h : SL w (.slice (some ⟨g, o, none⟩) n c) l) (hi : 0 < l.length) : g < w.heap.size := by
 rcases h with ⟨rfl, _⟩ | ⟨g', o', c', hv, hg, hcap, hc⟩
 ·simp at hi
 ·simp only [Value.slice.injEq, Option.some.injEq, Addr.mk.injEq, and_true] at hv
  obtain ⟨⟨rfl, rfl⟩, _, _⟩ := hv
  exact hg
theorem headW_len (W L G : Nat) : (headW W L G).length = 8 := by simp [headW, headL]
end Go.Proofs.YtkdhdibjbabgfaaGreatDoor
end
section
namespace Go.Proofs.YtkdhdibjbabgfaaGreatDoor
open Go.RowKit
def nameW (k : Nat) : Nat := [0, 84, 21587, 5526337, 1414742342, 362174039627, 92716554144579, 23735437861012303, 6076272092419149644].getD k 0
theorem renc_t (W L G : Nat) (w : World) (h : gOk W L = true) (hG : gN W L = (G : Int)) :
 Calls Tryz.prog 26 #[.agg #[.int .i64 W, .int .i64 L]] w fun e w' => ∃ v, e = .returned (.tuple #[v, .int .i64 0]) ∧ SL w' v (headW W L G) ∧ Below w.heap.size w w' := by
 obtain ⟨h1, h2, h3, h4⟩ := gOk_t h
 obtain ⟨n1, n2, n3, n4⟩ := gN_bd h
 rw [hG] at n1 n2 n3 n4
 have hR := lh (fun w => refRight_t W L w h)
 have hCh := lh (fun w => show Calls Tryz.prog 57 #[.agg #[.int .i64 W, .int .i64 L]] w fun e w' => e = .returned (.int .i64 G) ∧ Below w.heap.size w w' from by
  have := refChunks_t W L w h
  rwa [hG] at this)
 have hWL : WL (headL W L G) := head_WL (by omega) (by omega) (by omega)
 replace hG := lh hG
 replace h := lh h
 have f1 : IntKind.u64.wrap (W : Int) = (W : Int) := by rw [IntKind.wrap_u64]; omega
 have f2 : IntKind.u64.wrap (L : Int) = (L : Int) := by rw [IntKind.wrap_u64]; omega
 have f3 : IntKind.u64.wrap (G : Int) = (G : Int) := by rw [IntKind.wrap_u64]; omega
 have hC0 := C2.new w (.int .i64 W) (.int .i64 L) 33
 go_enter Tryz.func26, Tryz.ntmps26
 go_wp2_with fail
 refine (hR.out _).mono ?_
 rintro e w1 ⟨rfl, hb1⟩
 have hB1 : Below w.heap.size w w1 := (bZ _ _).trans (hb1.mono (by simp))
 have hC1 := hC0.keep hb1
 clear hC0 hb1
 go_wp2_with fail
 go_loopw [5, 7] (fun a i wr => ∃ k x : Nat, k ≤ 8 ∧ i = .int .i64 k ∧ a = .int .u64 x ∧ x = nameW k ∧ C2 wr w.heap.size (.int .i64 W) (.int .i64 L) ∧ Below w.heap.size w wr) (fun _ i _ => 9 - (intOf i).toNat)
 case atStart => exact ⟨0, 0, by omega, rfl, rfl, rfl, hC1, hB1⟩
 case round =>
  obtain ⟨k, x, hk, rfl, rfl, hx, hC, hB⟩ := hrel
  have hk9 : k = 0 ∨ k = 1 ∨ k = 2 ∨ k = 3 ∨ k = 4 ∨ k = 5 ∨ k = 6 ∨ k = 7 ∨ k = 8 := by omega
  clear hC1 hB1
  rcases hk9 with rfl | rfl | rfl | rfl | rfl | rfl | rfl | rfl | rfl
  ·replace hx : x = 0 := hx
   subst hx
   go_wp2_with fail
   go_roundw
   case rel => exact ⟨1, 84, by omega, by go_num, by go_num, rfl, hC, hB⟩
   case measure => simp [intOf]
  ·replace hx : x = 84 := hx
   subst hx
   go_wp2_with fail
   go_roundw
   case rel => exact ⟨2, 21587, by omega, by go_num, by go_num, rfl, hC, hB⟩
   case measure => simp [intOf]
  ·replace hx : x = 21587 := hx
   subst hx
   go_wp2_with fail
   go_roundw
   case rel => exact ⟨3, 5526337, by omega, by go_num, by go_num, rfl, hC, hB⟩
   case measure => simp [intOf]
  ·replace hx : x = 5526337 := hx
   subst hx
   go_wp2_with fail
   go_roundw
   case rel => exact ⟨4, 1414742342, by omega, by go_num, by go_num, rfl, hC, hB⟩
   case measure => simp [intOf]
  ·replace hx : x = 1414742342 := hx
   subst hx
   go_wp2_with fail
   go_roundw
   case rel => exact ⟨5, 362174039627, by omega, by go_num, by go_num, rfl, hC, hB⟩
   case measure => simp [intOf]
  ·replace hx : x = 362174039627 := hx
   subst hx
   go_wp2_with fail
   go_roundw
   case rel => exact ⟨6, 92716554144579, by omega, by go_num, by go_num, rfl, hC, hB⟩
   case measure => simp [intOf]
  ·replace hx : x = 92716554144579 := hx
   subst hx
   go_wp2_with fail
   go_roundw
   case rel => exact ⟨7, 23735437861012303, by omega, by go_num, by go_num, rfl, hC, hB⟩
   case measure => simp [intOf]
  ·replace hx : x = 23735437861012303 := hx
   subst hx
   go_wp2_with fail
   go_roundw
   case rel => exact ⟨8, 6076272092419149644, by omega, by go_num, by go_num, rfl, hC, hB⟩
   case measure => simp [intOf]
  ·replace hx : x = 6076272092419149644 := hx
   subst hx
   have hd1 := hB.drew
   obtain ⟨k0, k1⟩ := id hC
   go_wp2_with fail
   refine wp_region_held_drew (S := (fun w' => w'.cell? ⟨w.heap.size, 0, none⟩ = some (.int .i64 W) ∧ w'.cell? ⟨w.heap.size, 1, none⟩ = some (.int .i64 L) ∧ Below w.heap.size w w')) (by kernel_rfl) ?_ (fun hHeld => ?_)
   ·(try dsimp only)
    first | exact ⟨k0, k1, hd1⟩ | exact ⟨cellK hHeld.1 hb, cellK hHeld.2.1 hb, hHeld.2.2.trans (hb.mono hHeld.2.2.size)⟩ | exact ⟨cellK hHeld.1 hb9, cellK hHeld.2.1 hb9, hHeld.2.2.trans (hb9.mono hHeld.2.2.size)⟩
   refine takeQ 0 ?_
   refine takeQ 1 ?_
   refine takeQ 2 ?_
   refine takeQ 3 ?_
   refine takeQ 4 ?_
   refine takeQ 5 ?_
   refine takeQ 6 ?_
   refine takeQ 7 ?_
   refine oneL 8 rfl (by kernel_rfl) (fun K hK => ?_)
   go_simp
   (go_at_call 57; (with_reducible refine (hCh.out _).mono ?_); rintro e w8 ⟨rfl, hb⟩)
   refine hK.out _ _ ?_ (fun hHeld2 => ?_)
   ·(try dsimp only)
    first | exact ⟨k0, k1, hd1⟩ | exact ⟨cellK hHeld.1 hb, cellK hHeld.2.1 hb, hHeld.2.2.trans (hb.mono hHeld.2.2.size)⟩ | exact ⟨cellK hHeld.1 hb9, cellK hHeld.2.1 hb9, hHeld.2.2.trans (hb9.mono hHeld.2.2.size)⟩
   clear hK K hHeld
   have hHeld := hHeld2
   clear hHeld2
   try simp only [Act.put,sA,sB,sC]
   refine takeQ 9 ?_
   refine oneL 10 rfl (by kernel_rfl) (fun K hK => ?_)
   go_simp
   (have hR7 : Rw (w8.alloc (.cells #[.int .u64 6076272092419149644, .int .u64 1, .int .u64 W, .int .u64 L, .int .u64 G, .int .u64 0, .int .u64 0] 25)) w8.heap.size (headL W L G) := heap_alloc_new w8 _; have hs8 : w.heap.size ≤ w8.heap.size := hHeld.2.2.size; have hb9 := bZ w8 (.cells #[.int .u64 6076272092419149644, .int .u64 1, .int .u64 W, .int .u64 L, .int .u64 G, .int .u64 0, .int .u64 0] 25))
   refine hK.out _ _ ?_ (fun hHeld2 => ?_)
   ·(try dsimp only)
    first | exact ⟨k0, k1, hd1⟩ | exact ⟨cellK hHeld.1 hb, cellK hHeld.2.1 hb, hHeld.2.2.trans (hb.mono hHeld.2.2.size)⟩ | exact ⟨cellK hHeld.1 hb9, cellK hHeld.2.1 hb9, hHeld.2.2.trans (hb9.mono hHeld.2.2.size)⟩
   clear hK K hHeld
   have hHeld := hHeld2
   clear hHeld2
   try simp only [Act.put,sA,sB,sC]
   refine takeQ 11 ?_
   refine wpAnyH_done (by kernel_rfl) ?_ _
   have hB9 : Below w.heap.size w (w8.alloc (.cells #[.int .u64 6076272092419149644, .int .u64 1, .int .u64 W, .int .u64 L, .int .u64 G, .int .u64 0, .int .u64 0] 25)) := hHeld.2.2
   have hO := lh (refOf_any (.slice (some ⟨w8.heap.size, 0, none⟩) 7 7) (headL W L G) (w8.alloc (.cells #[.int .u64 6076272092419149644, .int .u64 1, .int .u64 W, .int .u64 L, .int .u64 G, .int .u64 0, .int .u64 0] 25)) hWL (by simp [headL]) hR7.sl)
   clear hHeld hC hB hd1 hR hCh
   go_wp2_with fail
   refine hO.out.mono ?_
   rintro e w10 ⟨rfl, hb10⟩
   have hR10 : Rw w10 w8.heap.size (headL W L G) := hR7.keep hb10 (by simp)
   have hR11 : Rw (w10.alloc (.cells #[.int .u64 (moreN 0 (headL W L G) : Nat)] 25)) w8.heap.size (headL W L G) := hR10.keep ((Below.refl _ _).alloc (Nat.le_refl w10.heap.size) (.cells #[.int .u64 (moreN 0 (headL W L G) : Nat)] 25)) hR10.lt
   obtain ⟨v11, w11, hrun, hS11, _, hb11⟩ := append_sum (m := moreN 0 (headL W L G)) (gb := w10.heap.size) (hR11.own (by simp [headL])) rfl (by simp [go_sem]) (Nat.le_of_lt hR11.lt) (by simp [headL]) (by simp [headL])
   have hB10 := hB9.trans (hb10.mono hB9.size)
   have hB11 : Below w.heap.size w w11 := (hB10.alloc (by have := hB10.size; omega) (.cells #[.int .u64 (moreN 0 (headL W L G) : Nat)] 25)).trans (hb11.mono hs8)
   have hm := moreN_lt 0 (headL W L G)
   have f5 : IntKind.u64.wrap (moreN 0 (headL W L G) : Nat) = ((moreN 0 (headL W L G) : Nat) : Int) := by rw [IntKind.wrap_u64]; omega
   have hrun' : (Builtin.append_ #[23, 23] 23 #[.slice (some ⟨w8.heap.size, 0, none⟩) 7 7, .slice (some ⟨w10.heap.size, 0, none⟩) 1 1]).run Tryz.prog (w10.alloc (.cells #[.int .u64 (moreN 0 (headL W L G) : Nat)] 25)) = .ok v11 w11 := hrun
   clear hrun hR11 hR10 hR7 hb10 hb11 hB10 hB9 hO
   generalize hmm : moreN 0 (headL W L G) = m at *
   replace hmm := lh hmm
   go_wp2_with (at_builtin; refine Lib.wpList_append_run _ rfl _ _ _ _ rfl _ _ rfl rfl _ _ hrun' ?_)
   go_ret2
   exact ⟨_, rfl, by rw [headW, hmm.out]; exact hS11, hB11⟩
theorem renc_f (W L : Int) (w : World) (h : gOk W L = false) :
 Calls Tryz.prog 26 #[.agg #[.int .i64 W, .int .i64 L]] w fun e w' => e = .returned (.tuple #[.slice none 0 0, .int .i64 1]) ∧ Below w.heap.size w w' := by
 have hR := lh (fun w => refRight_f W L w h)
 replace h := lh h
 go_enter Tryz.func26, Tryz.ntmps26
 go_wp2_with fail
 refine (hR.out _).mono ?_
 rintro e w1 ⟨rfl, hb1⟩
 have hB1 : Below w.heap.size w w1 := (bZ _ _).trans (hb1.mono (by simp))
 go_wp2_with fail
 go_ret2
 exact ⟨rfl, hB1⟩
end Go.Proofs.YtkdhdibjbabgfaaGreatDoor
end
