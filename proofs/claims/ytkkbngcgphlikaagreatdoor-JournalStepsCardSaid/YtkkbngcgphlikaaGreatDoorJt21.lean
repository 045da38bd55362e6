/-
  Part of the proof of JournalSteps.
-/
import Derived.Test.YtkkbngcgphlikaaGreatDoorJt20
import Derived.Test.YtkkbngcgphlikaaGreatDoorJt0
set_option maxRecDepth 10000
set_option maxHeartbeats 4000000
set_option linter.unusedVariables false
set_option linter.unusedSimpArgs false
section
namespace Go.Proofs.YtkkbngcgphlikaaGreatDoor
open Go.RowKit
theorem part_at (w : World) (xs : Array Value) (i : Nat) (x : Int) (h : xs[i]? = some (.int .u64 x)) : (part 40 xs i).run Tryz.prog w = .ok (.int .u64 x) w := by
 have ht : Tryz.prog.underlying 40 = some (.int .u64) := Tryz.underlying40
 unfold part
 simp [run_underlying ht, h]
theorem eqItem (w : World) (d i : Nat) (xs ys : Array Value) (is : List Nat) (x y : Int) (hx : xs[i]? = some (.int .u64 x)) (hy : ys[i]? = some (.int .u64 y)) :
 (Op.eqItems (d + 1) 40 1 xs ys (i :: is)).run Tryz.prog w = if x = y then (Op.eqItems (d + 1) 40 1 xs ys is).run Tryz.prog w else .ok false w := by
 have ht : Tryz.prog.underlying 40 = some (.int .u64) := Tryz.underlying40
 simp only [Op.eqItems, Sem.run_bind, Nat.mul_one, part_at w xs i x hx, part_at w ys i y hy, Result.andThen_ok, run_equalIn_int w d _ _ _ x y ht]
 by_cases h : x = y
 ·simp [h]
 have : (x == y) = false := by rw [beq_eq_false_iff_ne]; exact h
 simp [h, this]
theorem eq8 (w : World) (x0 x1 x2 x3 x4 x5 x6 x7 y0 y1 y2 y3 y4 y5 y6 y7 : Nat) :
 (Op.equalIn 10000 171 (.agg #[.int .u64 x0, .int .u64 x1, .int .u64 x2, .int .u64 x3, .int .u64 x4, .int .u64 x5, .int .u64 x6, .int .u64 x7]) (.agg #[.int .u64 y0, .int .u64 y1, .int .u64 y2, .int .u64 y3, .int .u64 y4, .int .u64 y5, .int .u64 y6, .int .u64 y7])).run Tryz.prog w
   = .ok (decide ([x0, x1, x2, x3, x4, x5, x6, x7] = [y0, y1, y2, y3, y4, y5, y6, y7])) w := by
 obtain ⟨i0, hi, hz0, hz1, hz2⟩ := info_parts infoU64
 have hu : Tryz.prog.underlying 171 = some (.array 8 40) := Tryz.underlying171
 have hc : Tryz.prog.cellsOf 40 = 1 := by unfold Program.cellsOf; simp [hi, hz1]
 rw [run_equalIn_array w 9999 _ _ hu hi, hc, show List.range 8 = [0, 1, 2, 3, 4, 5, 6, 7] by decide]
 rw [eqItem w 9998 0 _ _ _ x0 y0 rfl rfl, eqItem w 9998 1 _ _ _ x1 y1 rfl rfl, eqItem w 9998 2 _ _ _ x2 y2 rfl rfl, eqItem w 9998 3 _ _ _ x3 y3 rfl rfl, eqItem w 9998 4 _ _ _ x4 y4 rfl rfl, eqItem w 9998 5 _ _ _ x5 y5 rfl rfl, eqItem w 9998 6 _ _ _ x6 y6 rfl rfl, eqItem w 9998 7 _ _ _ x7 y7 rfl rfl]
 simp only [Op.eqItems, Sem.run_pure, Int.ofNat_inj]
 by_cases h0 : x0 = y0 <;> by_cases h1 : x1 = y1 <;> by_cases h2 : x2 = y2 <;> by_cases h3 : x3 = y3 <;> by_cases h4 : x4 = y4 <;> by_cases h5 : x5 = y5 <;> by_cases h6 : x6 = y6 <;> by_cases h7 : x7 = y7 <;> simp [h0, h1, h2, h3, h4, h5, h6, h7]
end Go.Proofs.YtkkbngcgphlikaaGreatDoor
end
section
namespace Go.Proofs.YtkkbngcgphlikaaGreatDoor
open Go.RowKit
def headW (W L G : Nat) : List Nat := headL W L G ++ [moreN 0 (headL W L G)]
theorem take8 (l : List Nat) (h : 8 ≤ l.length) : l.take 8 = [l.getD 0 0, l.getD 1 0, l.getD 2 0, l.getD 3 0, l.getD 4 0, l.getD 5 0, l.getD 6 0, l.getD 7 0] := by
 match l, h with
 | a :: b :: c :: d :: e :: f :: g :: i :: r, _ => simp
def decR (N L : Nat) (b : Bool) : Value := match b with
 | true => .tuple #[.agg #[.int .i64 N, .int .i64 L], .int .i64 0]
 | false => .tuple #[.agg #[.int .i64 0, .int .i64 0], .int .i64 7]
theorem dec_ok (v : Value) (l : List Nat) (L G N : Nat) (w : World) (hn : l.length = N) (h8 : 8 ≤ N) (hL : l.getD 3 0 = L) (hG : gN N L = (G : Int)) (hg : gOk N L = true) (hv : SL w v l) :
 Calls Tryz.prog 61 #[v] w fun e w' => e = .returned (decR N L (decide (l.take 8 = headW N L G))) ∧ Below w.heap.size w w' := by
 obtain ⟨M, hM⟩ : ∃ M, l.length = M + 1 := ⟨l.length - 1, by omega⟩
 have hS := lh hv
 obtain ⟨g, o, p, rfl, hgs, hp, hc⟩ := hv.pos hM
 rw [← hM, hn] at hS hp hc ⊢
 obtain ⟨h1, h2, h3, h4⟩ := gOk_t hg
 have c3 := hc 3 (by omega)
 rw [hL] at c3
 have hE := lh (fun w => senc_t N L G w hg hG)
 have f1 : IntKind.i64.wrap (L : Int) = (L : Int) := by rw [IntKind.wrap_i64]; omega
 have f2 : ¬ ((N : Int) < 8) := by omega
 have f3 : (3 : Int) < (N : Int) := by omega
 obtain ⟨x0, hx0⟩ : ∃ x, Hid (l.getD 0 0 = x) := ⟨_, lh rfl⟩
 obtain ⟨x1, hx1⟩ : ∃ x, Hid (l.getD 1 0 = x) := ⟨_, lh rfl⟩
 obtain ⟨x2, hx2⟩ : ∃ x, Hid (l.getD 2 0 = x) := ⟨_, lh rfl⟩
 obtain ⟨x3, hx3⟩ : ∃ x, Hid (l.getD 3 0 = x) := ⟨_, lh rfl⟩
 obtain ⟨x4, hx4⟩ : ∃ x, Hid (l.getD 4 0 = x) := ⟨_, lh rfl⟩
 obtain ⟨x5, hx5⟩ : ∃ x, Hid (l.getD 5 0 = x) := ⟨_, lh rfl⟩
 obtain ⟨x6, hx6⟩ : ∃ x, Hid (l.getD 6 0 = x) := ⟨_, lh rfl⟩
 obtain ⟨x7, hx7⟩ : ∃ x, Hid (l.getD 7 0 = x) := ⟨_, lh rfl⟩
 have hP := lh (fun (w1 : World) (hb : Below w.heap.size w w1) => parts_x _ l w1 x0 x1 x2 x3 x4 x5 x6 x7 hx0.out hx1.out hx2.out hx3.out hx4.out hx5.out hx6.out hx7.out (by omega) (hS.out.keep hb))
 replace hn := lh hn
 replace hL := lh hL
 replace hM := lh hM
 replace hG := lh hG
 replace hg := lh hg
 clear hc
 go_enter Tryz.func61, Tryz.ntmps61
 go_wp2_with fail
 refine (hE.out _).mono ?_
 rintro e w2 ⟨ge, rfl, hge, hR, hb2⟩
 have hB2 : Below w.heap.size w w2 := ((bZ _ _).alloc (by simp) _).trans (hb2.mono (by simp; omega))
 have kk := ((C2.new w (.int .i64 0) (.int .i64 0) 37).alloc (.cells #[.int .i64 N, .int .i64 L] 37)).keep hb2
 have ff := ((F2.new w (.int .i64 0) (.int .i64 0) 37).alloc (by simp) (.cells #[.int .i64 N, .int .i64 L] 37)).keep (by simp; omega) hb2
 have jj := (C2.new (w.alloc (.cells #[.int .i64 0, .int .i64 0] 37)) (.int .i64 N) (.int .i64 L) 37).keep hb2
 simp only [World.size_alloc] at jj
 go_wp2_with fail
 refine (hP.out _ hB2).mono ?_
 rintro e w3 ⟨rfl, hb3⟩
 have hB3 := hB2.trans (hb3.mono hB2.size)
 replace ff := ff.keep kk.lt hb3
 replace kk := kk.keep hb3
 replace jj := jj.keep hb3
 go_wp2_with fail
 generalize hwl : headL N L G ++ [moreN 0 (headL N L G)] = wl at *
 replace hwl := lh hwl
 obtain ⟨y0, hy0⟩ : ∃ x, Hid (wl.getD 0 0 = x) := ⟨_, lh rfl⟩
 obtain ⟨y1, hy1⟩ : ∃ x, Hid (wl.getD 1 0 = x) := ⟨_, lh rfl⟩
 obtain ⟨y2, hy2⟩ : ∃ x, Hid (wl.getD 2 0 = x) := ⟨_, lh rfl⟩
 obtain ⟨y3, hy3⟩ : ∃ x, Hid (wl.getD 3 0 = x) := ⟨_, lh rfl⟩
 obtain ⟨y4, hy4⟩ : ∃ x, Hid (wl.getD 4 0 = x) := ⟨_, lh rfl⟩
 obtain ⟨y5, hy5⟩ : ∃ x, Hid (wl.getD 5 0 = x) := ⟨_, lh rfl⟩
 obtain ⟨y6, hy6⟩ : ∃ x, Hid (wl.getD 6 0 = x) := ⟨_, lh rfl⟩
 obtain ⟨y7, hy7⟩ : ∃ x, Hid (wl.getD 7 0 = x) := ⟨_, lh rfl⟩
 have hl8 : wl.length = 8 := by rw [← hwl.out]; simp [headL]
 have hSw := hR.sl.keep hb3
 rw [hl8] at hSw
 have hQ := parts_x (.slice (some ⟨ge, 0, none⟩) 8 8) wl w3 y0 y1 y2 y3 y4 y5 y6 y7 hy0.out hy1.out hy2.out hy3.out hy4.out hy5.out hy6.out hy7.out (by omega) hSw
 refine hQ.mono ?_
 rintro e w4 ⟨rfl, hb4⟩
 have hB4 := hB3.trans (hb4.mono hB3.size)
 replace ff := ff.keep kk.lt hb4
 replace kk := kk.keep hb4
 replace jj := jj.keep hb4
 clear hR hSw hb2 hb3 hb4 hB2 hB3 hQ
 obtain ⟨k0, k1⟩ := id kk
 obtain ⟨f0, f1⟩ := id ff
 obtain ⟨j0, j1⟩ := id jj
 have hT : l.take 8 = [x0, x1, x2, x3, x4, x5, x6, x7] := by rw [take8 l (by have := hn.out; omega), hx0.out, hx1.out, hx2.out, hx3.out, hx4.out, hx5.out, hx6.out, hx7.out]
 have hW : headW N L G = [y0, y1, y2, y3, y4, y5, y6, y7] := by
  rw [show headW N L G = wl from hwl.out, ← hy0.out, ← hy1.out, ← hy2.out, ← hy3.out, ← hy4.out, ← hy5.out, ← hy6.out, ← hy7.out, ← take8 wl (by omega), List.take_of_length_le (by omega)]
 clear hx0 hx1 hx2 hx3 hx4 hx5 hx6 hx7 hy0 hy1 hy2 hy3 hy4 hy5 hy6 hy7 hP hE hv hS
 replace hT := lh hT
 replace hW := lh hW
 go_wp2_with fail
 rw [eq8]
 by_cases hE : [x0, x1, x2, x3, x4, x5, x6, x7] = [y0, y1, y2, y3, y4, y5, y6, y7]
 ·rw [decide_eq_true hE]
  replace hE := lh hE
  simp only [Result.andThen, Bool.not_true, Bool.not_false]
  go_wp2_with fail
  (try simp only [Exit.inBlock, Exit.then])
  obtain ⟨w7, hw7, hC7, hb7⟩ := st2_ex kk (.int .i64 N) (.int .i64 L)
  rw [← hw7]
  refine bodyPost_ret (v := .tuple #[.agg #[.int .i64 N, .int .i64 L], .int .i64 0]) ?_ rfl ⟨by rw [hT.out, hW.out, decide_eq_true hE.out]; rfl, hB4.trans hb7⟩
  rw [results_cell_tmp rfl]
  obtain ⟨t0, t1⟩ := hC7
  clear hw7 hb7 kk jj ff k0 k1 f0 f1 j0 j1
  go_simp
 rw [decide_eq_false hE]
 replace hE := lh hE
 simp only [Result.andThen, Bool.not_true, Bool.not_false]
 go_wp2_with fail
 (try simp only [Exit.inBlock, Exit.then])
 obtain ⟨w7, hw7, hC7, hb7⟩ := st2_ex kk (.int .i64 0) (.int .i64 0)
 rw [← hw7]
 refine bodyPost_ret (v := .tuple #[.agg #[.int .i64 0, .int .i64 0], .int .i64 7]) ?_ rfl ⟨by rw [hT.out, hW.out, decide_eq_false hE.out]; rfl, hB4.trans hb7⟩
 rw [results_cell_tmp rfl]
 obtain ⟨t0, t1⟩ := hC7
 clear hw7 hb7 kk jj ff k0 k1 f0 f1 j0 j1
 go_simp
theorem gOk_wrap (N L : Nat) (hL : L < 18446744073709551616) (h : gOk N L = false) : gOk N (IntKind.i64.wrap L) = false := by
 have h1 := gOk_f h
 refine decide_eq_false (fun h2 => h1 ?_)
 rw [IntKind.wrap_i64] at h2
 omega
theorem dec_no_super (v : Value) (l : List Nat) (L N : Nat) (w : World) (hn : l.length = N) (hL : l.getD 3 0 = L) (hl : L < 18446744073709551616) (hg : gOk N L = false) (hv : SL w v l) :
 Calls Tryz.prog 61 #[v] w fun e w' => e = .returned (decR N L false) ∧ Below w.heap.size w w' := by
 by_cases h8 : 8 ≤ N
 rotate_left
 ·obtain ⟨sp, cap, rfl⟩ := hv.form
  rw [hn]
  have f2 : (N : Int) < 8 := by omega
  clear hL hn hv hg
  have kk := C2.new w (.int .i64 0) (.int .i64 0) 37
  go_enter Tryz.func61, Tryz.ntmps61
  go_wp2_with fail
  refine bodyPost_ret (v := .tuple #[.agg #[.int .i64 0, .int .i64 0], .int .i64 7]) ?_ rfl ⟨rfl, bZ _ _⟩
  rw [results_cell_tmp rfl]
  obtain ⟨t0, t1⟩ := kk
  go_simp
 obtain ⟨M, hM⟩ : ∃ M, l.length = M + 1 := ⟨l.length - 1, by omega⟩
 obtain ⟨g, o, p, rfl, hgs, hp, hc⟩ := hv.pos hM
 rw [← hM, hn] at hp hc ⊢
 have c3 := hc 3 (by omega)
 rw [hL] at c3
 have hE := lh (fun w => senc_f N (IntKind.i64.wrap L) w (gOk_wrap N L hl hg))
 generalize f1 : IntKind.i64.wrap (L : Int) = J at *
 have f2 : ¬ ((N : Int) < 8) := by omega
 have f3 : (3 : Int) < (N : Int) := by omega
 clear hc hL hn hM hv hg
 go_enter Tryz.func61, Tryz.ntmps61
 go_wp2_with fail
 refine (hE.out _).mono ?_
 rintro e w2 ⟨rfl, hb2⟩
 have hB2 : Below w.heap.size w w2 := ((bZ _ _).alloc (by simp) _).trans (hb2.mono (by simp; omega))
 have kk := ((C2.new w (.int .i64 0) (.int .i64 0) 37).alloc (.cells #[.int .i64 N, .int .i64 J] 37)).keep hb2
 have ff := ((F2.new w (.int .i64 0) (.int .i64 0) 37).alloc (by simp) (.cells #[.int .i64 N, .int .i64 J] 37)).keep (by simp; omega) hb2
 obtain ⟨k0, k1⟩ := id kk
 obtain ⟨f0, f1⟩ := id ff
 clear hE hb2
 go_wp2_with fail
 (try simp only [Exit.inBlock, Exit.then])
 obtain ⟨w7, hw7, hC7, hb7⟩ := st2_ex kk (.int .i64 0) (.int .i64 0)
 rw [← hw7]
 refine bodyPost_ret (v := .tuple #[.agg #[.int .i64 0, .int .i64 0], .int .i64 7]) ?_ rfl ⟨rfl, hB2.trans hb7⟩
 rw [results_cell_tmp rfl]
 obtain ⟨t0, t1⟩ := hC7
 clear hw7 hb7 kk ff k0 k1 f0 f1
 go_simp
def sOk (l : List Nat) : Bool := decide (8 ≤ l.length) && (gOk (l.length : Nat) (l.getD 3 0 : Nat) && decide (l.take 8 = headW l.length (l.getD 3 0) (gNat l.length (l.getD 3 0))))
theorem dec_any (v : Value) (l : List Nat) (w : World) (hl : WL l) (hv : SL w v l) :
 Calls Tryz.prog 61 #[v] w fun e w' => e = .returned (decR l.length (l.getD 3 0) (sOk l)) ∧ Below w.heap.size w w' := by
 have hL : l.getD 3 0 < 18446744073709551616 := by
  by_cases h : 3 < l.length
  ·exact hl.at 3 h
  rw [List.getD_eq_getElem?_getD, List.getElem?_eq_none (by omega)]; decide
 cases hg : gOk (l.length : Nat) (l.getD 3 0 : Nat) with
 | false =>
   rw [show sOk l = false by unfold sOk; rw [hg]; simp]
   exact dec_no_super v l _ _ w rfl rfl hL hg hv
 | true =>
   have := gOk_t hg
   rw [show sOk l = decide (l.take 8 = headW l.length (l.getD 3 0) (gNat l.length (l.getD 3 0))) by unfold sOk; rw [hg, decide_eq_true (show 8 ≤ l.length by omega)]; rfl]
   exact dec_ok v l _ _ _ w rfl (by omega) rfl (gNat_eq hg) hg hv
end Go.Proofs.YtkkbngcgphlikaaGreatDoor
end
section
namespace Go.Proofs.YtkkbngcgphlikaaGreatDoor
open Go.RowKit
theorem headW_len (W L G : Nat) : (headW W L G).length = 8 := by simp [headW, headL]
end Go.Proofs.YtkkbngcgphlikaaGreatDoor
end
section
namespace Go.Proofs.YtkkbngcgphlikaaGreatDoor
open Go.RowKit
def nameW (k : Nat) : Nat := [0, 84, 21587, 5526337, 1414742342, 362174039627, 92716554144579, 23735437861012303, 6076272092419149644].getD k 0
theorem renc_t (W L G : Nat) (w : World) (h : gOk W L = true) (hG : gN W L = (G : Int)) :
 Calls Tryz.prog 77 #[.agg #[.int .i64 W, .int .i64 L]] w fun e w' => ∃ v, e = .returned (.tuple #[v, .int .i64 0]) ∧ SL w' v (headW W L G) ∧ Below w.heap.size w w' := by
 obtain ⟨h1, h2, h3, h4⟩ := gOk_t h
 obtain ⟨n1, n2, n3, n4⟩ := gN_bd h
 rw [hG] at n1 n2 n3 n4
 have hR := lh (fun w => refRight_t W L w h)
 have hCh := lh (fun w => show Calls Tryz.prog 91 #[.agg #[.int .i64 W, .int .i64 L]] w fun e w' => e = .returned (.int .i64 G) ∧ Below w.heap.size w w' from by
  have := refChunks_t W L w h
  rwa [hG] at this)
 have hWL : WL (headL W L G) := head_WL (by omega) (by omega) (by omega)
 replace hG := lh hG
 replace h := lh h
 have f1 : IntKind.u64.wrap (W : Int) = (W : Int) := by rw [IntKind.wrap_u64]; omega
 have f2 : IntKind.u64.wrap (L : Int) = (L : Int) := by rw [IntKind.wrap_u64]; omega
 have f3 : IntKind.u64.wrap (G : Int) = (G : Int) := by rw [IntKind.wrap_u64]; omega
 have hC0 := C2.new w (.int .i64 W) (.int .i64 L) 37
 go_enter Tryz.func77, Tryz.ntmps77
 go_wp2_with fail
 refine (hR.out _).mono ?_
 rintro e w1 ⟨rfl, hb1⟩
 have hB1 : Below w.heap.size w w1 := (bZ _ _).trans (hb1.mono (by simp))
 have hC1 := hC0.keep hb1
 clear hC0 hb1
 go_wp2_with fail
 go_loopw [5, 7] (fun a i wr => ∃ k x : Nat, k ≤ 8 ∧ i = .int .i64 k ∧ a = .int .u64 x ∧ x = nameW k ∧ C2 wr w.heap.size (.int .i64 W) (.int .i64 L) ∧ Below w.heap.size w wr) (fun _ i _ => 9 - (intOf i).toNat)
 case atStart => exact ⟨0, 0, by omega, rfl, rfl, rfl, hC1, hB1⟩
 obtain ⟨k, x, hk, rfl, rfl, hx, hC, hB⟩ := hrel
 have hk9 : k = 0 ∨ k = 1 ∨ k = 2 ∨ k = 3 ∨ k = 4 ∨ k = 5 ∨ k = 6 ∨ k = 7 ∨ k = 8 := by omega
 clear hC1 hB1
 rcases hk9 with rfl | rfl | rfl | rfl | rfl | rfl | rfl | rfl | rfl
 ·replace hx : x = 0 := hx
  subst hx
  go_wp2_with fail
  go_roundw
  case rel => exact ⟨1, 84, by omega, by go_num, by go_num, rfl, hC, hB⟩
  simp [intOf]
 ·replace hx : x = 84 := hx
  subst hx
  go_wp2_with fail
  go_roundw
  case rel => exact ⟨2, 21587, by omega, by go_num, by go_num, rfl, hC, hB⟩
  simp [intOf]
 ·replace hx : x = 21587 := hx
  subst hx
  go_wp2_with fail
  go_roundw
  case rel => exact ⟨3, 5526337, by omega, by go_num, by go_num, rfl, hC, hB⟩
  simp [intOf]
 ·replace hx : x = 5526337 := hx
  subst hx
  go_wp2_with fail
  go_roundw
  case rel => exact ⟨4, 1414742342, by omega, by go_num, by go_num, rfl, hC, hB⟩
  simp [intOf]
 ·replace hx : x = 1414742342 := hx
  subst hx
  go_wp2_with fail
  go_roundw
  case rel => exact ⟨5, 362174039627, by omega, by go_num, by go_num, rfl, hC, hB⟩
  simp [intOf]
 ·replace hx : x = 362174039627 := hx
  subst hx
  go_wp2_with fail
  go_roundw
  case rel => exact ⟨6, 92716554144579, by omega, by go_num, by go_num, rfl, hC, hB⟩
  simp [intOf]
 ·replace hx : x = 92716554144579 := hx
  subst hx
  go_wp2_with fail
  go_roundw
  case rel => exact ⟨7, 23735437861012303, by omega, by go_num, by go_num, rfl, hC, hB⟩
  simp [intOf]
 ·replace hx : x = 23735437861012303 := hx
  subst hx
  go_wp2_with fail
  go_roundw
  case rel => exact ⟨8, 6076272092419149644, by omega, by go_num, by go_num, rfl, hC, hB⟩
  simp [intOf]
 replace hx : x = 6076272092419149644 := hx
 subst hx
 have hd1 := hB.drew
 obtain ⟨k0, k1⟩ := id hC
 go_wp2_with fail
 refine wp_region_held_drew (S := (fun w' => w'.cell? ⟨w.heap.size, 0, none⟩ = some (.int .i64 W) ∧ w'.cell? ⟨w.heap.size, 1, none⟩ = some (.int .i64 L) ∧ Below w.heap.size w w')) (by kernel_rfl) ?_ (fun hHeld => ?_)
 ·(try dsimp only)
  first | exact ⟨k0, k1, hd1⟩ | exact ⟨cellK hHeld.1 hb, cellK hHeld.2.1 hb, hHeld.2.2.trans (hb.mono hHeld.2.2.size)⟩ | exact ⟨cellK hHeld.1 hb9, cellK hHeld.2.1 hb9, hHeld.2.2.trans (hb9.mono hHeld.2.2.size)⟩
 refine takeQ 0 ?_
 refine takeQ 1 ?_
 refine takeQ 2 ?_
 refine takeQ 3 ?_
 refine takeQ 4 ?_
 refine takeQ 5 ?_
 refine takeQ 6 ?_
 refine takeQ 7 ?_
 refine oneL 8 rfl (by kernel_rfl) (fun K hK => ?_)
 go_simp
 (go_at_call 91; (with_reducible refine (hCh.out _).mono ?_); rintro e w8 ⟨rfl, hb⟩)
 refine hK.out _ _ ?_ (fun hHeld2 => ?_)
 ·(try dsimp only)
  first | exact ⟨k0, k1, hd1⟩ | exact ⟨cellK hHeld.1 hb, cellK hHeld.2.1 hb, hHeld.2.2.trans (hb.mono hHeld.2.2.size)⟩ | exact ⟨cellK hHeld.1 hb9, cellK hHeld.2.1 hb9, hHeld.2.2.trans (hb9.mono hHeld.2.2.size)⟩
 clear hK K hHeld
 have hHeld := hHeld2
 clear hHeld2
 try simp only [Act.put,sA,sB,sC]
 refine takeQ 9 ?_
 refine oneL 10 rfl (by kernel_rfl) (fun K hK => ?_)
 go_simp
 (have hR7 : Rw (w8.alloc (.cells #[.int .u64 6076272092419149644, .int .u64 1, .int .u64 W, .int .u64 L, .int .u64 G, .int .u64 0, .int .u64 0] 40)) w8.heap.size (headL W L G) := heap_alloc_new w8 _; have hs8 : w.heap.size ≤ w8.heap.size := hHeld.2.2.size; have hb9 := bZ w8 (.cells #[.int .u64 6076272092419149644, .int .u64 1, .int .u64 W, .int .u64 L, .int .u64 G, .int .u64 0, .int .u64 0] 40))
 refine hK.out _ _ ?_ (fun hHeld2 => ?_)
 ·(try dsimp only)
  first | exact ⟨k0, k1, hd1⟩ | exact ⟨cellK hHeld.1 hb, cellK hHeld.2.1 hb, hHeld.2.2.trans (hb.mono hHeld.2.2.size)⟩ | exact ⟨cellK hHeld.1 hb9, cellK hHeld.2.1 hb9, hHeld.2.2.trans (hb9.mono hHeld.2.2.size)⟩
 clear hK K hHeld
 have hHeld := hHeld2
 clear hHeld2
 try simp only [Act.put,sA,sB,sC]
 refine takeQ 11 ?_
 refine wpAnyH_done (by kernel_rfl) ?_ _
 have hB9 : Below w.heap.size w (w8.alloc (.cells #[.int .u64 6076272092419149644, .int .u64 1, .int .u64 W, .int .u64 L, .int .u64 G, .int .u64 0, .int .u64 0] 40)) := hHeld.2.2
 have hO := lh (refOf_any (.slice (some ⟨w8.heap.size, 0, none⟩) 7 7) (headL W L G) (w8.alloc (.cells #[.int .u64 6076272092419149644, .int .u64 1, .int .u64 W, .int .u64 L, .int .u64 G, .int .u64 0, .int .u64 0] 40)) hWL (by simp [headL]) hR7.sl)
 clear hHeld hC hB hd1 hR hCh
 go_wp2_with fail
 refine hO.out.mono ?_
 rintro e w10 ⟨rfl, hb10⟩
 have hR10 : Rw w10 w8.heap.size (headL W L G) := hR7.keep hb10 (by simp)
 have hR11 : Rw (w10.alloc (.cells #[.int .u64 (moreN 0 (headL W L G) : Nat)] 40)) w8.heap.size (headL W L G) := hR10.keep ((Below.refl _ _).alloc (Nat.le_refl w10.heap.size) (.cells #[.int .u64 (moreN 0 (headL W L G) : Nat)] 40)) hR10.lt
 obtain ⟨v11, w11, hrun, hS11, _, hb11⟩ := append_sum (m := moreN 0 (headL W L G)) (gb := w10.heap.size) (hR11.own (by simp [headL])) rfl (by simp [go_sem]) (Nat.le_of_lt hR11.lt) (by simp [headL]) (by simp [headL])
 have hB10 := hB9.trans (hb10.mono hB9.size)
 have hB11 : Below w.heap.size w w11 := (hB10.alloc (by have := hB10.size; omega) (.cells #[.int .u64 (moreN 0 (headL W L G) : Nat)] 40)).trans (hb11.mono hs8)
 have hm := moreN_lt 0 (headL W L G)
 have f5 : IntKind.u64.wrap (moreN 0 (headL W L G) : Nat) = ((moreN 0 (headL W L G) : Nat) : Int) := by rw [IntKind.wrap_u64]; omega
 have hrun' : (Builtin.append_ #[25, 25] 25 #[.slice (some ⟨w8.heap.size, 0, none⟩) 7 7, .slice (some ⟨w10.heap.size, 0, none⟩) 1 1]).run Tryz.prog (w10.alloc (.cells #[.int .u64 (moreN 0 (headL W L G) : Nat)] 40)) = .ok v11 w11 := hrun
 clear hrun hR11 hR10 hR7 hb10 hb11 hB10 hB9 hO
 generalize hmm : moreN 0 (headL W L G) = m at *
 replace hmm := lh hmm
 go_wp2_with (at_builtin; refine Lib.wpList_append_run _ rfl _ _ _ _ rfl _ _ rfl rfl _ _ hrun' ?_)
 go_ret2
 exact ⟨_, rfl, by rw [headW, hmm.out]; exact hS11, hB11⟩
theorem renc_f (W L : Int) (w : World) (h : gOk W L = false) :
 Calls Tryz.prog 77 #[.agg #[.int .i64 W, .int .i64 L]] w fun e w' => e = .returned (.tuple #[.slice none 0 0, .int .i64 1]) ∧ Below w.heap.size w w' := by
 have hR := lh (fun w => refRight_f W L w h)
 replace h := lh h
 go_enter Tryz.func77, Tryz.ntmps77
 go_wp2_with fail
 refine (hR.out _).mono ?_
 rintro e w1 ⟨rfl, hb1⟩
 have hB1 : Below w.heap.size w w1 := (bZ _ _).trans (hb1.mono (by simp))
 go_wp2_with fail
 go_ret2
 exact ⟨rfl, hB1⟩
end Go.Proofs.YtkkbngcgphlikaaGreatDoor
end
section
namespace Go.Proofs.YtkkbngcgphlikaaGreatDoor
open Go.RowKit
def isHead (l : List Nat) (N k : Nat) : Prop := gOk N k = true ∧ l.take 8 = headW N k (gNat N k)
theorem sOk_of {l : List Nat} {N k : Nat} (hn : l.length = N) (h : isHead l N k) : sOk l = true ∧ l.getD 3 0 = k := by
 obtain ⟨h1, h2⟩ := h
 have h4 := gOk_t h1
 have h3 : l.getD 3 0 = k := by
  have : (l.take 8).getD 3 0 = k := by rw [h2]; simp [headW, headL]
  rw [List.getD_eq_getElem?_getD, List.getElem?_take, if_pos (by omega)] at this
  rwa [List.getD_eq_getElem?_getD]
 refine ⟨?_, h3⟩
 unfold sOk
 rw [hn, h3, h1, h2]
 simp; omega
theorem sOk_none {l : List Nat} {N : Nat} (hn : l.length = N) (h : ∀ j, 1 ≤ j → j < 65 → ¬ isHead l N j) : sOk l = false := by
 cases hs : sOk l with
 | false => rfl
 | true =>
   unfold sOk at hs
   rw [hn] at hs
   simp only [Bool.and_eq_true, decide_eq_true_eq] at hs
   have h4 := gOk_t hs.2.1
   exact absurd ⟨hs.2.1, hs.2.2⟩ (h (l.getD 3 0) (by omega) (by omega))
theorem sOk_short {l : List Nat} (h : l.length < 8) : sOk l = false := by
 unfold sOk
 rw [decide_eq_false (by omega)]
 rfl
theorem rdec_short (v : Value) (l : List Nat) (N : Nat) (w : World) (hn : l.length = N) (h8 : N < 8) (hv : SL w v l) :
 Calls Tryz.prog 39 #[v] w fun e w' => e = .returned (.tuple #[.agg #[.int .i64 0, .int .i64 0], .int .i64 7]) ∧ Below w.heap.size w w' := by
 obtain ⟨sp, cap, rfl⟩ := hv.form
 rw [hn]
 have f2 : (N : Int) < 8 := by omega
 clear hn hv
 have kk := C2.new w (.int .i64 0) (.int .i64 0) 37
 have ff := F2.new w (.int .i64 0) (.int .i64 0) 37
 go_enter Tryz.func39, Tryz.ntmps39
 go_wp2_with fail
 go_loopw [4] (fun k wr => k = .int .i64 1 ∧ C2 wr w.heap.size (.int .i64 0) (.int .i64 0) ∧ F2 wr w.heap.size ∧ Below w.heap.size w wr) (fun _ _ => 0)
 case atStart => exact ⟨rfl, kk, ff, bZ _ _⟩
 obtain ⟨rfl, kk, ff, hB⟩ := hrel
 obtain ⟨k0, k1⟩ := id kk
 obtain ⟨f0, f1⟩ := id ff
 go_wp2_with fail
 (try simp only [Exit.inBlock, Exit.then])
 obtain ⟨w7, hw7, hC7, hb7⟩ := st2_ex kk (.int .i64 0) (.int .i64 0)
 rw [← hw7]
 refine bodyPost_ret (v := .tuple #[.agg #[.int .i64 0, .int .i64 0], .int .i64 7]) ?_ rfl ⟨rfl, hB.trans hb7⟩
 rw [results_cell_tmp rfl]
 obtain ⟨t0, t1⟩ := hC7
 clear hw7 hb7 kk ff k0 k1 f0 f1
 go_simp
end Go.Proofs.YtkkbngcgphlikaaGreatDoor
end
section
namespace Go.Proofs.YtkkbngcgphlikaaGreatDoor
open Go.RowKit
theorem take8_eq {l m : List Nat} (hl : 8 ≤ l.length) (hm : m.length = 8) (h : ∀ j, j < 8 → m.getD j 0 = l.getD j 0) : l.take 8 = m := by
 rw [take8 l hl, ← h 0 (by omega), ← h 1 (by omega), ← h 2 (by omega), ← h 3 (by omega), ← h 4 (by omega), ← h 5 (by omega), ← h 6 (by omega), ← h 7 (by omega), ← take8 m (by omega), List.take_of_length_le (by omega)]
theorem take8_at {l m : List Nat} (h : l.take 8 = m) (j : Nat) (hj : j < 8) : m.getD j 0 = l.getD j 0 := by
 rw [← h, List.getD_eq_getElem?_getD, List.getD_eq_getElem?_getD, List.getElem?_take, if_pos hj]
theorem rdec_in (l : List Nat) (N g o p : Nat) (w : World) (hn : l.length = N) (h8 : 8 ≤ N) (hN : N ≤ 1000000) (hg : g < w.heap.size) (hp : N ≤ p) (hc : ∀ i, i < N → w.cell? ⟨g, o + i, none⟩ = some (.int .u64 (l.getD i 0 : Nat))) :
 Calls Tryz.prog 39 #[.slice (some ⟨g, o, none⟩) N p] w fun e w' => e = .returned (decR N (l.getD 3 0) (sOk l)) ∧ Below w.heap.size w w' := by
 have f2 : ¬ ((N : Int) < 8) := by omega
 have f3 : (8 : Int) ≤ (N : Int) := by omega
 have hY := lh (fun k (h : isHead l N k) => show decR N (l.getD 3 0) (sOk l) = .tuple #[.agg #[.int .i64 N, .int .i64 k], .int .i64 0] from by rw [(sOk_of hn h).1, (sOk_of hn h).2]; rfl)
 have hZ := lh (fun (h : ∀ j, 1 ≤ j → j < 65 → ¬ isHead l N j) => show decR N (l.getD 3 0) (sOk l) = .tuple #[.agg #[.int .i64 0, .int .i64 0], .int .i64 7] from by rw [sOk_none hn h]; rfl)
 have hl8 := lh (show 8 ≤ l.length by omega)
 have hC := lh hc
 clear hc
 replace hn := lh hn
 generalize decR N (l.getD 3 0) (sOk l) = R at *
 have kk := C2.new w (.int .i64 0) (.int .i64 0) 37
 have ff := F2.new w (.int .i64 0) (.int .i64 0) 37
 go_enter Tryz.func39, Tryz.ntmps39
 go_wp2_with fail
 go_loopw [4] (fun k wr => ∃ m : Nat, 1 ≤ m ∧ m ≤ 65 ∧ k = .int .i64 m ∧ Hid (∀ j, 1 ≤ j → j < m → ¬ isHead l N j) ∧ C2 wr w.heap.size (.int .i64 0) (.int .i64 0) ∧ F2 wr w.heap.size ∧ Below w.heap.size w wr) (fun k _ => 66 - (intOf k).toNat)
 case atStart => exact ⟨1, by omega, by omega, rfl, (fun j h1 h2 => by omega), kk, ff, bZ _ _⟩
 obtain ⟨m, hm1, hm2, rfl, hF, kk, ff, hB⟩ := hrel
 by_cases hm : m = 65
 ·subst hm
  obtain ⟨k0, k1⟩ := id kk
  obtain ⟨f0, f1⟩ := id ff
  have hR := lh (hZ.out hF.out)
  go_wp2_with fail
  (try simp only [Exit.inBlock, Exit.then])
  obtain ⟨w7, hw7, hC7, hb7⟩ := st2_ex kk (.int .i64 0) (.int .i64 0)
  rw [← hw7]
  refine bodyPost_ret (v := .tuple #[.agg #[.int .i64 0, .int .i64 0], .int .i64 7]) ?_ rfl ⟨by rw [hR.out], hB.trans hb7⟩
  rw [results_cell_tmp rfl]
  obtain ⟨t0, t1⟩ := hC7
  clear hw7 hb7 kk ff k0 k1 f0 f1
  go_simp
 have hm3 : (m : Int) ≤ 64 := by omega
 have p1 := C2.new wr (.int .i64 N) (.int .i64 m) 37
 have hB1 : Below w.heap.size w (wr.alloc (.cells #[.int .i64 N, .int .i64 m] 37)) := hB.alloc hB.size _
 replace ff := ff.alloc kk.lt (.cells #[.int .i64 N, .int .i64 m] 37)
 replace kk := kk.alloc (.cells #[.int .i64 N, .int .i64 m] 37)
 cases hg2 : gOk N m with
 | false =>
   have hE := lh (fun w => renc_f N m w hg2)
   have hF2 : Hid (∀ j, 1 ≤ j → j < m + 1 → ¬ isHead l N j) := fun j h1 h2 hh => by
    by_cases e : j = m
    ·subst e; have := hh.1; rw [hg2] at this; exact absurd this (by simp)
    exact hF.out j h1 (by omega) hh
   replace hg2 := lh hg2
   obtain ⟨a0, a1⟩ := id p1
   go_wp2_with fail
   refine (hE.out _).mono ?_
   rintro e w5 ⟨rfl, hb5⟩
   have hB5 := hB1.trans (hb5.mono hB1.size)
   replace ff := ff.keep kk.lt hb5
   replace kk := kk.keep hb5
   clear hb5 hB1 p1 a0 a1
   go_wp2_with fail
   go_loopw [8, 9] (fun s i wq => s = .bool false ∧ i = .int .i64 0 ∧ C2 wq w.heap.size (.int .i64 0) (.int .i64 0) ∧ F2 wq w.heap.size ∧ Below w.heap.size w wq) (fun _ _ _ => 0)
   case atStart => exact ⟨rfl, rfl, kk, ff, hB5⟩
   obtain ⟨rfl, rfl, kk, ff, hB6⟩ := hrel
   go_wp2_with fail
   exact ⟨⟨m + 1, by omega, by omega, by go_num, hF2, kk, ff, hB6⟩, by simp [intOf]; omega⟩
 | true =>
   have hE := lh (fun w => renc_t N m (gNat N m) w hg2 (gNat_eq hg2))
   have hH := lh (fun (h : l.take 8 = headW N m (gNat N m)) => show isHead l N m from ⟨hg2, h⟩)
   have hF2 := lh (fun (h : ¬ l.take 8 = headW N m (gNat N m)) => show ∀ j, 1 ≤ j → j < m + 1 → ¬ isHead l N j from fun j h1 h2 hh => by
    by_cases e : j = m
    ·subst e; exact h hh.2
    exact hF.out j h1 (by omega) hh)
   replace hg2 := lh hg2
   obtain ⟨a0, a1⟩ := id p1
   go_wp2_with fail
   refine (hE.out _).mono ?_
   rintro e w5 ⟨v, rfl, hS5, hb5⟩
   have hB5 := hB1.trans (hb5.mono hB1.size)
   replace ff := ff.keep kk.lt hb5
   replace kk := kk.keep hb5
   have p5 := p1.keep hb5
   have hgw := Nat.lt_of_lt_of_le hg hB5.size
   clear hb5 hB1 p1 a0 a1 hE
   have hhl := headW_len N m (gNat N m)
   generalize headW N m (gNat N m) = hw at *
   obtain ⟨gh, oh, ph, rfl, hgh, hph, hch⟩ := hS5.pos (n := 7) (by omega)
   replace hhl := lh hhl
   replace hch := lh hch
   clear hS5
   go_wp2_with fail
   go_loopw [8, 9] (fun s i wq => ∃ j : Nat, j ≤ 8 ∧ i = .int .i64 j ∧ ((s = .bool true ∧ Hid (∀ i, i < j → hw.getD i 0 = l.getD i 0)) ∨ (s = .bool false ∧ Hid (¬ l.take 8 = hw))) ∧ C2 wq wr.heap.size (.int .i64 N) (.int .i64 m) ∧ C2 wq w.heap.size (.int .i64 0) (.int .i64 0) ∧ F2 wq w.heap.size ∧ Below w5.heap.size w5 wq) (fun _ i _ => 9 - (intOf i).toNat)
   case atStart => exact ⟨0, by omega, rfl, .inl ⟨rfl, fun i hi => by omega⟩, p5, kk, ff, Below.refl _ _⟩
   obtain ⟨j, hj, rfl, hs, p6, kk, ff, hb6⟩ := hrel
   have hB6 := hB5.trans (hb6.mono hB5.size)
   rcases hs with ⟨rfl, hq⟩ | ⟨rfl, hq⟩
   rotate_left
   ·have hT := lh (hF2.out hq.out)
    go_wp2_with fail
    exact ⟨⟨m + 1, by omega, by omega, by go_num, hT, kk, ff, hB6⟩, by simp [intOf]; omega⟩
   by_cases hj8 : j = 8
   ·subst hj8
    have hR := lh (hY.out m (hH.out (take8_eq hl8.out hhl.out hq.out)))
    obtain ⟨k0, k1⟩ := id kk
    obtain ⟨f0, f1⟩ := id ff
    obtain ⟨a0, a1⟩ := id p6
    go_wp2_with fail
    (try simp only [Exit.inBlock, Exit.then])
    obtain ⟨w7, hw7, hC7, hb7⟩ := st2_ex kk (.int .i64 N) (.int .i64 m)
    rw [← hw7]
    refine bodyPost_ret (v := .tuple #[.agg #[.int .i64 N, .int .i64 m], .int .i64 0]) ?_ rfl ⟨by rw [hR.out], hB6.trans hb7⟩
    rw [results_cell_tmp rfl]
    obtain ⟨t0, t1⟩ := hC7
    clear hw7 hb7 kk ff k0 k1 f0 f1 p6 a0 a1
    go_simp
   have hlt : (j : Int) < 8 := by omega
   have c1 := ((bcell hB6).1 g (o + j) hg).trans (hC.out j (by omega))
   have c2 := ((bcell hb6).1 gh (oh + j) hgh).trans (hch.out j (by omega))
   by_cases hxy : hw.getD j 0 = l.getD j 0
   ·have hE2 : Hid (∀ i, i < j + 1 → hw.getD i 0 = l.getD i 0) := fun i hi => by
     by_cases e : i = j
     ·subst e; exact hxy
     exact hq.out i (by omega)
    rw [hxy] at c2
    generalize l.getD j 0 = x at *
    have e1 : ((x : Int) == (x : Int)) = true := by simp
    clear hxy
    go_wp2_with fail
    go_region
    all_goals (try go_wp2_with fail)
    go_roundw
    case rel => exact ⟨j + 1, by omega, by go_num, .inl ⟨rfl, hE2⟩, p6.drew, kk.drew, ff.drew, hb6.drew⟩
    simp [intOf]; omega
   have hE2 : Hid (¬ l.take 8 = hw) := fun h => hxy (take8_at h j (by omega))
   have e1 : ((hw.getD j 0 : Nat) : Int) ≠ ((l.getD j 0 : Nat) : Int) := by omega
   generalize hw.getD j 0 = x at *
   generalize l.getD j 0 = y at *
   have e2 : ((x : Int) == (y : Int)) = false := by rw [beq_eq_false_iff_ne]; exact e1
   clear hxy
   go_wp2_with fail
   go_region
   all_goals (try go_wp2_with fail)
   go_roundw
   case rel => exact ⟨j + 1, by omega, by go_num, .inr ⟨rfl, hE2⟩, p6.drew, kk.drew, ff.drew, hb6.drew⟩
   simp [intOf]; omega
end Go.Proofs.YtkkbngcgphlikaaGreatDoor
end
section
namespace Go.Proofs.YtkkbngcgphlikaaGreatDoor
open Go.RowKit
theorem rdec_any (v : Value) (l : List Nat) (N : Nat) (w : World) (hn : l.length = N) (hN : N ≤ 1000000) (hv : SL w v l) :
 Calls Tryz.prog 39 #[v] w fun e w' => e = .returned (decR N (l.getD 3 0) (sOk l)) ∧ Below w.heap.size w w' := by
 by_cases h8 : N < 8
 ·have := rdec_short v l N w hn h8 hv
  rw [sOk_short (by omega)]
  exact this
 obtain ⟨M, hM⟩ : ∃ M, l.length = M + 1 := ⟨l.length - 1, by omega⟩
 obtain ⟨g, o, p, rfl, hg, hp, hc⟩ := hv.pos hM
 rw [← hM, hn] at hp hc ⊢
 exact rdec_in l N g o p w hn (by omega) hN hg hp hc
end Go.Proofs.YtkkbngcgphlikaaGreatDoor
end
section
namespace Go.Proofs.YtkkbngcgphlikaaGreatDoor
open Go.RowKit Go.ChangeShapes Go.WideShapes Go.Deep
theorem KL.nil (w : World) (A : Option Addr) (cap : Nat) : KL .u64 w (.slice A 0 cap) [] := ⟨A, cap, rfl, fun h => by simp at h⟩
end Go.Proofs.YtkkbngcgphlikaaGreatDoor
end
