/-
  Part of the proof of MendTouches.
-/
import Derived.Test.YtkdhdibjbabgfaaGreatDoorVt20
import Derived.Test.YtkdhdibjbabgfaaGreatDoorVt50
import Derived.Test.YtkdhdibjbabgfaaGreatDoorVt0
set_option maxRecDepth 10000
set_option maxHeartbeats 1000000
set_option linter.unusedVariables false
set_option linter.unusedSimpArgs false
section
namespace Go.Proofs.YtkdhdibjbabgfaaGreatDoor
open Go.Lib Go.RowKit Go.ChangeShapes Go.WideShapes Go.Deep Go.Shelf
def OwnB (w : World) (g : Nat) (B : List Bool) : Prop := w.ownsRow g 4 1 (.slice (some ⟨g, 0, none⟩) B.length B.length) B.length (B.map Value.bool)
theorem infoBool : (Tryz.prog.info? 4).map (fun i => (i.zero, i.size, i.bytes)) = some (some (.bool false), 1, 1) := by kernel_rfl
theorem OwnB.cell {w : World} {g i n : Nat} {B : List Bool} (h : OwnB w g B) (hn : B.length = n) (hi : i < n) : w.cell? ⟨g, i, none⟩ = some (.bool (B.getD i false)) ∧ w.frozen? ⟨g, i, none⟩ = false := by
 subst hn
 refine ⟨?_, World.ownsRow.frozenAt h _⟩
 rw [World.ownsRow.cellAt h i (by omega), List.getElem?_map, List.getElem?_eq_getElem (by omega), List.getD_eq_getElem?_getD, List.getElem?_eq_getElem (by omega)]
 rfl
theorem OwnB.set {w : World} {g : Nat} {B : List Bool} (h : OwnB w g B) (i : Nat) (y : Bool) : OwnB (w.setCell ⟨g, i, none⟩ (.bool y)) g (B.set i y) := by
 unfold OwnB at h ⊢
 rw [List.length_set, List.map_set]
 exact (World.ownsRow.stored h i _).1
theorem OwnB.lt {w : World} {g : Nat} {B : List Bool} (h : OwnB w g B) : g < w.heap.size := (World.ownsRow.lt h g rfl).2
theorem OwnB.keep {w w1 : World} {g : Nat} {B : List Bool} (h : OwnB w g B) (hb : Below w.heap.size w w1) : OwnB w1 g B := by
 refine ⟨h.1, ?_⟩
 rcases h.2 with h2 | ⟨g', cap, cur, hv, hbg, hg, h1, h2, h3, h4⟩
 ·exact .inl h2
 ·exact .inr ⟨g', cap, cur, hv, hbg, by rw [hb.block g' (Array.getElem?_eq_some_iff.1 hg).1]; exact hg, h1, h2, h3, h4⟩
theorem OwnB.no_int {w : World} {g : Nat} {B : List Bool} (h : OwnB w g B) (o : Nat) (k : IntKind) (x : Int) : w.cell? ⟨g, o, none⟩ ≠ some (.int k x) := by
 by_cases ho : o < B.length
 ·rw [(h.cell rfl ho).1]
  exact fun e => by cases e
 ·rcases h.2 with ⟨h', _⟩ | ⟨g', cap', cur, h', _, hg, _, _, hcs, _⟩
  ·cases h'
  ·simp only [Value.slice.injEq, Option.some.injEq, Addr.mk.injEq, and_true, true_and] at h'
   obtain ⟨rfl, rfl⟩ := h'
   rw [cell_of_row w g o cur _ (0, 0) hg, Array.getElem?_eq_none (by omega)]
   exact fun e => by cases e
theorem OPL.far {w : World} {g i : Nat} {B : List Bool} {v u : Value} {l : List Ox} (h : OPL w v l) (hB : OwnB w g B) : OPL (w.setCell ⟨g, i, none⟩ u) v l := by
 obtain ⟨A, cap, hv, h⟩ := h
 refine ⟨A, cap, hv, fun hl => ?_⟩
 obtain ⟨b, off, hA, hg, hc, hcell⟩ := h hl
 refine ⟨b, off, hA, by rw [size_setCell]; exact hg, hc, fun k hk j hj => ?_⟩
 rw [World.cell?_setCell_far]
 ·exact hcell k hk j hj
 ·intro e
  simp only [] at e
  subst e
  have h0 := hcell 0 hl 0 (by omega)
  exact hB.no_int _ _ _ h0
theorem mayS_take {B : List Bool} {l : List Ox} {k : Nat} (h : k < l.length) : mayS B (l.take (k + 1)) = mayO (mayS B (l.take k)) (l.getD k default) := by
 unfold mayS
 rw [List.take_succ_eq_append_getElem h, List.foldl_append, List.getD_eq_getElem?_getD, List.getElem?_eq_getElem h]
 rfl
theorem mayO_in {B : List Bool} {o : Ox} {n y : Nat} (hn : B.length = n) (h : o.2.1 = (y : Int)) (hy : y < n) : mayO B o = B.set y true := by
 unfold mayO
 rw [if_pos (by omega), h, Int.toNat_natCast]
theorem touch_lane {I J : List Nat} {N L : Nat} (hl : I.length = N) (h3 : I.getD 3 0 = L) (h : mendD I = some J) (j : Nat) (hj : j < L) : ∃ l, laneP I (N : Nat) (L : Nat) (j : Nat) = some l ∧ laneD I L j = some l ∧ ∀ a, a < l.length → ∃ y : Nat, (l.getD a default).2.1 = (y : Int) ∧ y < N := by
 obtain ⟨hp, ops, hlan, -⟩ := mend_t h
 rw [h3] at hlan
 obtain ⟨l, h1, -⟩ := lanes_each hlan j hj
 subst hl h3
 have hg := (gOk_pool (pool_t hp).1).2
 refine ⟨l, ?_, h1, fun a ha => ?_⟩
 ·unfold laneP
  rw [if_pos, Int.toNat_natCast, Int.toNat_natCast]
  ·exact h1
  ·unfold laneB readB
   rw [hp, decide_eq_true ⟨rfl, rfl⟩, decide_eq_true (by omega)]
   rfl
 ·have hk := lane_ok h1 (l.getD a default) (by rw [List.getD_eq_getElem?_getD, List.getElem?_eq_getElem ha]; exact List.getElem_mem ha)
  obtain ⟨s1, s2, s3, s4, s5, s6, s7, s8⟩ := pool_size hg
  unfold okOp inCh opIn at hk
  simp only [decide_eq_true_eq] at hk
  exact ⟨(l.getD a default).2.1.toNat, by omega, by omega⟩
theorem touch_all {I J : List Nat} {N L G : Nat} (hl : I.length = N) (h3 : I.getD 3 0 = L) (hG : gNat N L = G) (h : mendD I = some J) (p : Nat) (hp : p < N) (hne : ¬ I.getD p 0 = J.getD p 0) :
 ((mayL I L L).getD p false = true ∧ (p = 8 ∨ (10 + 73 * L ≤ p ∧ p < 10 + 73 * L + G) ∨ 10 + 73 * L + G ≤ p)) ∨ ((mayL I L L).getD p false = false ∧ ((10 ≤ p ∧ p < 10 + L) ∨ (10 + 73 * L ≤ p ∧ p < 10 + 73 * L + G))) := by
 subst hl h3 hG
 have h1 := touch_1 h p hp hne
 cases hb : (mayL I (I.getD 3 0) (I.getD 3 0)).getD p false with
 | true =>
   have h2 := touch_2 h p hp hb
   refine .inl ⟨rfl, ?_⟩
   omega
 | false =>
   rw [hb] at h1
   refine .inr ⟨rfl, ?_⟩
   rcases h1 with h1 | h1 | h1
   ·exact .inl h1
   ·exact .inr h1
   ·cases h1
end Go.Proofs.YtkdhdibjbabgfaaGreatDoor
end
section
namespace Go.Proofs.YtkdhdibjbabgfaaGreatDoor
open Go.Lib Go.RowKit Go.ChangeShapes Go.WideShapes Go.Deep Go.Shelf
theorem mendTouches (g : Gx) (w : World) (hw : Lw w) (hg : GOk w g) :
 Calls Tryz.prog 8 #[gxV g] w fun e w' => e = .returned (.bool true) ∧ Below w.heap.size w w' := by
 obtain ⟨⟨vT, vF, vI, vS⟩, xs, p⟩ := g
 obtain ⟨hM, hB⟩ := hg
 simp only [] at hM hB
 obtain ⟨AT, nT, cT, AF, nF, cF, AI, nI, cI, AS, nS, cS, rfl, rfl, rfl, rfl⟩ := hM.sl
 have hA := bZ w (.cells #[.int .u8 (p.a : Nat), .int .u8 (p.b : Nat), .slice AT nT cT, .slice AF nF cF, .slice AI nI cI, .int .u64 (p.root : Nat), .int .u64 (p.epoch : Nat), .slice AS nS cS] 28)
 have gA := HB.new w #[.int .u8 (p.a : Nat), .int .u8 (p.b : Nat), .slice AT nT cT, .slice AF nF cF, .slice AI nI cI, .int .u64 (p.root : Nat), .int .u64 (p.epoch : Nat), .slice AS nS cS] 28
 obtain ⟨wa, hwa⟩ : ∃ x, w.alloc (.cells #[.int .u8 (p.a : Nat), .int .u8 (p.b : Nat), .slice AT nT cT, .slice AF nF cF, .slice AI nI cI, .int .u64 (p.root : Nat), .int .u64 (p.epoch : Nat), .slice AS nS cS] 28) = x := ⟨_, rfl⟩
 have hsa : wa.heap.size = w.heap.size + 1 := by rw [← hwa]; simp
 rw [hwa] at hA gA
 have hAw := awake15 wa (hw.keep hA)
 have hFe := lh (fun w1 (hb : Below w.heap.size w w1) => few_any15 p _ _ _ _ xs w1 (hM.keep hb))
 have hMk := lh (fun w1 (hb : Below w.heap.size w w1) (hf : fewB p = true) => make_any p _ _ _ _ xs w1 (hw.keep hb) (hM.keep hb) hB hf)
 have hGe := lh (fun w1 => geom_any p AT AF AI AS nT cT nF cF nI cI nS cS w1 hB)
 obtain ⟨hl1, hl2⟩ := gv_len p
 obtain ⟨N, hN⟩ : ∃ N, gvN p = N := ⟨_, rfl⟩
 obtain ⟨L, hL⟩ : ∃ L, gvL p = L := ⟨_, rfl⟩
 have hL3 : L ≤ 3 := by have := gv_geo p; omega
 have hL1 : 1 ≤ L := by have := gv_geo p; omega
 rw [hN] at hl1 hl2
 rw [hN, hL] at hGe
 have hwk := lh (fun w1 (hb : Below w.heap.size w w1) => hw.keep hb)
 obtain ⟨I, hI⟩ : ∃ I, makeL p = I := ⟨_, rfl⟩
 rw [hI] at hl1 hMk
 obtain ⟨Gc, hGc⟩ : ∃ G, gvG p = G := ⟨_, rfl⟩
 have hNL : N = 10 + 73 * L + 33 * Gc := by have h : gvN p = 10 + 73 * gvL p + 33 * gvG p := rfl; omega
 have hGat : gNat N L = Gc := by rw [← hN, ← hL, ← hGc]; exact (gv_geo p).2.2.1
 replace hGat := lh hGat
 have hN10 : 1 ≤ N := by omega
 replace hNL := lh hNL
 clear hGc
 replace hI := lh hI
 replace hN := lh hN
 replace hL := lh hL
 replace hl1 := lh hl1
 show Calls Tryz.prog _ #[.agg #[.int .u8 (p.a : Nat), .int .u8 (p.b : Nat), .slice AT nT cT, .slice AF nF cF, .slice AI nI cI, .int .u64 (p.root : Nat), .int .u64 (p.epoch : Nat), .slice AS nS cS]] w _
 unfold gvV at hFe hMk hGe
 clear hM hB hw
 go_enter Tryz.func8, Tryz.ntmps8
 subst hwa
 go_wp2_with fail
 refine hAw.mono ?_
 rintro e w1 ⟨rfl, hb1⟩
 have hA1 := hA.trans (hb1.mono hA.size)
 have gA1 := gA.keep hb1
 have p0 := (row_cell gA1 0).1
 have p1 := (row_cell gA1 1).1
 have p2 := (row_cell gA1 2).1
 have p3 := (row_cell gA1 3).1
 have p4 := (row_cell gA1 4).1
 have p5 := (row_cell gA1 5).1
 have p6 := (row_cell gA1 6).1
 have p7 := (row_cell gA1 7).1
 clear hAw gA hA hb1
 go_wp2_with fail
 refine (hFe.out _ hA1).mono ?_
 rintro e w2 ⟨rfl, hb2⟩
 have hA2 := hA1.trans (hb2.mono hA1.size)
 have gA2 := gA1.keep hb2
 clear p0 p1 p2 p3 p4 p5 p6 p7 gA1 hA1 hb2
 have p0 := (row_cell gA2 0).1
 have p1 := (row_cell gA2 1).1
 have p2 := (row_cell gA2 2).1
 have p3 := (row_cell gA2 3).1
 have p4 := (row_cell gA2 4).1
 have p5 := (row_cell gA2 5).1
 have p6 := (row_cell gA2 6).1
 have p7 := (row_cell gA2 7).1
 cases hfew : fewB p with
 | false =>
   go_wp2_with fail
   go_ret
   exact ⟨rfl, hA2⟩
 | true =>
   have hMk2 := hMk.out _ hA2 hfew
   clear hMk hFe hfew
   go_wp2_with fail
   refine hMk2.mono ?_
   rintro e w3 ⟨v3, rfl, hO3, hW, hb3⟩
   have hA3 := hA2.trans (hb3.mono hA2.size)
   have gA3 := gA2.keep hb3
   clear p0 p1 p2 p3 p4 p5 p6 p7 gA2 hMk2
   obtain ⟨A3, c3, rfl⟩ := hO3.sl hl1.out
   have p0 := (row_cell gA3 0).1
   have p1 := (row_cell gA3 1).1
   have p2 := (row_cell gA3 2).1
   have p3 := (row_cell gA3 3).1
   have p4 := (row_cell gA3 4).1
   have p5 := (row_cell gA3 5).1
   have p6 := (row_cell gA3 6).1
   have p7 := (row_cell gA3 7).1
   go_wp2_with fail
   refine (hGe.out _).mono ?_
   rintro e w5 ⟨rfl, hb5⟩
   have hA5 := hA3.trans (hb5.mono hA3.size)
   have hO5 := hO3.keep hb5
   have gG := HB.new w5 #[.int .i64 (N : Nat), .int .i64 (L : Nat)] 33
   have e6 := bZ w5 (.cells #[.int .i64 (N : Nat), .int .i64 (L : Nat)] 33)
   have hO6 := hO5.keep e6
   have hA6 := hA5.trans (e6.mono hA5.size)
   obtain ⟨w6, hw6⟩ : ∃ x, w5.alloc (.cells #[.int .i64 (N : Nat), .int .i64 (L : Nat)] 33) = x := ⟨_, rfl⟩
   obtain ⟨G, hGs⟩ : ∃ G, w5.heap.size = G := ⟨_, rfl⟩
   rw [hw6, hGs] at gG
   rw [hw6] at hO6 hA6
   have hI8 : I.length ≤ 800 := by have := hl1.out; omega
   clear p0 p1 p2 p3 p4 p5 p6 p7 gA3 hA5 hA3 hA2 hO3 hO5 hb5 e6 hGe
   obtain ⟨A9, c9, hv9, hf9⟩ := hO6.form
   rw [hl1.out] at hf9 hv9
   cases hv9
   obtain ⟨B, rfl, hBl, hBu⟩ := hf9 (by omega)
   clear hf9 hBl hBu
   have hMe := mend_any (.slice (some ⟨B, 0, none⟩) N c3) I w6 (hwk.out _ hA6) hW.out hO6.kl hI8
   have hJlen := fun J (h : mendD I = some J) => (mend_head h).1
   have hsome := fun J (h : mendD I = some J) => (pool_t (mend_t h).1).1
   have hDe := lh (fun w1 (h : KL .u64 w1 (.slice (some ⟨B, 0, none⟩) N c3) I) => rdec_any (.slice (some ⟨B, 0, none⟩) N c3) I N w1 hl1.out (by omega) (KL.sl h))
   subst hw6
   go_wp2_with fail
   refine hMe.mono ?_
   rintro e w7 ⟨v7, rfl, hO7, hb7⟩
   have g7 := gG.keep hb7
   have hU7 := hO6.keep hb7
   have hA7 := hA6.trans (hb7.mono hA6.size)
   have hD7 := hDe.out w7 hU7.kl
   clear hMe gG hO6 hA6 hb7 hDe
   cases hmd : mendD I with
   | none =>
     rw [hmd] at hO7
     simp only [Option.isSome_none, Option.getD_none, Bool.false_eq_true, if_false] at hO7 ⊢
     cases hs : sOk I
     ·have hD8 : Calls Tryz.prog 24 #[.slice (some ⟨B, 0, none⟩) N c3] w7 (fun e w' => e = .returned (.tuple #[.agg #[.int .i64 0, .int .i64 0], .int .i64 7]) ∧ Below w7.heap.size w7 w') := by rw [hs] at hD7; exact hD7
      obtain ⟨A7, c7, rfl⟩ := hO7.sl (show ([] : List Nat).length = 0 from rfl)
      clear hD7
      go_wp2_with fail
      refine hD8.mono ?_
      rintro e w8 ⟨rfl, hb8⟩
      have hA8 := hA7.trans (hb8.mono hA7.size)
      have hA9 := hA8.alloc hA8.size (.cells #[.int .i64 0, .int .i64 0] 33)
      go_wp2_with fail
      go_ret
      exact ⟨rfl, hA9⟩
     ·have hD8 : Calls Tryz.prog 24 #[.slice (some ⟨B, 0, none⟩) N c3] w7 (fun e w' => e = .returned (.tuple #[.agg #[.int .i64 (N : Nat), .int .i64 (I.getD 3 0 : Nat)], .int .i64 0]) ∧ Below w7.heap.size w7 w') := by rw [hs] at hD7; exact hD7
      obtain ⟨A7, c7, rfl⟩ := hO7.sl (show ([] : List Nat).length = 0 from rfl)
      clear hD7
      go_wp2_with fail
      refine hD8.mono ?_
      rintro e w8 ⟨rfl, hb8⟩
      have hA8 := hA7.trans (hb8.mono hA7.size)
      have hA9 := hA8.alloc hA8.size (.cells #[.int .i64 (N : Nat), .int .i64 (I.getD 3 0 : Nat)] 33)
      go_wp2_with fail
      go_ret
      exact ⟨rfl, hA9⟩
   | some J =>
     rw [hmd] at hO7
     simp only [Option.isSome_some, Option.getD_some, if_true] at hO7 ⊢
     have hJl : J.length = N := (hJlen J hmd).trans hl1.out
     rw [hsome J hmd] at hD7
     obtain ⟨A7, c7, rfl⟩ := hO7.sl hJl
     clear hJlen hsome
     obtain ⟨L2, hL2⟩ : ∃ x, I.getD 3 0 = x := ⟨_, rfl⟩
     rw [hL2] at hD7
     change Calls _ _ _ _ (fun e w' => e = .returned (.tuple #[.agg #[.int .i64 (N : Nat), .int .i64 (L2 : Nat)], .int .i64 0]) ∧ _) at hD7
     replace hmd := lh hmd
     replace hL2 := lh hL2
     replace hJl := lh hJl
     go_wp2_with fail
     refine hD7.mono ?_
     rintro e w8 ⟨rfl, hb8⟩
     have g8 := g7.keep hb8
     have hU8 := hU7.keep hb8
     have hJ8 := hO7.keep hb8
     have hA8 := hA7.trans (hb8.mono hA7.size)
     have gH := HB.new w8 #[.int .i64 (N : Nat), .int .i64 (L2 : Nat)] 33
     have e9 := bZ w8 (.cells #[.int .i64 (N : Nat), .int .i64 (L2 : Nat)] 33)
     have g9 := g8.keep e9
     have hU9 := hU8.keep e9
     have hJ9 := hJ8.keep e9
     have hA9 := hA8.trans (e9.mono hA8.size)
     obtain ⟨w9, hw9⟩ : ∃ x, w8.alloc (.cells #[.int .i64 (N : Nat), .int .i64 (L2 : Nat)] 33) = x := ⟨_, rfl⟩
     obtain ⟨H, hHs⟩ : ∃ H, w8.heap.size = H := ⟨_, rfl⟩
     rw [hw9, hHs] at gH
     rw [hw9] at g9 hU9 hJ9 hA9
     obtain ⟨q0, q1⟩ := g9.c2
     obtain ⟨u0, u1⟩ := gH.c2
     clear hD7 g7 hU7 hO7 hA7 hb8 g8 hU8 hJ8 hA8 e9
     by_cases hLL : L2 = L
     rotate_left
     ·have hLL' : ¬ (L2 : Int) = (L : Int) := by omega
      subst hw9
      go_wp2_with fail
      go_ret
      exact ⟨rfl, hA9⟩
     subst hLL
     have hI3 := hL2.out
     obtain ⟨i0, hi, hz0, hz1, hz2⟩ := info_parts infoBool
     have hsz9 : w9.heap.size = H + 1 := by rw [← hw9]; simp; omega
     subst hw9
     go_wp2_with (at_make; refine wpList_make_full _ rfl _ _ 58 rfl (w8.alloc (.cells #[.int .i64 (N : Nat), .int .i64 (L2 : Nat)] 33)).heap.size 4 i0 (.bool false) 1 Tryz.underlying58 hi hz0 hz1 .i64 .i64 _ _ N rfl rfl rfl rfl (by rw [hz2]; omega) (by unfold maxLen; omega) (Nat.le_refl _) ?_; intro wm hown hgr; replace hown := lh hown; replace hgr := lh hgr)
     obtain ⟨w9, hw9⟩ : ∃ x, w8.alloc (.cells #[.int .i64 (N : Nat), .int .i64 (L2 : Nat)] 33) = x := ⟨_, rfl⟩
     rw [hw9] at g9 hU9 hJ9 hA9 hsz9 hown hgr
     have hBm : Below w9.heap.size w9 wm := (Below.refl _ _).grown hgr.out (Nat.le_refl _) (by simp)
     have hOB : OwnB wm (H + 1) (mayL I L2 0) := by
      have q := hown.out
      rw [show (madeCells (Value.bool false).cells (N * 1)).toList = List.replicate N (Value.bool false) by rw [Nat.mul_one]; exact toList_madeCells_one _ _, hsz9] at q
      unfold OwnB mayL
      rw [hl1.out, List.length_replicate, List.map_replicate]
      exact q
     clear hown hgr q0 q1 u0 u1 gH hz0 hz1 hz2 hi
     obtain ⟨A8, c8, hv8, hf8⟩ := hJ9.form
     rw [hJl.out] at hf8 hv8
     cases hv8
     obtain ⟨B7, rfl, hBl, hBu⟩ := hf8 (by omega)
     clear hf8 hBl hBu
     go_loopw [12] (fun i1 wr => ∃ (j : Nat), j ≤ L2 ∧ i1 = .int .i64 (j : Nat) ∧ OwnB wr (H + 1) (mayL I L2 j) ∧ Below w9.heap.size w9 wr) (fun i1 _ => L2 + 1 - (intOf i1).toNat)
     case atStart => exact ⟨0, Nat.zero_le _, rfl, hOB, hBm⟩
     case round =>
      obtain ⟨j, hj, rfl, hOr, hBr⟩ := hrel
      clear hOB hBm
      have gr := g9.keep hBr
      obtain ⟨q0, q1⟩ := gr.c2
      by_cases hlt : j < L2
      ·have hlt' : (j : Int) < (L2 : Int) := by omega
       have hAr := hA9.trans (hBr.mono hA9.size)
       have hLa := mlane_any (.slice (some ⟨B, 0, none⟩) N c3) I (N : Nat) (L2 : Nat) (j : Nat) wr (hwk.out _ hAr) hW.out (hU9.keep hBr).kl hI8
       obtain ⟨l, hlP, hlD, hlat⟩ := touch_lane hl1.out hI3 hmd.out j hlt
       have hmay : mayL I L2 (j + 1) = mayS (mayL I L2 j) l := by show mayS (mayL I L2 j) ((laneD I L2 j).getD []) = _; rw [hlD]; rfl
       rw [hlP] at hLa
       simp only [Option.isSome_some, Option.getD_some] at hLa
       obtain ⟨R, hR⟩ : ∃ R, mayL I L2 j = R := ⟨_, rfl⟩
       have hRl : R.length = N := by rw [← hR, mayL_len]; exact hl1.out
       rw [hR] at hOr hmay
       obtain ⟨nl, hnl⟩ : ∃ n, l.length = n := ⟨_, rfl⟩
       rw [hnl] at hlat
       have hnl8 : nl ≤ 800 := by have := (lane_facts (N := N) (L := L2) (i := j) hW.out hI8).1; rw [hlP] at this; show nl ≤ 800; rw [← hnl]; exact this
       replace hlat := lh hlat
       replace hnl := lh hnl
       replace hmay := lh hmay
       replace hRl := lh hRl
       clear hlP hlD hR
       go_wp2_with fail
       refine hLa.mono ?_
       rintro e w10 ⟨v10, rfl, hO10, hb10⟩
       obtain ⟨A10, c10, rfl, -⟩ := OPL.form hO10 hnl.out
       have hOB2 := hOr.keep hb10
       have hB10 := hBr.trans (hb10.mono hBr.size)
       clear q0 q1 hLa hOr hBr gr hb10 hAr
       go_wp2_with fail
       go_loopw [15] (fun i1 wq => ∃ (k : Nat), k ≤ nl ∧ i1 = .int .i64 (k : Nat) ∧ OwnB wq (H + 1) (mayS R (l.take k)) ∧ OPL wq (.slice A10 nl c10) l ∧ Below w9.heap.size w9 wq) (fun i1 _ => nl + 1 - (intOf i1).toNat)
       case atStart => exact ⟨0, Nat.zero_le _, rfl, hOB2, hO10, hB10⟩
       case round =>
        obtain ⟨k, hk, rfl, hOq, hPq, hBq⟩ := hrel
        clear hOB2 hO10 hB10
        by_cases hlk : k < nl
        ·have hlk' : (k : Int) < (nl : Int) := by omega
         obtain ⟨y, hy, hyN⟩ := hlat.out k hlk
         have hyN' : (y : Int) < (N : Int) := by omega
         have hy0 : (0 : Int) ≤ (y : Int) := by omega
         obtain ⟨A11, c11, hv11, hF⟩ := OPL.form hPq hnl.out
         cases hv11
         obtain ⟨gP, oP, rfl, hcP, hgP, -, -, hy1, -⟩ := hF _ k (Below.refl _ _) hlk
         rw [hy] at hy1
         have hsz : (mayS R (l.take k)).length = N := by rw [mayS_len]; exact hRl.out
         obtain ⟨hcb, hfz⟩ := hOq.cell hsz hyN
         have hset := hOq.set y true
         have hmo : (mayS R (l.take k)).set y true = mayS R (l.take (k + 1)) := by rw [mayS_take (by rw [hnl.out]; exact hlk), mayO_in hsz hy hyN]
         rw [hmo] at hset
         have hPset := OPL.far (i := y) (u := .bool true) hPq hOq
         have hBs := hBq.setCell (p := ⟨H + 1, y, none⟩) (by simp; omega) (.bool true)
         replace hset := lh hset
         replace hPset := lh hPset
         replace hBs := lh hBs
         clear hF hOq hPq hBq hmo
         go_wp2_with fail
         go_roundw
         case rel => exact ⟨k + 1, by omega, by go_num, hset.out, hPset.out, hBs.out⟩
         case measure => first | (simp [intOf]; done) | (simp [intOf]; omega)
        ·obtain rfl : nl = k := by omega
         have hlk' : ¬ (nl : Int) < (nl : Int) := by omega
         have hfin : OwnB wr (H + 1) (mayL I L2 (j + 1)) := by
          rw [hmay.out, ← (List.take_of_length_le (by rw [hnl.out]; exact Nat.le_refl _) : l.take nl = l)]
          exact hOq
         clear hOq hPq
         go_wp2_with fail
         go_roundw
         case rel => exact ⟨j + 1, by omega, by go_num, hfin, hBq⟩
         case measure => first | (simp [intOf]; done) | (simp [intOf]; omega)
      ·obtain rfl : L2 = j := by omega
       have hlt' : ¬ (L2 : Int) < (L2 : Int) := by omega
       have hca := fun p (hp : p < N) hne => touch_all hl1.out hI3 hGat.out hmd.out p hp hne
       obtain ⟨F, hF⟩ : ∃ F, mayL I L2 L2 = F := ⟨_, rfl⟩
       have hFl : F.length = N := by rw [← hF, mayL_len]; exact hl1.out
       rw [hF] at hOr hca
       have hNLo := hNL.out
       obtain ⟨Q7, hQ7⟩ : ∃ x, 73 * L2 = x := ⟨_, rfl⟩
       have z1 : (73 : Int) * (L2 : Int) = (Q7 : Int) := by omega
       have z2 : IntKind.i64.wrap (Q7 : Int) = (Q7 : Int) := wrapS _ (by omega) (by omega)
       obtain ⟨T, hT⟩ : ∃ x, 10 + Q7 = x := ⟨_, rfl⟩
       have z3 : (10 : Int) + (Q7 : Int) = (T : Int) := by omega
       have z4 : IntKind.i64.wrap (T : Int) = (T : Int) := wrapS _ (by omega) (by omega)
       obtain ⟨D, hD⟩ : ∃ x, N - T = x := ⟨_, rfl⟩
       have z5 : (N : Int) - (T : Int) = (D : Int) := by omega
       have z6 : IntKind.i64.wrap (D : Int) = (D : Int) := wrapS _ (by omega) (by omega)
       have z7 : (D : Int) / 33 = (Gc : Int) := by omega
       obtain ⟨Y, hY⟩ : ∃ x, 32 * Gc = x := ⟨_, rfl⟩
       have z8 : (32 : Int) * (Gc : Int) = (Y : Int) := by omega
       have z9 : IntKind.i64.wrap (Y : Int) = (Y : Int) := wrapS _ (by omega) (by omega)
       have z9a : IntKind.i64.wrap (Gc : Int) = (Gc : Int) := wrapS _ (by omega) (by omega)
       obtain ⟨Hp, hHp⟩ : ∃ x, N - Y = x := ⟨_, rfl⟩
       have zA : (N : Int) - (Y : Int) = (Hp : Int) := by omega
       have zB : IntKind.i64.wrap (Hp : Int) = (Hp : Int) := wrapS _ (by omega) (by omega)
       obtain ⟨E, hE⟩ : ∃ x, 10 + L2 = x := ⟨_, rfl⟩
       have zC : (10 : Int) + (L2 : Int) = (E : Int) := by omega
       have zD : IntKind.i64.wrap (E : Int) = (E : Int) := wrapS _ (by omega) (by omega)
       have hca2 : ∀ p, p < N → ¬ I.getD p 0 = J.getD p 0 → (F.getD p false = true ∧ (p = 8 ∨ (T ≤ p ∧ p < Hp) ∨ Hp ≤ p)) ∨ (F.getD p false = false ∧ ((10 ≤ p ∧ p < E) ∨ (T ≤ p ∧ p < Hp))) := fun p hp hne => by
        have h := hca p hp hne
        rw [show T = 10 + 73 * L2 from by omega, show Hp = 10 + 73 * L2 + Gc from by omega, show E = 10 + L2 from by omega]
        exact h
       have hTE : E ≤ T := by omega
       have hTH : T ≤ Hp := by omega
       have hHN : Hp ≤ N := by omega
       have hT8 : 10 ≤ T := by omega
       have hE8 : 10 ≤ E := by omega
       replace hca2 := lh hca2
       replace hF := lh hF
       replace hFl := lh hFl
       clear hca hlt hj gr hNLo
       go_wp2_with fail
       clear q0 q1 z1 z2 z3 z4 z5 z6 z7 z8 z9 z9a zA zB hQ7 hT hD hY hHp hE hNL hGat
       go_loopw [18] (fun i1 wr => ∃ (p : Nat), p ≤ N ∧ i1 = .int .i64 (p : Nat) ∧ OwnB wr (H + 1) F ∧ Below w9.heap.size w9 wr) (fun i1 _ => N + 1 - (intOf i1).toNat)
       case atStart => exact ⟨0, Nat.zero_le _, rfl, hOr, hBr⟩
       case round =>
        rename_i wold _
        obtain ⟨p, hp, rfl, hOp, hBp⟩ := hrel
        clear hOr hBr
        by_cases hlp : p < N
        ·have hlp' : (p : Int) < (N : Int) := by omega
         obtain ⟨x1, hx1⟩ : ∃ x, I.getD p 0 = x := ⟨_, rfl⟩
         obtain ⟨y1, hy1⟩ : ∃ x, J.getD p 0 = x := ⟨_, rfl⟩
         have hCF := lh (fun w' (hb : Below wr.heap.size wr w') => show w'.cell? ⟨B, p, none⟩ = some (.int .u64 (x1 : Nat)) ∧ w'.cell? ⟨B7, p, none⟩ = some (.int .u64 (y1 : Nat)) from ⟨hx1 ▸ (((hU9.keep hBp).keep hb).cell hl1.out hlp).1, hy1 ▸ (((hJ9.keep hBp).keep hb).cell hJl.out hlp).1⟩)
         by_cases hxy : x1 = y1
         ·subst hxy
          go_wp2_with fail
          refine wp_region_held_drew (S := (fun w' => Below wr.heap.size wr w')) (by kernel_rfl) (Below.refl _ _).drew (fun hHeld => ?_)
          refine takeH 0 ?_
          refine takeH 1 ?_
          refine takeH 2 ?_
          refine takeH 3 ?_
          refine takeH 4 ?_
          refine takeH 5 ?_
          refine takeH 6 ?_
          refine takeH 7 ?_
          refine takeH 8 ?_
          refine wpAnyH_done (by kernel_rfl) ?_ _
          have hOp2 := hOp.keep hHeld
          have hBp2 := hBp.trans (hHeld.mono hBp.size)
          clear hHeld hCF hOp hBp
          go_wp2_with fail
          go_roundw
          case rel => exact ⟨p + 1, by omega, by go_num, hOp2, hBp2⟩
          case measure => first | (simp [intOf]; done) | (simp [intOf]; omega)
         ·have hxy' : ¬ (x1 : Int) = (y1 : Int) := by omega
          have hcs := hca2.out p hlp (by rw [hx1, hy1]; exact hxy)
          go_wp2_with fail
          refine wp_region_held_drew (S := (fun w' => Below wr.heap.size wr w')) (by kernel_rfl) (Below.refl _ _).drew (fun hHeld => ?_)
          refine takeH 0 ?_
          refine takeH 1 ?_
          refine takeH 2 ?_
          refine takeH 3 ?_
          refine takeH 4 ?_
          refine takeH 5 ?_
          refine takeH 6 ?_
          refine takeH 7 ?_
          refine takeH 8 ?_
          refine wpAnyH_done (by kernel_rfl) ?_ _
          have hOp2 := hOp.keep hHeld
          have hBp2 := hBp.trans (hHeld.mono hBp.size)
          have hnb := (hOp2.cell hFl.out hlp).1
          obtain ⟨q0, q1⟩ := (g9.keep hBp2).c2
          clear hHeld hCF hOp hBp hxy'
          rcases hcs with ⟨hb, h | ⟨h, h2⟩ | h⟩ | ⟨hb, ⟨h, h2⟩ | ⟨h, h2⟩⟩
          ·rw [hb] at hnb
           subst h
           have f0 : ¬ (T : Int) ≤ 8 := by omega
           have f1 : (8 : Int) < (T : Int) := by omega
           clear hb
           go_wp2_with fail
           go_roundw
           case rel => exact ⟨9, by omega, by go_num, hOp2, hBp2⟩
           case measure => first | (simp [intOf]; done) | (simp [intOf]; omega)
          ·rw [hb] at hnb
           have f0 : (10 : Int) ≤ (p : Int) := by omega
           have f1 : ¬ (p : Int) < (E : Int) := by omega
           have f2 : (T : Int) ≤ (p : Int) := by omega
           have f3 : (p : Int) < (Hp : Int) := by omega
           have f4 : ¬ (p : Int) = 8 := by omega
           have f5 : ¬ (p : Int) < (T : Int) := by omega
           clear hb
           go_wp2_with fail
           go_roundw
           case rel => exact ⟨p + 1, by omega, by go_num, hOp2, hBp2⟩
           case measure => first | (simp [intOf]; done) | (simp [intOf]; omega)
          ·rw [hb] at hnb
           have f0 : (10 : Int) ≤ (p : Int) := by omega
           have f1 : ¬ (p : Int) < (E : Int) := by omega
           have f2 : (T : Int) ≤ (p : Int) := by omega
           have f3 : ¬ (p : Int) < (Hp : Int) := by omega
           have f4 : ¬ (p : Int) = 8 := by omega
           have f5 : ¬ (p : Int) < (T : Int) := by omega
           clear hb
           go_wp2_with fail
           go_roundw
           case rel => exact ⟨p + 1, by omega, by go_num, hOp2, hBp2⟩
           case measure => first | (simp [intOf]; done) | (simp [intOf]; omega)
          ·rw [hb] at hnb
           have f0 : (10 : Int) ≤ (p : Int) := by omega
           have f1 : (p : Int) < (E : Int) := by omega
           have f2 : ¬ (T : Int) ≤ (p : Int) := by omega
           clear hb
           go_wp2_with fail
           go_roundw
           case rel => exact ⟨p + 1, by omega, by go_num, hOp2, hBp2⟩
           case measure => first | (simp [intOf]; done) | (simp [intOf]; omega)
          ·rw [hb] at hnb
           have f0 : (10 : Int) ≤ (p : Int) := by omega
           have f1 : ¬ (p : Int) < (E : Int) := by omega
           have f2 : (T : Int) ≤ (p : Int) := by omega
           have f3 : (p : Int) < (Hp : Int) := by omega
           clear hb
           go_wp2_with fail
           go_roundw
           case rel => exact ⟨p + 1, by omega, by go_num, hOp2, hBp2⟩
           case measure => first | (simp [intOf]; done) | (simp [intOf]; omega)
        ·obtain rfl : N = p := by omega
         have hlp' : ¬ (N : Int) < (N : Int) := by omega
         have hAe := hA9.trans (hBp.mono hA9.size)
         go_wp2_with fail
         go_ret
         exact ⟨by simp, hAe⟩
end Go.Proofs.YtkdhdibjbabgfaaGreatDoor
end
