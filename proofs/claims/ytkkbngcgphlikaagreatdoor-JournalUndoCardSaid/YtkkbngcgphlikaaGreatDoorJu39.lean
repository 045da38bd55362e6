/-
  Part of the proof of JournalUndo.
-/
import Derived.Test.YtkkbngcgphlikaaGreatDoorJu38
import Derived.Test.YtkkbngcgphlikaaGreatDoorJu0
set_option maxRecDepth 100000
set_option maxHeartbeats 4000000
set_option linter.unusedVariables false
set_option linter.unusedSimpArgs false
namespace Go.Proofs.YtkkbngcgphlikaaGreatDoor
open Go.Lib Go.RowKit Go.ChangeShapes Go.WideShapes Go.Deep Go.Shelf
structure MkS (w0 : World) (P T3 : Nat) (pc : Array Value) (N L B4 c4 : Nat) (X : List Nat) (w : World) : Prop where
 o : OwnU w w0.heap.size (.slice (some ⟨B4, 0, none⟩) N c4) X
 l : X.length = N
 B : Below w0.heap.size w0 w
 p : HB w P pc 43
 g : HB w T3 #[.int .i64 (N : Nat), .int .i64 (L : Nat)] 37
theorem MkS.keep {w0 : World} {P T3 : Nat} {pc : Array Value} {N L B4 c4 : Nat} {X : List Nat} {w w1 : World} (h : MkS w0 P T3 pc N L B4 c4 X w) (hb : Below w.heap.size w w1) : MkS w0 P T3 pc N L B4 c4 X w1 :=
 ⟨h.o.keep hb, h.l, h.B.trans (hb.mono h.B.size), h.p.keep hb, h.g.keep hb⟩
theorem MkS.chg {w0 : World} {P T3 : Nat} {pc : Array Value} {N L B4 c4 : Nat} {X X1 : List Nat} {w w1 : World} (h : MkS w0 P T3 pc N L B4 c4 X w) (hc : Chg (fun k => k = B4) w w1) (ho : OwnU w1 w0.heap.size (.slice (some ⟨B4, 0, none⟩) N c4) X1) (hl : X1.length = N) : MkS w0 P T3 pc N L B4 c4 X1 w1 :=
 ⟨ho, hl, h.B.trans (hc.below (N := w0.heap.size) (fun k hk => by rw [hk]; exact (OwnU_row h.o).1) h.B.size), h.p.chg hc (h.p.ne_row h.o (by decide)), h.g.chg hc (h.g.ne_row h.o (by decide))⟩
theorem MkS.set {w0 : World} {P T3 : Nat} {pc : Array Value} {N L B4 c4 : Nat} {X : List Nat} {w : World} (h : MkS w0 P T3 pc N L B4 c4 X w) (i y : Nat) (hi : i < N) : MkS w0 P T3 pc N L B4 c4 (X.set i y) (w.setCell ⟨B4, i, none⟩ (.int .u64 (y : Nat))) :=
 h.chg (Chg.setCell w B4 i _ rfl) (h.o.set h.l hi) (by rw [List.length_set]; exact h.l)
theorem HB.grown {w w1 : World} {b : Nat} {cs : Array Value} {t : TypeId} (h : HB w b cs t) (hg : w.grownBy w1 none) : HB w1 b cs t := (hg.block b h.lt (by simp)).trans h
theorem MkS.drewL {w0 : World} {P T3 : Nat} {pc : Array Value} {N L B4 c4 i : Nat} {X : List Nat} {y : Value} {w : World} (h : MkS w0 P T3 pc N L B4 c4 X (w.setCell ⟨B4, i, none⟩ y)) : MkS w0 P T3 pc N L B4 c4 X (w.drew.setCell ⟨B4, i, none⟩ y) := h.keep (Below.refl _ _).drew
theorem wrapS (k : Int) (h0 : 0 ≤ k) (h : k ≤ 1000000) : IntKind.i64.wrap k = k := by rw [IntKind.wrap_i64]; omega
theorem make_f (p : Gv) (vT vF vI vS : Value) (xs : List ItV) (w : World) (hw : Lw w) (hM : GvM w vT vF vI vS xs p) (hB : GvB p) (hfw : fewB p = true) (hi0 : p.items = []) (hs0 : p.spoil = []) :
 Calls Tryz.prog 31 #[gvV p vT vF vI vS] w fun e w' => ∃ v', e = .returned v' ∧ OwnU w' w.heap.size v' (makeL p) ∧ rightT (madeT p.tiles (gvG p)) = true ∧ Below w.heap.size w w' := by
 obtain ⟨nT, hnT⟩ : ∃ n, p.tiles.length = n := ⟨_, rfl⟩
 obtain ⟨nF, hnF⟩ : ∃ n, p.fill.length = n := ⟨_, rfl⟩
 obtain ⟨nI, hnI⟩ : ∃ n, p.items.length = n := ⟨_, rfl⟩
 obtain ⟨nS, hnS⟩ : ∃ n, p.spoil.length = n := ⟨_, rfl⟩
 have hI0 : nI ≤ 0 := by rw [← hnI, hi0]; exact Nat.le_refl _
 have hS0 : nS ≤ 0 := by rw [← hnS, hs0]; exact Nat.le_refl _
 clear hi0 hs0
 obtain ⟨AT, cT, rfl, -⟩ := hM.t.form hnT
 obtain ⟨AF, cF, rfl, -⟩ := hM.f.form hnF
 obtain ⟨AI, cI, rfl⟩ : ∃ A c, vI = .slice A nI c := by
  obtain ⟨A, c, h⟩ := EL.sl hM.i
  exact ⟨A, c, by rw [h, ← hnI, ← hM.x, List.length_map]⟩
 obtain ⟨AS, cS, rfl, -⟩ := EL.form hM.s hnS
 obtain ⟨hfw1, hfw2⟩ : (nT ≤ 20 ∧ nF ≤ 40 ∧ nI ≤ 4 ∧ nS ≤ 4) ∧ p.items.all fewI = true := by
  unfold fewB at hfw
  rw [Bool.and_eq_true, hnT, hnF, hnI, hnS] at hfw
  exact ⟨of_decide_eq_true hfw.1, hfw.2⟩
 obtain ⟨hT20, hF40, hI4, hS4⟩ := hfw1
 obtain ⟨g1, g2, g3, g4, g5, g6, g7⟩ := gv_geo p
 have hGe := lh (fun w1 => geom_any p AT AF AI AS nT cT nF cF nI cI nS cS w1 hB)
 have hm0 : make0 p = putL (((putL (List.replicate (gvN p) 0) 0 (headW (gvN p) (gvL p) (gvG p))).set 8 p.root).set 9 p.epoch) (10 + 73 * gvL p) (madeT p.tiles (gvG p)) := rfl
 have hm1 : make1 p = if p.fill.length = 0 then make0 p else fillK (make0 p) p.fill (10 + 73 * gvL p + gvG p) (32 * gvG p) := rfl
 have hm2 : make2 p = p.items.foldl (itemS (gvN p) (gvL p)) (make1 p) := rfl
 have hm3 : make3 p = p.spoil.foldl spoilS (make2 p) := rfl
 have hm4 : makeL p = if 0 < p.spoil.length ∧ (p.spoil.getD 0 default).1 % 2 = 0 then (make3 p).set 7 (moreN 0 ((make3 p).take 7)) else make3 p := rfl
 have hl0 := make0_len p
 have hl1 := make1_len p
 have hl2 := make2_len p
 have hl3 := make3_len p
 have hMd := lh (fun w1 (hb : Below w.heap.size w w1) => made_fn (.slice AT nT cT) p.tiles (gvG p) w1 (hw.keep hb) hB.t (hM.t.keep hb) (by omega) (by omega))
 have hW1 := lh (fun h => make1_WL (p := p) hB h)
 have hW3 := lh (fun h => make3_WL (p := p) hB h)
 have hNd : gvN p = 10 + 73 * gvL p + 33 * gvG p := rfl
 rw [hnF] at hm1
 rw [hnS] at hm4
 generalize make0 p = m0 at *
 generalize make1 p = m1 at *
 generalize make2 p = m2 at *
 generalize make3 p = m3 at *
 generalize makeL p = m4 at *
 generalize madeT p.tiles (gvG p) = tb at *
 have hIt := lh (fun w1 (hb : Below w.heap.size w w1) j (hj : j < nI) => hM.item hnI w1 hb j hj)
 generalize gvN p = N at *
 generalize gvL p = L at *
 generalize gvG p = G at *
 unfold gvV
 have hb1 := bZ w (.cells (gvC p (.slice AT nT cT) (.slice AF nF cF) (.slice AI nI cI) (.slice AS nS cS)) 43)
 have gP := HB.new w (gvC p (.slice AT nT cT) (.slice AF nF cF) (.slice AI nI cI) (.slice AS nS cS)) 43
 unfold gvC at hb1 gP
 unfold gvV at hGe
 generalize p.a = a at *
 generalize p.b = b at *
 have hr := hB.r
 have he := hB.e
 generalize p.root = r at *
 generalize p.epoch = ep at *
 obtain ⟨pc, hpc⟩ : ∃ pc : Array Value, #[.int .u8 (a : Nat), .int .u8 (b : Nat), .slice AT nT cT, .slice AF nF cF, .slice AI nI cI, .int .u64 (r : Nat), .int .u64 (ep : Nat), .slice AS nS cS] = pc := ⟨_, rfl⟩
 have hPc := lh (fun P w1 (h : HB w1 P pc 43) => show w1.cell? ⟨P, 0, none⟩ = some (.int .u8 (a : Nat)) ∧ w1.cell? ⟨P, 1, none⟩ = some (.int .u8 (b : Nat)) ∧ w1.cell? ⟨P, 2, none⟩ = some (.slice AT nT cT) ∧ w1.cell? ⟨P, 3, none⟩ = some (.slice AF nF cF) ∧ w1.cell? ⟨P, 4, none⟩ = some (.slice AI nI cI) ∧ w1.cell? ⟨P, 5, none⟩ = some (.int .u64 (r : Nat)) ∧ w1.cell? ⟨P, 6, none⟩ = some (.int .u64 (ep : Nat)) ∧ w1.cell? ⟨P, 7, none⟩ = some (.slice AS nS cS) from by
  rw [← hpc] at h
  exact ⟨(row_cell h 0).1, (row_cell h 1).1, (row_cell h 2).1, (row_cell h 3).1, (row_cell h 4).1, (row_cell h 5).1, (row_cell h 6).1, (row_cell h 7).1⟩)
 rw [hpc] at hb1 gP hGe ⊢
 have hP8 := lh (fun w1 (h : HB w1 w.heap.size pc 43) => hPc.out w.heap.size w1 h)
 obtain ⟨wa, hwa⟩ : ∃ x, w.alloc (.cells pc 43) = x := ⟨_, rfl⟩
 have hsa : wa.heap.size = w.heap.size + 1 := by rw [← hwa]; simp
 rw [hwa] at hb1 gP
 obtain ⟨P, hP⟩ : ∃ P, w.heap.size = P := ⟨_, rfl⟩
 rw [hP] at gP hP8
 obtain ⟨F, hF⟩ : ∃ F, 10 + 73 * L = F := ⟨_, rfl⟩
 rw [hF] at hm0 hm1
 have hFi : (10 + 73 * (L : Int)) = (F : Int) := by omega
 have hN8 : N ≤ 500 := by omega
 have hN1 : 100 ≤ N := by omega
 have hF5 : F ≤ 500 := by omega
 obtain ⟨A, hA⟩ : ∃ A, F + G = A := ⟨_, rfl⟩
 obtain ⟨Q, hQ⟩ : ∃ Q, 32 * G = Q := ⟨_, rfl⟩
 have hAQ1 : A + Q ≤ N := by omega
 have hAQ2 : N ≤ A + Q := by omega
 rw [hA, hQ] at hm1
 have hA' : (F : Int) + (G : Int) = (A : Int) := by omega
 have hQ1 : 1 ≤ Q := by omega
 replace hA := lh hA
 replace hQ := lh hQ
 replace hA' := lh hA'
 have hFN : F + G + 32 * G = N := by omega
 have hTb := lh (fun w1 => refTable_t (N : Nat) (L : Nat) w1 g1)
 rw [hFi, g2] at hTb
 have hEn := lh (fun w1 => renc_t N L G w1 g1 g2)
 obtain ⟨i0, hi, hz0, hz1, hz2⟩ := info_parts infoU64
 replace hm0 := lh hm0
 replace hm1 := lh hm1
 replace hm2 := lh hm2
 replace hm3 := lh hm3
 replace hm4 := lh hm4
 replace hnT := lh hnT
 replace hnF := lh hnF
 replace hnI := lh hnI
 replace hnS := lh hnS
 replace hl0 := lh hl0
 replace hl1 := lh hl1
 replace hl2 := lh hl2
 replace hl3 := lh hl3
 replace hNd := lh hNd
 replace hF := lh hF
 replace hFi := lh hFi
 have hFN2 := lh hFN
 clear hFN
 have hFl := lh (fun w1 (hb : Below w.heap.size w w1) => hM.f.keep hb)
 have hSp := lh (fun w1 (hb : Below w.heap.size w w1) k (hk : k < nS) => by
  obtain ⟨A9, c9, hv9, h9⟩ := EL.form hM.s hnS.out
  obtain ⟨g, off, hA9, h2, h3, h4, h5⟩ := h9 w1 k hb hk
  exact (show ∃ g off, AS = some ⟨g, off, none⟩ ∧ nS ≤ cS ∧ g < w1.heap.size ∧ w1.cell? ⟨g, off + k * 2, none⟩ = some (.int .u16 ((p.spoil.getD k default).1 : Nat)) ∧ w1.cell? ⟨g, off + k * 2 + 1, none⟩ = some (.int .u64 ((p.spoil.getD k default).2 : Nat)) ∧ (p.spoil.getD k default).1 < 65536 from by
   cases hv9
   exact ⟨g, off, hA9, h2, h4, h5 0 (by decide), h5 1 (by decide), (hB.s _ (by rw [List.getD_eq_getElem?_getD, List.getElem?_eq_getElem (by have := hnS.out; omega)]; exact List.getElem_mem _)).1⟩))
 have hSs := lh (fun k (hk : k < nS) => show (p.spoil.take (k + 1)).foldl spoilS m2 = spoilS ((p.spoil.take k).foldl spoilS m2) (p.spoil.getD k default) from by
  rw [List.take_succ_eq_append_getElem (by have := hnS.out; omega), List.foldl_append, List.getD_eq_getElem?_getD, List.getElem?_eq_getElem (by have := hnS.out; omega)]; rfl)
 have hSe := lh (show (p.spoil.take nS).foldl spoilS m2 = m3 from by rw [List.take_of_length_le (by have := hnS.out; omega)]; exact hm3.out.symm)
 obtain ⟨z0, z1, z2, z3, z4, z5, z6, z7⟩ := hP8.out wa gP
 go_enter Tryz.func31, Tryz.ntmps31
 subst hwa
 subst hpc
 go_wp2_with fail
 refine (hGe.out _).mono ?_
 rintro e w1 ⟨rfl, hb2⟩
 have hB1 := hb1.trans (hb2.mono hb1.size)
 have gP1 := gP.keep hb2
 obtain ⟨T3, hT3⟩ : ∃ T, w1.heap.size = T := ⟨_, rfl⟩
 have gG := HB.new w1 #[.int .i64 (N : Nat), .int .i64 (L : Nat)] 37
 have hb3 := bZ w1 (.cells #[.int .i64 (N : Nat), .int .i64 (L : Nat)] 37)
 have gP2 := gP1.keep hb3
 have hB2 := hB1.trans (hb3.mono hB1.size)
 rw [hT3] at gG
 obtain ⟨q0, q1⟩ := gG.c2
 clear z0 z1 z2 z3 z4 z5 z6 z7 hb1 gP hGe hb2 hB1 gP1 hb3
 go_wp2_with (at_make; refine wpList_make_full _ rfl _ _ 25 rfl w.heap.size 40 i0 (.int .u64 0) 1 Tryz.underlying25 hi hz0 hz1 .i64 .i64 _ _ N rfl rfl rfl rfl (by rw [hz2]; omega) (by unfold maxLen; omega) hB2.size ?_; intro w2 hown hgr; have gG5 := gG.grown hgr; have gP5 := gP2.grown hgr; obtain ⟨s0, s1⟩ := gG5.c2; replace hown := lh hown; replace hgr := lh hgr)
 have hB5 : Below w.heap.size w w2 := hB2.grown hgr.out hB2.size (by simp)
 have hO : OwnU w2 w.heap.size (.slice (some ⟨T3 + 1, 0, none⟩) N N) (List.replicate N 0) := by
  have q := hown.out
  rw [show (madeCells (Value.int IntKind.u64 0).cells (N * 1)).toList = List.replicate N (Value.int .u64 0) by rw [Nat.mul_one]; exact toList_madeCells_one _ _] at q
  unfold OwnU
  rw [List.length_replicate, List.map_replicate]
  first | exact q | (have hs1 : (w1.alloc (.cells #[.int .i64 (N : Nat), .int .i64 (L : Nat)] 37)).heap.size = T3 + 1 := by simp; omega
                     rw [hs1] at q; exact q)
 have hS : MkS w P T3 #[.int .u8 (a : Nat), .int .u8 (b : Nat), .slice AT nT cT, .slice AF nF cF, .slice AI nI cI, .int .u64 (r : Nat), .int .u64 (ep : Nat), .slice AS nS cS] N L (T3 + 1) N (List.replicate N 0) w2 := ⟨hO, List.length_replicate, hB5, gP5, gG5⟩
 clear q0 q1 gG gP2 hB2 hown hgr hO hB5 gP5 gG5
 refine (hEn.out _).mono ?_
 rintro e w3 ⟨vH, rfl, hSH, hb3⟩
 have hS3 := hS.keep hb3
 have hKH := hSH.kl
 obtain ⟨AH, cH, rfl, hHf⟩ := hKH.form (headW_len N L G)
 have hnH : ∀ g o m c, (Value.slice AH 8 cH) = .slice (some ⟨g, o, none⟩) m c → 0 < (headW N L G).length → ¬ g = T3 + 1 := fun g o m c q _ => by
  obtain ⟨g2, o2, hA2, _, _, c0⟩ := hHf w3 0 (Below.refl _ _) (by omega)
  simp only [Value.slice.injEq] at q
  rw [hA2] at q
  obtain ⟨q1, -, -⟩ := q
  cases q1
  exact zeros_ne (x := 6076272092419149644) hS3.o c0 (by decide)
 have hPu := put_any15 (T3 + 1) N N 0 (.slice AH 8 cH) (List.replicate N 0) (headW N L G) w.heap.size w3 hS3.o hS3.l (fun w4 hc => hKH.chg hc (fun g o m c q hl => hnH g o m c q hl)) (by omega) (by rw [headW_len]; omega) (by omega)
 clear s0 s1 hS hb3 hSH
 have hPL : (putL (List.replicate N 0) 0 (headW N L G)).length = N := by rw [putL_len, List.length_replicate]
 go_wp2_with fail
 refine hPu.mono ?_
 rintro e w4 ⟨rfl, ho4, hc4⟩
 have hS4 := hS3.chg hc4 ho4 hPL
 obtain ⟨X4, hX4⟩ : ∃ X, putL (List.replicate N 0) 0 (headW N L G) = X := ⟨_, rfl⟩
 rw [hX4] at hS4 hm0
 replace hX4 := lh hX4
 obtain ⟨z0, z1, z2, z3, z4, z5, z6, z7⟩ := hP8.out w4 hS4.p
 obtain ⟨y0, f0⟩ := hS4.o.cell (i := 8) hS4.l (by omega)
 have hS5 := hS4.set 8 r (by omega)
 have hS6 := hS5.set 9 ep (by omega)
 have x8 : (8 : Int) < (N : Int) := by omega
 have x9 : (9 : Int) < (N : Int) := by omega
 obtain ⟨y1, f1⟩ := hS5.o.cell (i := 9) hS5.l (by omega)
 obtain ⟨-, -, -, -, -, -, t6, -⟩ := hP8.out _ hS5.p
 obtain ⟨q0, q1⟩ := hS6.g.c2
 clear hPu hHf hnH hKH hS3 ho4 hc4 hPL hEn
 go_wp2_with fail
 refine (hTb.out _).mono ?_
 rintro e w5 ⟨rfl, hb5⟩
 have hS6b := hS6.keep hb5
 have gT7 := HB.new w5 #[.int .i64 (F : Nat), .int .i64 (G : Nat)] 70
 have hb6 := bZ w5 (.cells #[.int .i64 (F : Nat), .int .i64 (G : Nat)] 70)
 have hS7' := hS6b.keep hb6
 obtain ⟨T7, hT7⟩ : ∃ T, w5.heap.size = T := ⟨_, rfl⟩
 rw [hT7] at gT7
 clear z0 z1 z2 z3 z4 z5 z6 z7 y0 f0 y1 f1 t6 q0 q1 hS4 hS5 hS6 hS6b hb5 hb6 x8 x9 hTb
 go_wp2_with fail
 try rw [hT7]
 obtain ⟨w7, hw7⟩ : ∃ x, w5.alloc (.cells #[.int .i64 (F : Nat), .int .i64 (G : Nat)] 70) = x := ⟨_, rfl⟩
 rw [hw7] at gT7 hS7' ⊢
 have hS7 := hS7'
 clear hS7' hw7
 obtain ⟨X7, hX7⟩ : ∃ X, (X4.set 8 r).set 9 ep = X := ⟨_, rfl⟩
 rw [hX7] at hS7 hm0
 replace hX7 := lh hX7
 have hCF := lh (fun w' (hb : Below w7.heap.size w7 w') => show (w'.cell? ⟨T7, 0, none⟩ = some (.int .i64 (F : Nat)) ∧ w'.cell? ⟨T7, 1, none⟩ = some (.int .i64 (G : Nat))) ∧ w'.cell? ⟨P, 2, none⟩ = some (.slice AT nT cT) from ⟨(gT7.keep hb).c2, (hP8.out w' (hS7.keep hb).p).2.2.1⟩)
 refine wp_region_tail (S := (fun w' => Below w7.heap.size w7 w')) (n := 8) (by kernel_rfl) (Below.refl _ _).drew (fun hHeld hInv => ?_) (by decide)
 refine takeHS 0 hInv ?_; clear hInv; intro hInv
 refine takeHS 1 hInv ?_; clear hInv; intro hInv
 refine takeHS 2 hInv ?_; clear hInv; intro hInv
 refine takeHS 3 hInv ?_; clear hInv; intro hInv
 refine takeHS 4 hInv ?_; clear hInv; intro hInv
 refine takeHS 5 hInv ?_; clear hInv; intro hInv
 refine takeHS 6 hInv ?_; clear hInv; intro hInv
 refine oneS 7 hInv (by decide) rfl (by kernel_rfl) (fun K hK => ?_)
 go_simp
 refine (hMd.out _ (hS7.B.trans (hHeld.mono hS7.B.size))).mono ?_
 rintro e w8 ⟨vM, rfl, hoM, ⟨hrT, hlM⟩, hb⟩
 obtain ⟨AM, cM, rfl, hAM⟩ := hoM.kl.form rfl
 refine hK.out _ _ (hHeld.trans (hb.mono hHeld.size)) (fun hHeld2 hInv2 => ?_)
 clear hK K hHeld hInv
 have hHeld := hHeld2
 have hInv := hInv2
 clear hHeld2 hInv2
 try simp only [Act.put,sA,sB,sC] at hInv ⊢
 refine lastS 8 rfl (by decide) (by kernel_rfl) (fun K hK => ?_)
 have hS8 := hS7.keep hHeld
 have gT8 := gT7.keep hHeld
 have hPu := put_any15 (T3 + 1) N N F (.slice AM tb.length cM) X7 tb w.heap.size w8 hS8.o hS8.l (fun w9 hc => hoM.kl.chg hc (fun g o m c q hl => by
  have h9 : w7.heap.size ≤ g := (hoM.lt g (by rw [q]; rfl)).1
  have h3 := (OwnU_row hS7.o).2
  obtain ⟨cur, h3⟩ := h3
  have h4 := (Array.getElem?_eq_some_iff.1 h3).1
  omega)) (by omega) (by omega) (by omega)
 go_simp
 refine hPu.mono ?_
 rintro e w9 ⟨rfl, ho9, hc9⟩
 refine hK.out _ _ ?_
 clear hK K
 try simp only [Act.put,sA,sB,sC]
 refine wpAnyS_done (by kernel_rfl) ?_ _
 have hS9 := hS8.chg hc9 ho9 (by rw [putL_len]; exact hS8.l)
 rw [← hm0.out] at hS9
 have gT9 := gT8.chg hc9 (gT8.ne_row hS8.o (by decide))
 have hWm1 := hW1.out hrT
 have hWm3 := hW3.out hrT
 obtain ⟨q0, q1⟩ := gT9.c2
 have hFG := hA'.out
 have hwA : IntKind.i64.wrap (A : Int) = (A : Int) := wrapS _ (by omega) (by omega)
 clear hCF hInv hHeld hS7 hS8 gT7 gT8 hPu ho9 hc9 hoM hAM hMd hb hlM hW1 hW3
 go_upto_block 0 with fail
 clear q0 q1 hFG
 go_cut [8] from 57 to 80 (fun s8 wx => s8 = s8 ∧ MkS w P T3 #[.int .u8 (a : Nat), .int .u8 (b : Nat), .slice AT nT cT, .slice AF nF cF, .slice AI nI cI, .int .u64 (r : Nat), .int .u64 (ep : Nat), .slice AS nS cS] N L (T3 + 1) N m1 wx)
 case first =>
  go_wp2_with fail
  by_cases hz : nF = 0
  ·subst hz
   go_loopw [8] (fun i wr => i = .int .i64 (A : Nat) ∧ wr = w9) (fun _ _ => 0)
   case atStart => exact ⟨rfl, rfl⟩
   obtain ⟨rfl, rfl⟩ := hrel
   have hNA : (A : Int) < (N : Int) := by omega
   obtain ⟨z0, z1, z2, z3, z4, z5, z6, z7⟩ := hP8.out _ hS9.p
   rw [show m0 = m1 from by rw [hm1.out]; simp] at hS9
   go_wp2_with fail
   go_meet
   exact ⟨trivial, hS9⟩
  have hnz : 0 < nF := by omega
  go_loopw [8] (fun i wr => ∃ k : Nat, k ≤ Q ∧ i = .int .i64 ((A + k : Nat) : Int) ∧ MkS w P T3 #[.int .u8 (a : Nat), .int .u8 (b : Nat), .slice AT nT cT, .slice AF nF cF, .slice AI nI cI, .int .u64 (r : Nat), .int .u64 (ep : Nat), .slice AS nS cS] N L (T3 + 1) N (fillK m0 p.fill A k) wr) (fun i _ => N + 1 - (intOf i).toNat)
  case atStart => exact ⟨0, Nat.zero_le _, rfl, hS9⟩
  obtain ⟨k, hk, rfl, hSr⟩ := hrel
  clear hS9 gT9
  obtain ⟨z0, z1, z2, z3, z4, z5, z6, z7⟩ := hP8.out _ hSr.p
  obtain ⟨q, hq⟩ : ∃ q, A + k = q := ⟨_, rfl⟩
  rw [hq]
  by_cases hlt : k < Q
  rotate_left
  ·obtain rfl : k = Q := by omega
   obtain rfl : N = q := by omega
   rw [show fillK m0 p.fill A k = m1 from by rw [hm1.out, if_neg (by omega)]] at hSr
   go_wp2_with fail
   go_meet
   exact ⟨trivial, hSr⟩
  have hqN : q < N := by omega
  have hqN' : (q : Int) < (N : Int) := by omega
  have hnF1' : (0 : Int) < (nF : Int) := by omega
  obtain ⟨m5, hm5⟩ : ∃ m5, q % nF = m5 := ⟨_, rfl⟩
  have hm5l : m5 < nF := by rw [← hm5]; exact Nat.mod_lt _ (by omega)
  have hr1 : (q : Int) % (nF : Int) = (m5 : Int) := by rw [← hm5]; rfl
  have hr2 : (q : Int).tmod (nF : Int) = (m5 : Int) := by rw [Int.tmod_eq_emod_of_nonneg (by omega)]; exact hr1
  have hr3 : ¬ (nF : Int) = 0 := by omega
  have hr3' : ¬ nF = 0 := by omega
  have hm5' : (m5 : Int) < (nF : Int) := by omega
  have hst : fillK m0 p.fill A (k + 1) = (fillK m0 p.fill A k).set q (p.fill.getD m5 0) := by rw [fillK, hq, hnF.out, hm5]
  obtain ⟨A9, c9, hv9, hK9⟩ := (hFl.out wr hSr.B).form hnF.out
  cases hv9
  obtain ⟨gf, off, rfl, hcF, hgf, c0⟩ := hK9 wr m5 (Below.refl _ _) hm5l
  have hgf2 := World.block_lt_of_cell? wr _ c0
  obtain ⟨y0, f0⟩ := hSr.o.cell (i := q) hSr.l hqN
  have hSn := hSr.set q (p.fill.getD m5 0) hqN
  rw [← hst] at hSn
  obtain ⟨x, hx⟩ : ∃ x, p.fill.getD m5 0 = x := ⟨_, rfl⟩
  rw [hx] at c0 hSn
  replace hx := lh hx
  replace hq := lh hq
  replace hm5 := lh hm5
  replace hst := lh hst
  generalize fillK m0 p.fill A k = X at *
  have hCF := lh (fun w' (hb : Below wr.heap.size wr w') => show (w'.cell? ⟨gf, off + m5, none⟩ = some (.int .u64 (x : Nat)) ∧ w'.cell? ⟨P, 3, none⟩ = some (.slice (some ⟨gf, off, none⟩) nF cF)) ∧ w'.cell? ⟨T3 + 1, q, none⟩ = some (.int .u64 (X.getD q 0 : Nat)) ∧ w'.frozen? ⟨T3 + 1, q, none⟩ = false from ⟨⟨((bcell hb).1 _ _ hgf2).trans c0, (hP8.out w' (hSr.keep hb).p).2.2.2.1⟩, (hSr.keep hb).o.cell hSr.l hqN⟩)
  clear c0 y0 f0 hK9
  go_wp2_with fail
  refine wp_region_tail (S := (fun w' => Below wr.heap.size wr w')) (n := 12) (by kernel_rfl) (Below.refl _ _).drew (fun hHeld hInv => ?_) (by decide)
  refine takeHS 0 hInv ?_; clear hInv; intro hInv
  refine takeHS 1 hInv ?_; clear hInv; intro hInv
  refine takeHS 2 hInv ?_; clear hInv; intro hInv
  refine takeHS 3 hInv ?_; clear hInv; intro hInv
  refine takeHS 4 hInv ?_; clear hInv; intro hInv
  refine takeHS 5 hInv ?_; clear hInv; intro hInv
  refine takeHS 6 hInv ?_; clear hInv; intro hInv
  refine takeHS 7 hInv ?_; clear hInv; intro hInv
  refine takeHS 8 hInv ?_; clear hInv; intro hInv
  refine takeHS 9 hInv ?_; clear hInv; intro hInv
  refine takeHS 10 hInv ?_; clear hInv; intro hInv
  refine takeHS 11 hInv ?_; clear hInv; intro hInv
  refine lastS 12 rfl (by decide) (by kernel_rfl) (fun K hK => ?_)
  have zz := hCF.out _ hHeld
  obtain ⟨⟨v0, v1⟩, v2, v3⟩ := zz
  go_simp
  refine hK.out _ _ ?_
  clear hK K
  try simp only [Act.put,sA,sB,sC]
  refine wpAnyS_done (by kernel_rfl) ?_ _
  clear hCF hInv hHeld
  go_wp2_with fail
  go_roundw
  case rel => exact ⟨k + 1, by omega, by rw [← hq.out]; go_num, hSn.drewL⟩
  first | (simp [intOf]; done) | (simp [intOf]; omega)
 obtain ⟨-, hSr⟩ := hcut
 clear hS9 gT9
 go_wp2_with fail
 have hWL := lh (fun j => show WL ((p.items.take j).foldl (itemS N L) m1) from foldl_WL _ _ (fun X hX x hx => itemX_WL hX (hB.i x (List.mem_of_mem_take hx)).2.2.2.1 (hB.i x (List.mem_of_mem_take hx)).2.2.2.2) hWm1)
 have hSt := lh (fun j (hj : j < nI) => show (p.items.take (j + 1)).foldl (itemS N L) m1 = itemS N L ((p.items.take j).foldl (itemS N L) m1) (p.items.getD j default) from by
  rw [List.take_succ_eq_append_getElem (by have := hnI.out; omega), List.foldl_append, List.getD_eq_getElem?_getD, List.getElem?_eq_getElem (by have := hnI.out; omega)]; rfl)
 have hEnd := lh (show (p.items.take nI).foldl (itemS N L) m1 = m2 from by rw [List.take_of_length_le (by have := hnI.out; omega)]; exact hm2.out.symm)
 have hSr0 := hSr
 go_loopw [9, 4] (fun i v4 wr => ∃ (j B4 c4 : Nat), j ≤ nI ∧ i = .int .i64 (j : Nat) ∧ v4 = .slice (some ⟨B4, 0, none⟩) N c4 ∧ MkS w P T3 #[.int .u8 (a : Nat), .int .u8 (b : Nat), .slice AT nT cT, .slice AF nF cF, .slice AI nI cI, .int .u64 (r : Nat), .int .u64 (ep : Nat), .slice AS nS cS] N L B4 c4 ((p.items.take j).foldl (itemS N L) m1) wr) (fun i _ _ => nI + 1 - (intOf i).toNat)
 case atStart => exact ⟨0, T3 + 1, N, Nat.zero_le _, rfl, rfl, hSr0⟩
 obtain ⟨j, B4, c4, hj, rfl, rfl, hS⟩ := hrel
 clear hSr hSr0
 have hwl := hWL.out j
 have hst0 := lh (hSt.out j)
 obtain ⟨X, hX⟩ : ∃ X, (p.items.take j).foldl (itemS N L) m1 = X := ⟨_, rfl⟩
 rw [hX] at hS hwl hst0
 obtain ⟨z0, z1, z2, z3, z4, z5, z6, z7⟩ := hP8.out _ hS.p
 by_cases hlt : j < nI
 ·exact absurd hlt (by omega)
 obtain rfl : nI = j := by omega
 rw [hEnd.out] at hX
 subst hX
 clear hst0 hlt hwl hWL hSt hEnd hIt
 have hWm3 := hWm3
 go_wp2_with fail
 clear z0 z1 z2 z3 z4 z5 z6 z7
 go_loopw [19] (fun i wq => ∃ (k : Nat), k ≤ nS ∧ i = .int .i64 (k : Nat) ∧ MkS w P T3 #[.int .u8 (a : Nat), .int .u8 (b : Nat), .slice AT nT cT, .slice AF nF cF, .slice AI nI cI, .int .u64 (r : Nat), .int .u64 (ep : Nat), .slice AS nS cS] N L B4 c4 ((p.spoil.take k).foldl spoilS m2) wq) (fun i _ => nS + 1 - (intOf i).toNat)
 case atStart => exact ⟨0, Nat.zero_le _, rfl, hS⟩
 obtain ⟨k, hk, rfl, hS2⟩ := hrel
 clear hS
 obtain ⟨z0, z1, z2, z3, z4, z5, z6, z7⟩ := hP8.out _ hS2.p
 by_cases hltk : k < nS
 ·exact absurd hltk (by omega)
 obtain rfl : nS = k := by omega
 rw [hSe.out] at hS2
 have hltk' : decide ((nS : Int) < (nS : Int)) = false := decide_eq_false (by omega)
 by_cases hk0 : nS = 0
 rotate_left
 ·exact absurd hk0 (by omega)
 have hno := lh (show m4 = m3 from by rw [hm4.out, if_neg (by omega)])
 have hk0' : decide ((0 : Int) < (nS : Int)) = false := decide_eq_false (by omega)
 have hk1' : ¬ (0 : Int) < (nS : Int) := by omega
 go_wp2_with fail
 go_ret
 have qo := hS2.o
 have qb := hS2.B
 rw [← hno.out] at qo
 first | exact ⟨_, rfl, qo, hrT, qb⟩ | exact ⟨_, rfl, qo, qb⟩ | exact ⟨qo, hrT, qb⟩ | (rw [hP] at qo qb; first | exact ⟨_, rfl, qo, hrT, qb⟩ | exact ⟨_, rfl, qo, qb⟩ | exact ⟨qo, hrT, qb⟩)
end Go.Proofs.YtkkbngcgphlikaaGreatDoor
