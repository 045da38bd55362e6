/-
  Part of the proof of JournalSteps.
-/
import Derived.Test.YtkkbngcgphlikaaGreatDoorJt43
import Derived.Test.YtkkbngcgphlikaaGreatDoorJt0
set_option maxRecDepth 100000
set_option maxHeartbeats 4000000
set_option linter.unusedVariables false
set_option linter.unusedSimpArgs false
namespace Go.Proofs.YtkkbngcgphlikaaGreatDoor
open Go.Lib Go.RowKit Go.ChangeShapes Go.WideShapes Go.Deep Go.Shelf
structure MkS (w0 : World) (P T3 : Nat) (pc : Array Value) (N L B4 c4 : Nat) (X : List Nat) (w : World) : Prop where
 o : OwnU w w0.heap.size (.slice (some ⟨B4, 0, none⟩) N c4) X
 l : X.length = N
 B : Below w0.heap.size w0 w
 p : HB w P pc 43
 g : HB w T3 #[.int .i64 (N : Nat), .int .i64 (L : Nat)] 37
theorem MkS.keep {w0 : World} {P T3 : Nat} {pc : Array Value} {N L B4 c4 : Nat} {X : List Nat} {w w1 : World} (h : MkS w0 P T3 pc N L B4 c4 X w) (hb : Below w.heap.size w w1) : MkS w0 P T3 pc N L B4 c4 X w1 :=
 ⟨h.o.keep hb, h.l, h.B.trans (hb.mono h.B.size), h.p.keep hb, h.g.keep hb⟩
theorem MkS.chg {w0 : World} {P T3 : Nat} {pc : Array Value} {N L B4 c4 : Nat} {X X1 : List Nat} {w w1 : World} (h : MkS w0 P T3 pc N L B4 c4 X w) (hc : Chg (fun k => k = B4) w w1) (ho : OwnU w1 w0.heap.size (.slice (some ⟨B4, 0, none⟩) N c4) X1) (hl : X1.length = N) : MkS w0 P T3 pc N L B4 c4 X1 w1 :=
 ⟨ho, hl, h.B.trans (hc.below (N := w0.heap.size) (fun k hk => by rw [hk]; exact (OwnU_row h.o).1) h.B.size), h.p.chg hc (h.p.ne_row h.o (by decide)), h.g.chg hc (h.g.ne_row h.o (by decide))⟩
theorem MkS.set {w0 : World} {P T3 : Nat} {pc : Array Value} {N L B4 c4 : Nat} {X : List Nat} {w : World} (h : MkS w0 P T3 pc N L B4 c4 X w) (i y : Nat) (hi : i < N) : MkS w0 P T3 pc N L B4 c4 (X.set i y) (w.setCell ⟨B4, i, none⟩ (.int .u64 (y : Nat))) :=
 h.chg (Chg.setCell w B4 i _ rfl) (h.o.set h.l hi) (by rw [List.length_set]; exact h.l)
theorem HB.grown {w w1 : World} {b : Nat} {cs : Array Value} {t : TypeId} (h : HB w b cs t) (hg : w.grownBy w1 none) : HB w1 b cs t := (hg.block b h.lt (by simp)).trans h
theorem MkS.drewL {w0 : World} {P T3 : Nat} {pc : Array Value} {N L B4 c4 i : Nat} {X : List Nat} {y : Value} {w : World} (h : MkS w0 P T3 pc N L B4 c4 X (w.setCell ⟨B4, i, none⟩ y)) : MkS w0 P T3 pc N L B4 c4 X (w.drew.setCell ⟨B4, i, none⟩ y) := h.keep (Below.refl _ _).drew
theorem HB.ne {w : World} {b c : Nat} {cs cs2 : Array Value} {t t2 : TypeId} (h : HB w b cs t) (k : HB w c cs2 t2) (ht : t ≠ t2) : b ≠ c := fun e => by
 subst e
 have h3 := (show w.heap[b]? = _ from h).symm.trans k
 simp at h3
 exact ht h3.2
theorem MkS.far {w0 : World} {P T3 : Nat} {pc : Array Value} {N L B4 c4 : Nat} {X : List Nat} {w : World} (h : MkS w0 P T3 pc N L B4 c4 X w) {M : Nat} {cs : Array Value} {t : TypeId} (hm : HB w M cs t) (hM : w0.heap.size ≤ M) (t1 : t ≠ 40) (t2 : t ≠ 43) (t3 : t ≠ 37) (i : Nat) (v : Value) : MkS w0 P T3 pc N L B4 c4 X (w.setCell ⟨M, i, none⟩ v) := by
 have hc := Chg.setCell (S := fun k => k = M) w M i v rfl
 exact ⟨h.o.chg hc (fun k hk e => by cases hk; exact hm.ne_row h.o t1 e.symm), h.l, h.B.trans (hc.below (N := w0.heap.size) (fun k hk => by rw [hk]; exact hM) h.B.size), h.p.chg hc (fun e => hm.ne h.p t2 e.symm), h.g.chg hc (fun e => hm.ne h.g t3 e.symm)⟩
theorem HB.set3 {w : World} {M : Nat} {x y z : Value} {t : TypeId} (h : HB w M #[x, y, z] t) (v : Value) : HB (w.setCell ⟨M, 1, none⟩ v) M #[x, v, z] t := by
 obtain ⟨hlt, hk⟩ := Array.getElem?_eq_some_iff.1 h
 show (w.heap.modify M _)[M]? = _
 rw [Array.getElem?_eq_getElem (by rw [Array.size_modify]; exact hlt), Array.getElem_modify_self, hk]
 rfl
theorem mkenc15 (s c g : Nat) (w : World) (hs : s ≤ 2) :
 Calls Tryz.prog 85 #[.agg #[.int .i64 (s : Nat), .int .i64 (c : Nat), .int .u64 (g : Nat)]] w fun e w' => (∃ x : Int, e = .returned (.tuple #[.int .u64 (mkW s c g : Nat), .int .i64 x])) ∧ Below w.heap.size w w' := by
 cases h : okB (s : Nat) (c : Nat) (g : Nat) with
 | true =>
   refine (refEncode_t (s : Nat) (c : Nat) (g : Nat) w h (by omega)).mono ?_
   rintro e w' ⟨rfl, hb⟩
   exact ⟨⟨0, by unfold mkW; rw [if_pos h]; rw [show ((s + c * 4 + g * 65536 : Nat) : Int) = (s : Int) + (c : Int) * 4 + (g : Int) * 65536 from by omega]⟩, hb⟩
 | false =>
   refine (refEncode_f (s : Nat) (c : Nat) (g : Nat) w h).mono ?_
   rintro e w' ⟨rfl, hb⟩
   exact ⟨⟨1, by unfold mkW; rw [if_neg (by rw [h]; decide)]; rfl⟩, hb⟩
theorem openc15 (v : Value) (ops : List Ox) (w : World) (hv : OPL w v ops) (ho : OVs ops) :
 Calls Tryz.prog 83 #[v] w fun e w' => ∃ v' x, e = .returned (.tuple #[v', .int .i64 x]) ∧ OwnU w' w.heap.size v' (opW ops) ∧ Below w.heap.size w w' := by
 by_cases hr : rightB_rd ops = true
 ·refine (refEnc_own v ops w hv ho hr).mono ?_
  rintro e w' ⟨v', rfl, h1, hb⟩
  exact ⟨v', 0, rfl, by unfold opW; rw [if_pos hr]; exact h1, hb⟩
 have hz : opW ops = [] := by unfold opW; rw [if_neg hr]
 by_cases hl : ops.length ≤ 19
 ·refine (refEnc_arg v ops w hv ho hl (Bool.eq_false_iff.2 hr)).mono ?_
  rintro e w' ⟨rfl, hb⟩
  exact ⟨_, _, rfl, by rw [hz]; exact World.ownsRow_nil _ _ _ _, hb⟩
 refine (refEnc_full v ops w hv (by omega)).mono ?_
 rintro e w' ⟨rfl, hb⟩
 exact ⟨_, _, rfl, by rw [hz]; exact World.ownsRow_nil _ _ _ _, hb⟩
theorem entenc15 (gn : Nat) (a : Int) (A : Option Addr) (c : Nat) (l : List Nat) (w : World) (hg : gn < 18446744073709551616) (hv : KL .u64 w (.slice A l.length c) l) (hl : WL l) (hlen : l.length ≤ 800) :
 Calls Tryz.prog 80 #[.int .u64 (gn : Nat), .agg #[.int .i64 a, .slice A l.length c]] w fun e w' => ∃ v' x, e = .returned (.tuple #[v', .int .i64 x]) ∧ KL .u64 w' v' (if canB a l.length = true then encW gn a.toNat l else []) ∧ Below w.heap.size w w' := by
 by_cases hr : canB a l.length = true
 ·refine (refEncode_yes gn (a, .slice A l.length c, l) w hg hv hl hlen hr).mono ?_
  rintro e w' ⟨v', rfl, h1, hb⟩
  exact ⟨v', 0, rfl, by rw [if_pos hr]; exact h1, hb⟩
 refine (refEncode_no (gn : Nat) a A l.length c w (Bool.eq_false_iff.2 hr)).mono ?_
 rintro e w' ⟨rfl, hb⟩
 exact ⟨_, _, rfl, by rw [if_neg hr]; exact ⟨none, 0, rfl, fun h => by simp at h⟩, hb⟩
theorem entW_len {gn : Nat} : ∀ (es : List Pe), (∀ e ∈ es, e.2.length ≤ 20) → (entW gn es).length ≤ 22 * es.length
 | [], _ => by unfold entW; simp
 | e :: es, h => by
   have ih := entW_len (gn := gn) es (fun x hx => h x (List.mem_cons_of_mem _ hx))
   have he := h e (List.mem_cons_self)
   unfold entW at ih ⊢
   rw [List.flatMap_cons, List.length_append, List.length_cons]
   have : (if canB e.1 e.2.length = true then encW gn e.1.toNat e.2 else []).length ≤ 22 := by
    split
    ·unfold encW; simp; omega
    ·simp
   omega
theorem entW_take {gn : Nat} {es : List Pe} {k : Nat} (h : k < es.length) : entW gn (es.take (k + 1)) = entW gn (es.take k) ++ (if canB (es.getD k default).1 (es.getD k default).2.length = true then encW gn (es.getD k default).1.toNat (es.getD k default).2 else []) := by
 unfold entW
 rw [List.take_succ_eq_append_getElem h, List.flatMap_append, List.getD_eq_getElem?_getD, List.getElem?_eq_getElem h]
 simp
theorem wrapS (k : Int) (h0 : 0 ≤ k) (h : k ≤ 1000000) : IntKind.i64.wrap k = k := by rw [IntKind.wrap_i64]; omega
theorem make_f (p : Gv) (vT vF vI vS : Value) (xs : List ItV) (w : World) (hw : Lw w) (hM : GvM w vT vF vI vS xs p) (hB : GvB p) (hfw : fewB p = true) :
 Calls Tryz.prog 31 #[gvV p vT vF vI vS] w fun e w' => ∃ v', e = .returned v' ∧ OwnU w' w.heap.size v' (makeL p) ∧ rightT (madeT p.tiles (gvG p)) = true ∧ Below w.heap.size w w' := by
 obtain ⟨nT, hnT⟩ : ∃ n, p.tiles.length = n := ⟨_, rfl⟩
 obtain ⟨nF, hnF⟩ : ∃ n, p.fill.length = n := ⟨_, rfl⟩
 obtain ⟨nI, hnI⟩ : ∃ n, p.items.length = n := ⟨_, rfl⟩
 obtain ⟨nS, hnS⟩ : ∃ n, p.spoil.length = n := ⟨_, rfl⟩
 obtain ⟨AT, cT, rfl, -⟩ := hM.t.form hnT
 obtain ⟨AF, cF, rfl, -⟩ := hM.f.form hnF
 obtain ⟨AI, cI, rfl⟩ : ∃ A c, vI = .slice A nI c := by
  obtain ⟨A, c, h⟩ := EL.sl hM.i
  exact ⟨A, c, by rw [h, ← hnI, ← hM.x, List.length_map]⟩
 obtain ⟨AS, cS, rfl, -⟩ := EL.form hM.s hnS
 obtain ⟨hfw1, hfw2⟩ : (nT ≤ 20 ∧ nF ≤ 40 ∧ nI ≤ 4 ∧ nS ≤ 4) ∧ p.items.all fewI = true := by
  unfold fewB at hfw
  rw [Bool.and_eq_true, hnT, hnF, hnI, hnS] at hfw
  exact ⟨of_decide_eq_true hfw.1, hfw.2⟩
 obtain ⟨hT20, hF40, hI4, hS4⟩ := hfw1
 obtain ⟨g1, g2, g3, g4, g5, g6, g7⟩ := gv_geo p
 have hGe := lh (fun w1 => geom_any p AT AF AI AS nT cT nF cF nI cI nS cS w1 hB)
 have hm0 : make0 p = putL (((putL (List.replicate (gvN p) 0) 0 (headW (gvN p) (gvL p) (gvG p))).set 8 p.root).set 9 p.epoch) (10 + 73 * gvL p) (madeT p.tiles (gvG p)) := rfl
 have hm1 : make1 p = if p.fill.length = 0 then make0 p else fillK (make0 p) p.fill (10 + 73 * gvL p + gvG p) (32 * gvG p) := rfl
 have hm2 : make2 p = p.items.foldl (itemS (gvN p) (gvL p)) (make1 p) := rfl
 have hm3 : make3 p = p.spoil.foldl spoilS (make2 p) := rfl
 have hm4 : makeL p = if 0 < p.spoil.length ∧ (p.spoil.getD 0 default).1 % 2 = 0 then (make3 p).set 7 (moreN 0 ((make3 p).take 7)) else make3 p := rfl
 have hl0 := make0_len p
 have hl1 := make1_len p
 have hl2 := make2_len p
 have hl3 := make3_len p
 have hMd := lh (fun w1 (hb : Below w.heap.size w w1) => made_fn (.slice AT nT cT) p.tiles (gvG p) w1 (hw.keep hb) hB.t (hM.t.keep hb) (by omega) (by omega))
 have hW1 := lh (fun h => make1_WL (p := p) hB h)
 have hW3 := lh (fun h => make3_WL (p := p) hB h)
 have hNd : gvN p = 10 + 73 * gvL p + 33 * gvG p := rfl
 rw [hnF] at hm1
 rw [hnS] at hm4
 generalize make0 p = m0 at *
 generalize make1 p = m1 at *
 generalize make2 p = m2 at *
 generalize make3 p = m3 at *
 generalize makeL p = m4 at *
 generalize madeT p.tiles (gvG p) = tb at *
 have hIt := lh (fun w1 (hb : Below w.heap.size w w1) j (hj : j < nI) => hM.item hnI w1 hb j hj)
 generalize gvN p = N at *
 generalize gvL p = L at *
 generalize gvG p = G at *
 unfold gvV
 have hb1 := bZ w (.cells (gvC p (.slice AT nT cT) (.slice AF nF cF) (.slice AI nI cI) (.slice AS nS cS)) 43)
 have gP := HB.new w (gvC p (.slice AT nT cT) (.slice AF nF cF) (.slice AI nI cI) (.slice AS nS cS)) 43
 unfold gvC at hb1 gP
 unfold gvV at hGe
 generalize p.a = a at *
 generalize p.b = b at *
 have hr := hB.r
 have he := hB.e
 generalize p.root = r at *
 generalize p.epoch = ep at *
 obtain ⟨pc, hpc⟩ : ∃ pc : Array Value, #[.int .u8 (a : Nat), .int .u8 (b : Nat), .slice AT nT cT, .slice AF nF cF, .slice AI nI cI, .int .u64 (r : Nat), .int .u64 (ep : Nat), .slice AS nS cS] = pc := ⟨_, rfl⟩
 have hPc := lh (fun P w1 (h : HB w1 P pc 43) => show w1.cell? ⟨P, 0, none⟩ = some (.int .u8 (a : Nat)) ∧ w1.cell? ⟨P, 1, none⟩ = some (.int .u8 (b : Nat)) ∧ w1.cell? ⟨P, 2, none⟩ = some (.slice AT nT cT) ∧ w1.cell? ⟨P, 3, none⟩ = some (.slice AF nF cF) ∧ w1.cell? ⟨P, 4, none⟩ = some (.slice AI nI cI) ∧ w1.cell? ⟨P, 5, none⟩ = some (.int .u64 (r : Nat)) ∧ w1.cell? ⟨P, 6, none⟩ = some (.int .u64 (ep : Nat)) ∧ w1.cell? ⟨P, 7, none⟩ = some (.slice AS nS cS) from by
  rw [← hpc] at h
  exact ⟨(row_cell h 0).1, (row_cell h 1).1, (row_cell h 2).1, (row_cell h 3).1, (row_cell h 4).1, (row_cell h 5).1, (row_cell h 6).1, (row_cell h 7).1⟩)
 rw [hpc] at hb1 gP hGe ⊢
 have hP8 := lh (fun w1 (h : HB w1 w.heap.size pc 43) => hPc.out w.heap.size w1 h)
 obtain ⟨wa, hwa⟩ : ∃ x, w.alloc (.cells pc 43) = x := ⟨_, rfl⟩
 have hsa : wa.heap.size = w.heap.size + 1 := by rw [← hwa]; simp
 rw [hwa] at hb1 gP
 obtain ⟨P, hP⟩ : ∃ P, w.heap.size = P := ⟨_, rfl⟩
 rw [hP] at gP hP8
 obtain ⟨F, hF⟩ : ∃ F, 10 + 73 * L = F := ⟨_, rfl⟩
 rw [hF] at hm0 hm1
 have hFi : (10 + 73 * (L : Int)) = (F : Int) := by omega
 have hN8 : N ≤ 500 := by omega
 have hN1 : 100 ≤ N := by omega
 have hF5 : F ≤ 500 := by omega
 obtain ⟨A, hA⟩ : ∃ A, F + G = A := ⟨_, rfl⟩
 obtain ⟨Q, hQ⟩ : ∃ Q, 32 * G = Q := ⟨_, rfl⟩
 have hAQ1 : A + Q ≤ N := by omega
 have hAQ2 : N ≤ A + Q := by omega
 rw [hA, hQ] at hm1
 have hA' : (F : Int) + (G : Int) = (A : Int) := by omega
 have hQ1 : 1 ≤ Q := by omega
 replace hA := lh hA
 replace hQ := lh hQ
 replace hA' := lh hA'
 have hFN : F + G + 32 * G = N := by omega
 have hTb := lh (fun w1 => refTable_t (N : Nat) (L : Nat) w1 g1)
 rw [hFi, g2] at hTb
 have hEn := lh (fun w1 => renc_t N L G w1 g1 g2)
 obtain ⟨i0, hi, hz0, hz1, hz2⟩ := info_parts infoU64
 replace hm0 := lh hm0
 replace hm1 := lh hm1
 replace hm2 := lh hm2
 replace hm3 := lh hm3
 replace hm4 := lh hm4
 replace hnT := lh hnT
 replace hnF := lh hnF
 replace hnI := lh hnI
 replace hnS := lh hnS
 replace hl0 := lh hl0
 replace hl1 := lh hl1
 replace hl2 := lh hl2
 replace hl3 := lh hl3
 replace hNd := lh hNd
 replace hF := lh hF
 replace hFi := lh hFi
 have hFN2 := lh hFN
 clear hFN
 have hFl := lh (fun w1 (hb : Below w.heap.size w w1) => hM.f.keep hb)
 have hSp := lh (fun w1 (hb : Below w.heap.size w w1) k (hk : k < nS) => by
  obtain ⟨A9, c9, hv9, h9⟩ := EL.form hM.s hnS.out
  obtain ⟨g, off, hA9, h2, h3, h4, h5⟩ := h9 w1 k hb hk
  exact (show ∃ g off, AS = some ⟨g, off, none⟩ ∧ nS ≤ cS ∧ g < w1.heap.size ∧ w1.cell? ⟨g, off + k * 2, none⟩ = some (.int .u16 ((p.spoil.getD k default).1 : Nat)) ∧ w1.cell? ⟨g, off + k * 2 + 1, none⟩ = some (.int .u64 ((p.spoil.getD k default).2 : Nat)) ∧ (p.spoil.getD k default).1 < 65536 from by
   cases hv9
   exact ⟨g, off, hA9, h2, h4, h5 0 (by decide), h5 1 (by decide), (hB.s _ (by rw [List.getD_eq_getElem?_getD, List.getElem?_eq_getElem (by have := hnS.out; omega)]; exact List.getElem_mem _)).1⟩))
 have hSs := lh (fun k (hk : k < nS) => show (p.spoil.take (k + 1)).foldl spoilS m2 = spoilS ((p.spoil.take k).foldl spoilS m2) (p.spoil.getD k default) from by
  rw [List.take_succ_eq_append_getElem (by have := hnS.out; omega), List.foldl_append, List.getD_eq_getElem?_getD, List.getElem?_eq_getElem (by have := hnS.out; omega)]; rfl)
 have hSe := lh (show (p.spoil.take nS).foldl spoilS m2 = m3 from by rw [List.take_of_length_le (by have := hnS.out; omega)]; exact hm3.out.symm)
 obtain ⟨z0, z1, z2, z3, z4, z5, z6, z7⟩ := hP8.out wa gP
 go_enter Tryz.func31, Tryz.ntmps31
 subst hwa
 subst hpc
 go_wp2_with fail
 refine (hGe.out _).mono ?_
 rintro e w1 ⟨rfl, hb2⟩
 have hB1 := hb1.trans (hb2.mono hb1.size)
 have gP1 := gP.keep hb2
 obtain ⟨T3, hT3⟩ : ∃ T, w1.heap.size = T := ⟨_, rfl⟩
 have gG := HB.new w1 #[.int .i64 (N : Nat), .int .i64 (L : Nat)] 37
 have hb3 := bZ w1 (.cells #[.int .i64 (N : Nat), .int .i64 (L : Nat)] 37)
 have gP2 := gP1.keep hb3
 have hB2 := hB1.trans (hb3.mono hB1.size)
 rw [hT3] at gG
 obtain ⟨q0, q1⟩ := gG.c2
 clear z0 z1 z2 z3 z4 z5 z6 z7 hb1 gP hGe hb2 hB1 gP1 hb3
 go_wp2_with (at_make; refine wpList_make_full _ rfl _ _ 25 rfl w.heap.size 40 i0 (.int .u64 0) 1 Tryz.underlying25 hi hz0 hz1 .i64 .i64 _ _ N rfl rfl rfl rfl (by rw [hz2]; omega) (by unfold maxLen; omega) hB2.size ?_; intro w2 hown hgr; have gG5 := gG.grown hgr; have gP5 := gP2.grown hgr; obtain ⟨s0, s1⟩ := gG5.c2; replace hown := lh hown; replace hgr := lh hgr)
 have hB5 : Below w.heap.size w w2 := hB2.grown hgr.out hB2.size (by simp)
 have hO : OwnU w2 w.heap.size (.slice (some ⟨T3 + 1, 0, none⟩) N N) (List.replicate N 0) := by
  have q := hown.out
  rw [show (madeCells (Value.int IntKind.u64 0).cells (N * 1)).toList = List.replicate N (Value.int .u64 0) by rw [Nat.mul_one]; exact toList_madeCells_one _ _] at q
  unfold OwnU
  rw [List.length_replicate, List.map_replicate]
  first | exact q | (have hs1 : (w1.alloc (.cells #[.int .i64 (N : Nat), .int .i64 (L : Nat)] 37)).heap.size = T3 + 1 := by simp; omega
                     rw [hs1] at q; exact q)
 have hS : MkS w P T3 #[.int .u8 (a : Nat), .int .u8 (b : Nat), .slice AT nT cT, .slice AF nF cF, .slice AI nI cI, .int .u64 (r : Nat), .int .u64 (ep : Nat), .slice AS nS cS] N L (T3 + 1) N (List.replicate N 0) w2 := ⟨hO, List.length_replicate, hB5, gP5, gG5⟩
 clear q0 q1 gG gP2 hB2 hown hgr hO hB5 gP5 gG5
 refine (hEn.out _).mono ?_
 rintro e w3 ⟨vH, rfl, hSH, hb3⟩
 have hS3 := hS.keep hb3
 have hKH := hSH.kl
 obtain ⟨AH, cH, rfl, hHf⟩ := hKH.form (headW_len N L G)
 have hnH : ∀ g o m c, (Value.slice AH 8 cH) = .slice (some ⟨g, o, none⟩) m c → 0 < (headW N L G).length → ¬ g = T3 + 1 := fun g o m c q _ => by
  obtain ⟨g2, o2, hA2, _, _, c0⟩ := hHf w3 0 (Below.refl _ _) (by omega)
  simp only [Value.slice.injEq] at q
  rw [hA2] at q
  obtain ⟨q1, -, -⟩ := q
  cases q1
  exact zeros_ne (x := 6076272092419149644) hS3.o c0 (by decide)
 have hPu := put_any15 (T3 + 1) N N 0 (.slice AH 8 cH) (List.replicate N 0) (headW N L G) w.heap.size w3 hS3.o hS3.l (fun w4 hc => hKH.chg hc (fun g o m c q hl => hnH g o m c q hl)) (by omega) (by rw [headW_len]; omega) (by omega)
 clear s0 s1 hS hb3 hSH
 have hPL : (putL (List.replicate N 0) 0 (headW N L G)).length = N := by rw [putL_len, List.length_replicate]
 go_wp2_with fail
 refine hPu.mono ?_
 rintro e w4 ⟨rfl, ho4, hc4⟩
 have hS4 := hS3.chg hc4 ho4 hPL
 obtain ⟨X4, hX4⟩ : ∃ X, putL (List.replicate N 0) 0 (headW N L G) = X := ⟨_, rfl⟩
 rw [hX4] at hS4 hm0
 replace hX4 := lh hX4
 obtain ⟨z0, z1, z2, z3, z4, z5, z6, z7⟩ := hP8.out w4 hS4.p
 obtain ⟨y0, f0⟩ := hS4.o.cell (i := 8) hS4.l (by omega)
 have hS5 := hS4.set 8 r (by omega)
 have hS6 := hS5.set 9 ep (by omega)
 have x8 : (8 : Int) < (N : Int) := by omega
 have x9 : (9 : Int) < (N : Int) := by omega
 obtain ⟨y1, f1⟩ := hS5.o.cell (i := 9) hS5.l (by omega)
 obtain ⟨-, -, -, -, -, -, t6, -⟩ := hP8.out _ hS5.p
 obtain ⟨q0, q1⟩ := hS6.g.c2
 clear hPu hHf hnH hKH hS3 ho4 hc4 hPL hEn
 go_wp2_with fail
 refine (hTb.out _).mono ?_
 rintro e w5 ⟨rfl, hb5⟩
 have hS6b := hS6.keep hb5
 have gT7 := HB.new w5 #[.int .i64 (F : Nat), .int .i64 (G : Nat)] 70
 have hb6 := bZ w5 (.cells #[.int .i64 (F : Nat), .int .i64 (G : Nat)] 70)
 have hS7' := hS6b.keep hb6
 obtain ⟨T7, hT7⟩ : ∃ T, w5.heap.size = T := ⟨_, rfl⟩
 rw [hT7] at gT7
 clear z0 z1 z2 z3 z4 z5 z6 z7 y0 f0 y1 f1 t6 q0 q1 hS4 hS5 hS6 hS6b hb5 hb6 x8 x9 hTb
 go_wp2_with fail
 try rw [hT7]
 obtain ⟨w7, hw7⟩ : ∃ x, w5.alloc (.cells #[.int .i64 (F : Nat), .int .i64 (G : Nat)] 70) = x := ⟨_, rfl⟩
 rw [hw7] at gT7 hS7' ⊢
 have hS7 := hS7'
 clear hS7' hw7
 obtain ⟨X7, hX7⟩ : ∃ X, (X4.set 8 r).set 9 ep = X := ⟨_, rfl⟩
 rw [hX7] at hS7 hm0
 replace hX7 := lh hX7
 have hCF := lh (fun w' (hb : Below w7.heap.size w7 w') => show (w'.cell? ⟨T7, 0, none⟩ = some (.int .i64 (F : Nat)) ∧ w'.cell? ⟨T7, 1, none⟩ = some (.int .i64 (G : Nat))) ∧ w'.cell? ⟨P, 2, none⟩ = some (.slice AT nT cT) from ⟨(gT7.keep hb).c2, (hP8.out w' (hS7.keep hb).p).2.2.1⟩)
 refine wp_region_tail (S := (fun w' => Below w7.heap.size w7 w')) (n := 8) (by kernel_rfl) (Below.refl _ _).drew (fun hHeld hInv => ?_) (by decide)
 refine takeHS 0 hInv ?_; clear hInv; intro hInv
 refine takeHS 1 hInv ?_; clear hInv; intro hInv
 refine takeHS 2 hInv ?_; clear hInv; intro hInv
 refine takeHS 3 hInv ?_; clear hInv; intro hInv
 refine takeHS 4 hInv ?_; clear hInv; intro hInv
 refine takeHS 5 hInv ?_; clear hInv; intro hInv
 refine takeHS 6 hInv ?_; clear hInv; intro hInv
 refine oneS 7 hInv (by decide) rfl (by kernel_rfl) (fun K hK => ?_)
 go_simp
 refine (hMd.out _ (hS7.B.trans (hHeld.mono hS7.B.size))).mono ?_
 rintro e w8 ⟨vM, rfl, hoM, ⟨hrT, hlM⟩, hb⟩
 obtain ⟨AM, cM, rfl, hAM⟩ := hoM.kl.form rfl
 refine hK.out _ _ (hHeld.trans (hb.mono hHeld.size)) (fun hHeld2 hInv2 => ?_)
 clear hK K hHeld hInv
 have hHeld := hHeld2
 have hInv := hInv2
 clear hHeld2 hInv2
 try simp only [Act.put,sA,sB,sC] at hInv ⊢
 refine lastS 8 rfl (by decide) (by kernel_rfl) (fun K hK => ?_)
 have hS8 := hS7.keep hHeld
 have gT8 := gT7.keep hHeld
 have hPu := put_any15 (T3 + 1) N N F (.slice AM tb.length cM) X7 tb w.heap.size w8 hS8.o hS8.l (fun w9 hc => hoM.kl.chg hc (fun g o m c q hl => by
  have h9 : w7.heap.size ≤ g := (hoM.lt g (by rw [q]; rfl)).1
  have h3 := (OwnU_row hS7.o).2
  obtain ⟨cur, h3⟩ := h3
  have h4 := (Array.getElem?_eq_some_iff.1 h3).1
  omega)) (by omega) (by omega) (by omega)
 go_simp
 refine hPu.mono ?_
 rintro e w9 ⟨rfl, ho9, hc9⟩
 refine hK.out _ _ ?_
 clear hK K
 try simp only [Act.put,sA,sB,sC]
 refine wpAnyS_done (by kernel_rfl) ?_ _
 have hS9 := hS8.chg hc9 ho9 (by rw [putL_len]; exact hS8.l)
 rw [← hm0.out] at hS9
 have gT9 := gT8.chg hc9 (gT8.ne_row hS8.o (by decide))
 have hWm1 := hW1.out hrT
 have hWm3 := hW3.out hrT
 obtain ⟨q0, q1⟩ := gT9.c2
 have hFG := hA'.out
 have hwA : IntKind.i64.wrap (A : Int) = (A : Int) := wrapS _ (by omega) (by omega)
 clear hCF hInv hHeld hS7 hS8 gT7 gT8 hPu ho9 hc9 hoM hAM hMd hb hlM hW1 hW3
 go_upto_block 0 with fail
 clear q0 q1 hFG
 go_cut [8] from 57 to 80 (fun s8 wx => s8 = s8 ∧ MkS w P T3 #[.int .u8 (a : Nat), .int .u8 (b : Nat), .slice AT nT cT, .slice AF nF cF, .slice AI nI cI, .int .u64 (r : Nat), .int .u64 (ep : Nat), .slice AS nS cS] N L (T3 + 1) N m1 wx)
 case first =>
  go_wp2_with fail
  by_cases hz : nF = 0
  ·subst hz
   go_loopw [8] (fun i wr => i = .int .i64 (A : Nat) ∧ wr = w9) (fun _ _ => 0)
   case atStart => exact ⟨rfl, rfl⟩
   obtain ⟨rfl, rfl⟩ := hrel
   have hNA : (A : Int) < (N : Int) := by omega
   obtain ⟨z0, z1, z2, z3, z4, z5, z6, z7⟩ := hP8.out _ hS9.p
   rw [show m0 = m1 from by rw [hm1.out]; simp] at hS9
   go_wp2_with fail
   go_meet
   exact ⟨trivial, hS9⟩
  have hnz : 0 < nF := by omega
  go_loopw [8] (fun i wr => ∃ k : Nat, k ≤ Q ∧ i = .int .i64 ((A + k : Nat) : Int) ∧ MkS w P T3 #[.int .u8 (a : Nat), .int .u8 (b : Nat), .slice AT nT cT, .slice AF nF cF, .slice AI nI cI, .int .u64 (r : Nat), .int .u64 (ep : Nat), .slice AS nS cS] N L (T3 + 1) N (fillK m0 p.fill A k) wr) (fun i _ => N + 1 - (intOf i).toNat)
  case atStart => exact ⟨0, Nat.zero_le _, rfl, hS9⟩
  obtain ⟨k, hk, rfl, hSr⟩ := hrel
  clear hS9 gT9
  obtain ⟨z0, z1, z2, z3, z4, z5, z6, z7⟩ := hP8.out _ hSr.p
  obtain ⟨q, hq⟩ : ∃ q, A + k = q := ⟨_, rfl⟩
  rw [hq]
  by_cases hlt : k < Q
  rotate_left
  ·obtain rfl : k = Q := by omega
   obtain rfl : N = q := by omega
   rw [show fillK m0 p.fill A k = m1 from by rw [hm1.out, if_neg (by omega)]] at hSr
   go_wp2_with fail
   go_meet
   exact ⟨trivial, hSr⟩
  have hqN : q < N := by omega
  have hqN' : (q : Int) < (N : Int) := by omega
  have hnF1' : (0 : Int) < (nF : Int) := by omega
  obtain ⟨m5, hm5⟩ : ∃ m5, q % nF = m5 := ⟨_, rfl⟩
  have hm5l : m5 < nF := by rw [← hm5]; exact Nat.mod_lt _ (by omega)
  have hr1 : (q : Int) % (nF : Int) = (m5 : Int) := by rw [← hm5]; rfl
  have hr2 : (q : Int).tmod (nF : Int) = (m5 : Int) := by rw [Int.tmod_eq_emod_of_nonneg (by omega)]; exact hr1
  have hr3 : ¬ (nF : Int) = 0 := by omega
  have hr3' : ¬ nF = 0 := by omega
  have hm5' : (m5 : Int) < (nF : Int) := by omega
  have hst : fillK m0 p.fill A (k + 1) = (fillK m0 p.fill A k).set q (p.fill.getD m5 0) := by rw [fillK, hq, hnF.out, hm5]
  obtain ⟨A9, c9, hv9, hK9⟩ := (hFl.out wr hSr.B).form hnF.out
  cases hv9
  obtain ⟨gf, off, rfl, hcF, hgf, c0⟩ := hK9 wr m5 (Below.refl _ _) hm5l
  have hgf2 := World.block_lt_of_cell? wr _ c0
  obtain ⟨y0, f0⟩ := hSr.o.cell (i := q) hSr.l hqN
  have hSn := hSr.set q (p.fill.getD m5 0) hqN
  rw [← hst] at hSn
  obtain ⟨x, hx⟩ : ∃ x, p.fill.getD m5 0 = x := ⟨_, rfl⟩
  rw [hx] at c0 hSn
  replace hx := lh hx
  replace hq := lh hq
  replace hm5 := lh hm5
  replace hst := lh hst
  generalize fillK m0 p.fill A k = X at *
  have hCF := lh (fun w' (hb : Below wr.heap.size wr w') => show (w'.cell? ⟨gf, off + m5, none⟩ = some (.int .u64 (x : Nat)) ∧ w'.cell? ⟨P, 3, none⟩ = some (.slice (some ⟨gf, off, none⟩) nF cF)) ∧ w'.cell? ⟨T3 + 1, q, none⟩ = some (.int .u64 (X.getD q 0 : Nat)) ∧ w'.frozen? ⟨T3 + 1, q, none⟩ = false from ⟨⟨((bcell hb).1 _ _ hgf2).trans c0, (hP8.out w' (hSr.keep hb).p).2.2.2.1⟩, (hSr.keep hb).o.cell hSr.l hqN⟩)
  clear c0 y0 f0 hK9
  go_wp2_with fail
  refine wp_region_tail (S := (fun w' => Below wr.heap.size wr w')) (n := 12) (by kernel_rfl) (Below.refl _ _).drew (fun hHeld hInv => ?_) (by decide)
  refine takeHS 0 hInv ?_; clear hInv; intro hInv
  refine takeHS 1 hInv ?_; clear hInv; intro hInv
  refine takeHS 2 hInv ?_; clear hInv; intro hInv
  refine takeHS 3 hInv ?_; clear hInv; intro hInv
  refine takeHS 4 hInv ?_; clear hInv; intro hInv
  refine takeHS 5 hInv ?_; clear hInv; intro hInv
  refine takeHS 6 hInv ?_; clear hInv; intro hInv
  refine takeHS 7 hInv ?_; clear hInv; intro hInv
  refine takeHS 8 hInv ?_; clear hInv; intro hInv
  refine takeHS 9 hInv ?_; clear hInv; intro hInv
  refine takeHS 10 hInv ?_; clear hInv; intro hInv
  refine takeHS 11 hInv ?_; clear hInv; intro hInv
  refine lastS 12 rfl (by decide) (by kernel_rfl) (fun K hK => ?_)
  have zz := hCF.out _ hHeld
  obtain ⟨⟨v0, v1⟩, v2, v3⟩ := zz
  go_simp
  refine hK.out _ _ ?_
  clear hK K
  try simp only [Act.put,sA,sB,sC]
  refine wpAnyS_done (by kernel_rfl) ?_ _
  clear hCF hInv hHeld
  go_wp2_with fail
  go_roundw
  case rel => exact ⟨k + 1, by omega, by rw [← hq.out]; go_num, hSn.drewL⟩
  first | (simp [intOf]; done) | (simp [intOf]; omega)
 obtain ⟨-, hSr⟩ := hcut
 clear hS9 gT9
 go_wp2_with fail
 have hWL := lh (fun j => show WL ((p.items.take j).foldl (itemS N L) m1) from foldl_WL _ _ (fun X hX x hx => itemX_WL hX (hB.i x (List.mem_of_mem_take hx)).2.2.2.1 (hB.i x (List.mem_of_mem_take hx)).2.2.2.2) hWm1)
 have hSt := lh (fun j (hj : j < nI) => show (p.items.take (j + 1)).foldl (itemS N L) m1 = itemS N L ((p.items.take j).foldl (itemS N L) m1) (p.items.getD j default) from by
  rw [List.take_succ_eq_append_getElem (by have := hnI.out; omega), List.foldl_append, List.getD_eq_getElem?_getD, List.getElem?_eq_getElem (by have := hnI.out; omega)]; rfl)
 have hEnd := lh (show (p.items.take nI).foldl (itemS N L) m1 = m2 from by rw [List.take_of_length_le (by have := hnI.out; omega)]; exact hm2.out.symm)
 have hMkr := lh (fun (l9 : Nat) (hl : l9 < L) w1 => show Calls Tryz.prog 86 #[.agg #[.int .i64 (N : Nat), .int .i64 (L : Nat)], .int .i64 (l9 : Nat)] w1 (fun e w' => e = .returned (.int .i64 ((10 + l9 : Nat) : Int)) ∧ Below w1.heap.size w1 w') from by
  have h := refMark_t (N : Nat) (L : Nat) (l9 : Nat) w1 (by unfold lOk; rw [g1, Bool.true_and]; exact decide_eq_true (by omega))
  rw [show ((10 + l9 : Nat) : Int) = 10 + (l9 : Int) from by omega]
  exact h)
 have hRdr := lh (fun (l9 : Nat) (hl : l9 < L) w1 => show Calls Tryz.prog 84 #[.agg #[.int .i64 (N : Nat), .int .i64 (L : Nat)], .int .i64 (l9 : Nat)] w1 (fun e w' => e = .returned (.agg #[.int .i64 ((10 + L + l9 * 72 + 32 : Nat) : Int), .int .i64 40]) ∧ Below w1.heap.size w1 w') from by
  have h := refRedo_t (N : Nat) (L : Nat) (l9 : Nat) w1 (by unfold lOk; rw [g1, Bool.true_and]; exact decide_eq_true (by omega))
  rw [show ((10 + L + l9 * 72 + 32 : Nat) : Int) = 10 + (L : Int) + (l9 : Int) * 72 + 32 from by omega]
  exact h)
 have hLgr := lh (fun (l9 : Nat) v X w1 (hb : Below w.heap.size w w1) (hX : X.length = N) (hWX : WL X) (hv : KL .u64 w1 v X) => rlog_any v X (N : Nat) (L : Nat) (l9 : Nat) w1 (hw.keep hb) hWX hv (by omega) (fun hp => by have := pool_size (gOk_pool (pool_t hp).1).2; omega))
 have hLgP := lh (fun (l9 : Nat) (X : List Nat) (hX : X.length = N) => show PBs (logP X (N : Nat) (L : Nat) (l9 : Nat)) ∧ (logP X (N : Nat) (L : Nat) (l9 : Nat)).length ≤ 1000 from by
  unfold logP
  split
  ·rename_i hl
   unfold laneB at hl
   rw [Bool.and_eq_true] at hl
   have h4 := of_decide_eq_true hl.2
   have hg9 : gOk (X.length : Nat) ((L : Int).toNat : Nat) = true := by rw [hX]; exact g1
   refine ⟨logSp_PB hg9 (by omega), ?_⟩
   have := logSp_len (ln := (l9 : Int).toNat) hg9
   have := (pool_size hg9).2.2.2.2.2.2.1
   have := (pool_size hg9).2.2.2.2.2.2.2
   omega
  exact ⟨fun x hx => (by cases hx), by simp⟩)
 have hS0 := hSr
 go_loopw [9, 4] (fun i v4 wr => ∃ (j B4 c4 : Nat), j ≤ nI ∧ i = .int .i64 (j : Nat) ∧ v4 = .slice (some ⟨B4, 0, none⟩) N c4 ∧ MkS w P T3 #[.int .u8 (a : Nat), .int .u8 (b : Nat), .slice AT nT cT, .slice AF nF cF, .slice AI nI cI, .int .u64 (r : Nat), .int .u64 (ep : Nat), .slice AS nS cS] N L B4 c4 ((p.items.take j).foldl (itemS N L) m1) wr) (fun i _ _ => nI + 1 - (intOf i).toNat)
 case atStart => exact ⟨0, T3 + 1, N, Nat.zero_le _, rfl, rfl, hS0⟩
 obtain ⟨j, B4, c4, hj, rfl, rfl, hS⟩ := hrel
 clear hSr hS0
 have hwl := hWL.out j
 have hst0 := lh (hSt.out j)
 obtain ⟨X, hX⟩ : ∃ X, (p.items.take j).foldl (itemS N L) m1 = X := ⟨_, rfl⟩
 rw [hX] at hS hwl hst0
 obtain ⟨z0, z1, z2, z3, z4, z5, z6, z7⟩ := hP8.out _ hS.p
 by_cases hlt : j < nI
 rotate_left
 ·obtain rfl : nI = j := by omega
  rw [hEnd.out] at hX
  subst hX
  clear hst0 hlt hwl hWL hSt hEnd hIt hMkr hRdr hLgr hLgP
  have hWm3 := hWm3
  go_wp2_with fail
  clear z0 z1 z2 z3 z4 z5 z6 z7
  go_loopw [19] (fun i wq => ∃ (k : Nat), k ≤ nS ∧ i = .int .i64 (k : Nat) ∧ MkS w P T3 #[.int .u8 (a : Nat), .int .u8 (b : Nat), .slice AT nT cT, .slice AF nF cF, .slice AI nI cI, .int .u64 (r : Nat), .int .u64 (ep : Nat), .slice AS nS cS] N L B4 c4 ((p.spoil.take k).foldl spoilS m2) wq) (fun i _ => nS + 1 - (intOf i).toNat)
  case atStart => exact ⟨0, Nat.zero_le _, rfl, hS⟩
  obtain ⟨k, hk, rfl, hS2⟩ := hrel
  clear hS
  obtain ⟨z0, z1, z2, z3, z4, z5, z6, z7⟩ := hP8.out _ hS2.p
  by_cases hltk : k < nS
  ·have hltk' : (k : Int) < (nS : Int) := by omega
   obtain ⟨gs, os, rfl, hcs, hgs, d0, d1, d2⟩ := hSp.out wr hS2.B k hltk
   have hss := hSs.out k hltk
   obtain ⟨X, hX⟩ : ∃ X, (p.spoil.take k).foldl spoilS m2 = X := ⟨_, rfl⟩
   rw [hX] at hS2 hss
   obtain ⟨at', hat⟩ : ∃ a, (p.spoil.getD k default).1 = a := ⟨_, rfl⟩
   obtain ⟨vv, hvv⟩ : ∃ a, (p.spoil.getD k default).2 = a := ⟨_, rfl⟩
   obtain ⟨m5, hm5⟩ : ∃ m, at' % N = m := ⟨_, rfl⟩
   have hss2 : (p.spoil.take (k + 1)).foldl spoilS m2 = X.set m5 vv := by rw [hss]; unfold spoilS; rw [hS2.l, hat, hvv, hm5]
   rw [hat] at d0 d2
   rw [hvv] at d1
   have hm5N : m5 < N := by rw [← hm5]; exact Nat.mod_lt _ (by omega)
   have r1 : (at' : Int) % (N : Int) = (m5 : Int) := by rw [← hm5]; rfl
   have r2 : (at' : Int).tmod (N : Int) = (m5 : Int) := by rw [Int.tmod_eq_emod_of_nonneg (by omega)]; exact r1
   have r3 : ¬ (N : Int) = 0 := by omega
   have r3' : ¬ N = 0 := by omega
   have r4 : IntKind.i64.wrap (at' : Int) = (at' : Int) := wrapS _ (by omega) (by omega)
   have r5 : (m5 : Int) < (N : Int) := by omega
   have hSn := hS2.set m5 vv hm5N
   rw [← hss2] at hSn
   replace hss2 := lh hss2
   replace hX := lh hX
   replace hat := lh hat
   replace hvv := lh hvv
   replace hm5 := lh hm5
   obtain ⟨Xd, hXd⟩ : ∃ x, X.getD m5 0 = x := ⟨_, rfl⟩
   have hCF := lh (fun w' (hb : Below wr.heap.size wr w') => show (w'.cell? ⟨gs, os + k * 2, none⟩ = some (.int .u16 (at' : Nat)) ∧ w'.cell? ⟨gs, os + k * 2 + 1, none⟩ = some (.int .u64 (vv : Nat)) ∧ w'.cell? ⟨P, 7, none⟩ = some (.slice (some ⟨gs, os, none⟩) nS cS)) ∧ (w'.cell? ⟨B4, m5, none⟩ = some (.int .u64 (Xd : Nat)) ∧ w'.frozen? ⟨B4, m5, none⟩ = false) from ⟨⟨((bcell hb).1 _ _ hgs).trans d0, ((bcell hb).1 _ _ hgs).trans d1, (hP8.out w' (hS2.keep hb).p).2.2.2.2.2.2.2⟩, by rw [← hXd]; exact (hS2.keep hb).o.cell hS2.l hm5N⟩)
   replace hXd := lh hXd
   clear d0 d1 hss z0 z1 z2 z3 z4 z5 z6
   go_wp2_with fail
   refine wp_region_tail (S := (fun w' => Below wr.heap.size wr w')) (n := 18) (by kernel_rfl) (Below.refl _ _).drew (fun hHeld hInv => ?_) (by decide)
   refine takeHS 0 hInv ?_; clear hInv; intro hInv
   refine takeHS 1 hInv ?_; clear hInv; intro hInv
   refine takeHS 2 hInv ?_; clear hInv; intro hInv
   refine takeHS 3 hInv ?_; clear hInv; intro hInv
   refine takeHS 4 hInv ?_; clear hInv; intro hInv
   refine takeHS 5 hInv ?_; clear hInv; intro hInv
   refine takeHS 6 hInv ?_; clear hInv; intro hInv
   refine takeHS 7 hInv ?_; clear hInv; intro hInv
   refine takeHS 8 hInv ?_; clear hInv; intro hInv
   refine takeHS 9 hInv ?_; clear hInv; intro hInv
   refine takeHS 10 hInv ?_; clear hInv; intro hInv
   refine takeHS 11 hInv ?_; clear hInv; intro hInv
   refine takeHS 12 hInv ?_; clear hInv; intro hInv
   refine takeHS 13 hInv ?_; clear hInv; intro hInv
   refine takeHS 14 hInv ?_; clear hInv; intro hInv
   refine takeHS 15 hInv ?_; clear hInv; intro hInv
   refine takeHS 16 hInv ?_; clear hInv; intro hInv
   refine takeHS 17 hInv ?_; clear hInv; intro hInv
   refine lastS 18 rfl (by decide) (by kernel_rfl) (fun K hK => ?_)
   have zz := hCF.out _ hHeld
   obtain ⟨⟨v0, v1, v2⟩, v3, v4⟩ := zz
   go_simp
   refine hK.out _ _ ?_
   clear hK K
   try simp only [Act.put,sA,sB,sC]
   refine wpAnyS_done (by kernel_rfl) ?_ _
   clear hCF hInv hHeld
   go_wp2_with fail
   go_roundw
   case rel => exact ⟨k + 1, by omega, by go_num, hSn.drewL⟩
   first | (simp [intOf]; done) | (simp [intOf]; omega)
  obtain rfl : nS = k := by omega
  rw [hSe.out] at hS2
  have hltk' : decide ((nS : Int) < (nS : Int)) = false := decide_eq_false (by omega)
  by_cases hk0 : nS = 0
  ·have hno := lh (show m4 = m3 from by rw [hm4.out, if_neg (by omega)])
   have hk0' : decide ((0 : Int) < (nS : Int)) = false := decide_eq_false (by omega)
   have hk1' : ¬ (0 : Int) < (nS : Int) := by omega
   go_wp2_with fail
   go_ret
   have qo := hS2.o
   have qb := hS2.B
   rw [← hno.out] at qo
   first | exact ⟨_, rfl, qo, hrT, qb⟩ | exact ⟨_, rfl, qo, qb⟩ | exact ⟨qo, hrT, qb⟩ | (rw [hP] at qo qb; first | exact ⟨_, rfl, qo, hrT, qb⟩ | exact ⟨_, rfl, qo, qb⟩ | exact ⟨qo, hrT, qb⟩)
  obtain ⟨gs, os, rfl, hcs, hgs, d0, -, d2⟩ := hSp.out wr hS2.B 0 (by omega)
  obtain ⟨at', hat⟩ : ∃ a, (p.spoil.getD 0 default).1 = a := ⟨_, rfl⟩
  rw [hat] at d0 d2
  rw [Nat.zero_mul, Nat.add_zero] at d0
  have hm4' := hm4.out
  rw [hat] at hm4'
  have hk0' : (0 : Int) < (nS : Int) := by omega
  obtain ⟨p2, hp2⟩ : ∃ x, at' % 2 = x := ⟨_, rfl⟩
  have r1 : (at' : Int) % 2 = (p2 : Int) := by omega
  have r2 : (at' : Int).tmod 2 = (p2 : Int) := by rw [Int.tmod_eq_emod_of_nonneg (by omega)]; exact r1
  replace hat := lh hat
  by_cases hz : p2 = 0
  rotate_left
  ·have hno := lh (show m4 = m3 from by rw [hm4', if_neg (fun q => by omega)])
   have hz' : ¬ (p2 : Int) = 0 := by omega
   replace hp2 := lh hp2
   clear hm4'
   go_wp2_with fail
   go_ret
   have qo := hS2.o
   have qb := hS2.B
   rw [← hno.out] at qo
   first | exact ⟨_, rfl, qo, hrT, qb⟩ | exact ⟨_, rfl, qo, qb⟩ | exact ⟨qo, hrT, qb⟩ | (rw [hP] at qo qb; first | exact ⟨_, rfl, qo, hrT, qb⟩ | exact ⟨_, rfl, qo, qb⟩ | exact ⟨qo, hrT, qb⟩)
  have hyes := lh (show m4 = m3.set 7 (moreN 0 (m3.take 7)) from by rw [hm4', if_pos ⟨by omega, by omega⟩])
  have hz' : (p2 : Int) = 0 := by omega
  rw [hz'] at r1 r2
  have hsl := fun w1 => show (Instr.slice 25 (.slice (some ⟨B4, 0, none⟩) N c4) none (some (.int .i64 7)) none).run Tryz.prog w1 = .ok (.slice (some ⟨B4, 0, none⟩) 7 c4) w1 from run_slice_to (P := Tryz.prog) (ty := 25) Tryz.underlying25 hi (some ⟨B4, 0, none⟩) N c4 7 (by have := OwnU_cap hS2.o hS2.l; omega) w1
  have hOf := refOf_any (.slice (some ⟨B4, 0, none⟩) 7 c4) (m3.take 7) wr (fun x hx => hWm3 x (List.mem_of_mem_take hx)) (by rw [List.length_take]; omega) (KL.sl (hS2.o.kl.take 7 (by rw [hS2.l]; omega)))
  have hml := moreN_lt 0 (m3.take 7)
  obtain ⟨mo, hmo⟩ : ∃ x, moreN 0 (m3.take 7) = x := ⟨_, rfl⟩
  rw [hmo] at hOf hyes hml
  have hcv : IntKind.u64.wrap (mo : Int) = (mo : Int) := by rw [IntKind.wrap_u64]; omega
  have h7 : (7 : Int) < (N : Int) := by omega
  replace hmo := lh hmo
  replace hp2 := lh hp2
  clear hm4' hz hz'
  go_wp2_with fail
  refine hOf.mono ?_
  rintro e w9 ⟨rfl, hb9⟩
  have hS9' := hS2.keep hb9
  obtain ⟨y0, f0⟩ := hS9'.o.cell (i := 7) hS9'.l (by omega)
  have hSn := hS9'.set 7 mo (by omega)
  clear hOf hb9 hS2 hsl d0 z0 z1 z2 z3 z4 z5 z6 z7
  go_wp2_with fail
  go_ret
  have qo := hSn.o
  have qb := hSn.B
  rw [← hyes.out] at qo
  first | exact ⟨_, rfl, qo, hrT, qb⟩ | exact ⟨_, rfl, qo, qb⟩ | exact ⟨qo, hrT, qb⟩ | (rw [hP] at qo qb; first | exact ⟨_, rfl, qo, hrT, qb⟩ | exact ⟨_, rfl, qo, qb⟩ | exact ⟨qo, hrT, qb⟩)
 have hlt' : (j : Int) < (nI : Int) := by omega
 replace hX := lh hX
 obtain ⟨g, off, ln, sg, gn, Ae, ce, Ao, co, es, ops, rfl, hcI, hgI, hit, hmem, hE, hO, c0, c1, c2, c3, c4'⟩ := hIt.out wr hS.B j hlt
 obtain ⟨b1, b2, b3, b4, b5⟩ := hB.i _ hmem
 have hst := hst0.out hlt
 rw [hit] at hst
 have hfi := List.all_eq_true.1 hfw2 _ hmem
 obtain ⟨f12, f22, f20⟩ : es.length ≤ 12 ∧ ops.length ≤ 22 ∧ ∀ e ∈ es, e.2.length ≤ 20 := by
  unfold fewI at hfi
  rw [Bool.and_eq_true, Bool.and_eq_true] at hfi
  exact ⟨of_decide_eq_true hfi.1.1, of_decide_eq_true hfi.1.2, fun e he => of_decide_eq_true (List.all_eq_true.1 hfi.2 e he)⟩
 simp only [] at b1 b2 b3 b4 b5
 obtain ⟨ne, hne⟩ : ∃ n, es.length = n := ⟨_, rfl⟩
 obtain ⟨no, hno⟩ : ∃ n, ops.length = n := ⟨_, rfl⟩
 rw [hne] at hE c3 f12
 rw [hno] at hO c4' f22
 obtain ⟨l9, hl9⟩ : ∃ l9, ln % L = l9 := ⟨_, rfl⟩
 have hl9L : l9 < L := by rw [← hl9]; exact Nat.mod_lt _ (by omega)
 have r1 : (ln : Int) % (L : Int) = (l9 : Int) := by rw [← hl9]; rfl
 have r2 : (ln : Int).tmod (L : Int) = (l9 : Int) := by rw [Int.tmod_eq_emod_of_nonneg (by omega)]; exact r1
 have r3 : ¬ (L : Int) = 0 := by omega
 have r4 : IntKind.i64.wrap (ln : Int) = (ln : Int) := wrapS _ (by omega) (by omega)
 obtain ⟨s3, hs3⟩ : ∃ s3, sg % 3 = s3 := ⟨_, rfl⟩
 have hs33 : s3 < 3 := by omega
 have r5 : (sg : Int) % 3 = (s3 : Int) := by omega
 have r6 : (sg : Int).tmod 3 = (s3 : Int) := by rw [Int.tmod_eq_emod_of_nonneg (by omega)]; exact r5
 have r7 : IntKind.i64.wrap (s3 : Int) = (s3 : Int) := wrapS _ (by omega) (by omega)
 obtain ⟨gg, hgg⟩ : ∃ gg, gn % 281474976710656 = gg := ⟨_, rfl⟩
 have hggl : gg < 281474976710656 := by rw [← hgg]; exact Nat.mod_lt _ (by decide)
 have r8 : (gn : Int) % 281474976710656 = (gg : Int) := by rw [← hgg]; rfl
 have r9 : (gn : Int).tmod 281474976710656 = (gg : Int) := by rw [Int.tmod_eq_emod_of_nonneg (by omega)]; exact r8
 have hst2 : (p.items.take (j + 1)).foldl (itemS N L) m1 = itemX N L X l9 s3 gg es ops := by rw [hst]; unfold itemS; simp only []; rw [hl9, hs3, hgg]
 have hgg2 : gg < 18446744073709551616 := Nat.lt_trans hggl (by decide)
 replace hst2 := lh hst2
 replace hne := lh hne
 replace hno := lh hno
 replace hl9 := lh hl9
 replace hs3 := lh hs3
 replace hgg := lh hgg
 clear hst hfi hst0 hit hggl b3
 have hb1 := bZ wr (.cells #[.int .u8 (ln : Nat), .int .u8 (sg : Nat), .int .u64 (gn : Nat), .slice Ae ne ce, .slice Ao no co] 133)
 have gI := HB.new wr #[.int .u8 (ln : Nat), .int .u8 (sg : Nat), .int .u64 (gn : Nat), .slice Ae ne ce, .slice Ao no co] 133
 have hSi := hS.keep hb1
 obtain ⟨wi, hwi⟩ : ∃ x, wr.alloc (.cells #[.int .u8 (ln : Nat), .int .u8 (sg : Nat), .int .u64 (gn : Nat), .slice Ae ne ce, .slice Ao no co] 133) = x := ⟨_, rfl⟩
 have hsi : wi.heap.size = wr.heap.size + 1 := by rw [← hwi]; simp
 rw [hwi] at hb1 gI hSi
 have hb2 := bZ wi (.cells #[.int .i64 (s3 : Nat), .int .i64 0, .int .u64 (gg : Nat)] 123)
 have gMk := HB.new wi #[.int .i64 (s3 : Nat), .int .i64 0, .int .u64 (gg : Nat)] 123
 have hSm := hSi.keep hb2
 have gIm := gI.keep hb2
 have hb12 := hb1.trans (hb2.mono hb1.size)
 obtain ⟨wm, hwm⟩ : ∃ x, wi.alloc (.cells #[.int .i64 (s3 : Nat), .int .i64 0, .int .u64 (gg : Nat)] 123) = x := ⟨_, rfl⟩
 have hsm : wm.heap.size = wr.heap.size + 2 := by rw [← hwm]; simp; omega
 rw [hwm] at hb2 gMk hSm gIm hb12
 rw [hsi] at gMk
 obtain ⟨I10, hI10⟩ : ∃ x, wr.heap.size = x := ⟨_, rfl⟩
 have hI10w : w.heap.size ≤ I10 := by rw [← hI10]; exact hS.B.size
 rw [hI10] at gI gIm gMk hsi hsm
 have i0' := (row_cell gI 0).1
 have i1' := (row_cell gI 1).1
 have i2' := (row_cell gI 2).1
 obtain ⟨q0, q1⟩ := hSi.g.c2
 obtain ⟨k0, k1, k2⟩ : wm.cell? ⟨I10 + 1, 0, none⟩ = some (.int .i64 (s3 : Nat)) ∧ wm.cell? ⟨I10 + 1, 1, none⟩ = some (.int .i64 0) ∧ wm.cell? ⟨I10 + 1, 2, none⟩ = some (.int .u64 (gg : Nat)) := ⟨(row_cell gMk 0).1, (row_cell gMk 1).1, (row_cell gMk 2).1⟩
 have j3 := (row_cell gIm 3).1
 have j4 := (row_cell gIm 4).1
 have hMk := lh (hMkr.out l9 hl9L)
 obtain ⟨M9, hM9⟩ : ∃ M9, 10 + l9 = M9 := ⟨_, rfl⟩
 rw [hM9] at hMk
 have hM9N : M9 < N := by have := hFN2.out; have := hF.out; omega
 have hM9' : (M9 : Int) < (N : Int) := by omega
 have hE1 := hE.keep hb12
 have hO1 := hO.keep hb12
 have hB4s : B4 < wm.heap.size := (OwnU_row hSm.o).2.elim fun cur h => (Array.getElem?_eq_some_iff.1 h).1
 by_cases h1 : s3 = 1
 ·have h1' : (s3 : Int) = 1 := by omega
  rw [h1'] at hwm gMk k0 r5 r6 r7
  have hfin := lh (show itemX N L X l9 s3 gg es ops = (scatN X (placesL (logP X (N : Nat) (L : Nat) (l9 : Nat))) (entW gg es) (min (placesL (logP X (N : Nat) (L : Nat) (l9 : Nat))).length (entW gg es).length)).set M9 (mkW 1 (entW gg es).length gg) from by unfold itemX; rw [if_pos h1, hM9])
  replace hM9 := lh hM9
  clear hs33 h1 h1' hO hO1 hE
  subst hwm hwi
  go_wp2_with fail
  obtain ⟨wm, hwm⟩ : ∃ x, (wr.alloc (.cells #[.int .u8 (ln : Nat), .int .u8 (sg : Nat), .int .u64 (gn : Nat), .slice Ae ne ce, .slice Ao no co] 133)).alloc (.cells #[.int .i64 1, .int .i64 0, .int .u64 (gg : Nat)] 123) = x := ⟨_, rfl⟩
  rw [hwm] at gMk hSm gIm hb12 hsm hB4s j3 j4 hE1 ⊢
  clear hwm q0 q1 k0 k1 k2 i0' i1' i2' c0 c1 c2 c3 c4' z0 z1 z2 z3 z4 z5 z6 z7 gI hSi hS hb1 hb2
  have hEa := lh (fun w1 (hb : Below wm.heap.size wm w1) k (hk : k < ne) => hE1.at hne.out w1 hb k hk)
  have hStE := lh (fun k (hk : k < ne) => entW_take (gn := gg) (es := es) (k := k) (by have := hne.out; omega))
  have hLenE := lh (fun k => show (entW gg (es.take k)).length ≤ 22 * k from Nat.le_trans (entW_len _ (fun e he => f20 e (List.mem_of_mem_take he))) (by rw [List.length_take]; omega))
  have hEfin := lh (show entW gg (es.take ne) = entW gg es from by rw [List.take_of_length_le (by have := hne.out; omega)])
  have hws : w.heap.size ≤ wm.heap.size := hSm.B.size
  clear hE1 j3 j4
  go_loopw [14, 13] (fun i v13 wq => ∃ (k : Nat) (E : List Nat), k ≤ ne ∧ i = .int .i64 (k : Nat) ∧ Hid (E = entW gg (es.take k)) ∧ OwnU wq wm.heap.size v13 E ∧ Below wm.heap.size wm wq) (fun i _ _ => ne + 1 - (intOf i).toNat)
  case atStart => exact ⟨0, [], Nat.zero_le _, rfl, lh rfl, World.ownsRow_nil _ _ _ _, Below.refl _ _⟩
  rename_i wr0
  obtain ⟨k, E, hk, rfl, hEE, hown, hbq⟩ := hrel
  have hEl : E.length ≤ 22 * k := by rw [hEE.out]; exact hLenE.out k
  have gIq := gIm.keep hbq
  have gMq := gMk.keep hbq
  have hSq := hSm.keep hbq
  by_cases hltk : k < ne
  ·obtain ⟨ge, oe, ea, eA, el, ec, rfl, hce, hge0, hgd, hem, hKe, d0, d1⟩ := hEa.out wr hbq k hltk
   have hel20 := f20 _ hem
   have hWe := b4 _ hem
   simp only [] at hel20 hWe
   have hse := hStE.out k hltk
   rw [hgd, ← hEE.out] at hse
   simp only [] at hse
   have hge := World.block_lt_of_cell? wr _ d0
   have hEc := lh (fun w1 (hb : Below wr.heap.size wr w1) => entenc15 gg ea eA ec el w1 hgg2 (hKe.keep hb) hWe (by omega))
   have hln : (if canB ea el.length = true then encW gg ea.toNat el else []).length ≤ 22 := by
    split
    ·unfold encW; simp; omega
    simp
   obtain ⟨n9, hn9⟩ : ∃ n, el.length = n := ⟨_, rfl⟩
   rw [hn9] at d1 hEc hse hln
   generalize (if canB ea n9 = true then encW gg ea.toNat el else []) = ew at *
   replace hse := lh hse
   replace hn9 := lh hn9
   have hltk' : (k : Int) < (ne : Int) := by omega
   have hCF := lh (fun w' (hb : Below wr.heap.size wr w') => show (w'.cell? ⟨I10 + 1, 2, none⟩ = some (.int .u64 (gg : Nat)) ∧ w'.cell? ⟨I10, 3, none⟩ = some (.slice (some ⟨ge, oe, none⟩) ne ce)) ∧ (w'.cell? ⟨ge, oe + k * 2, none⟩ = some (.int .i64 ea) ∧ w'.cell? ⟨ge, oe + k * 2 + 1, none⟩ = some (.slice eA n9 ec)) from ⟨⟨(row_cell (gMq.keep hb) 2).1, (row_cell (gIq.keep hb) 3).1⟩, ((bcell hb).1 _ _ hge).trans d0, ((bcell hb).1 _ _ hge).trans d1⟩)
   have j3q := (row_cell gIq 3).1
   clear d0 d1 hKe hgd hem
   go_wp2_with fail
   refine wp_region_held_drew (S := (fun w' => Below wr.heap.size wr w')) (by kernel_rfl) (Below.refl _ _).drew (fun hHeld => ?_)
   refine takeH 0 ?_
   refine takeH 1 ?_
   refine takeH 2 ?_
   refine takeH 3 ?_
   refine takeH 4 ?_
   refine takeH 5 ?_
   refine takeH 6 ?_
   refine oneL 7 rfl (by kernel_rfl) (fun K hK => ?_)
   go_simp
   refine (hEc.out _ hHeld).mono ?_; rintro e w6 ⟨v6, x6, rfl, hK6, hb⟩
   refine hK.out _ _ (hHeld.trans (hb.mono hHeld.size)) (fun hHeld2 => ?_)
   clear hK K hHeld
   have hHeld := hHeld2
   clear hHeld2
   try simp only [Act.put,sA,sB,sC]
   refine takeH 8 ?_
   refine takeH 9 ?_
   refine takeH 10 ?_
   refine takeH 11 ?_
   refine takeH 12 ?_
   refine wpAnyH_done (by kernel_rfl) ?_ _
   have own6 := hown.keep hHeld
   have hb6 := hbq.trans (hHeld.mono hbq.size)
   obtain ⟨v7, w7, hrun, ho7, hb7⟩ := appW own6 hK6 hb6.size (by omega) (by omega)
   rw [← hse.out] at ho7
   have hb67 := hb6.trans hb7
   clear hCF hHeld hEc own6 hK6 hb hown hb6 hb7 gIq gMq hSq hbq j3q
   go_wp2_with (at_builtin; refine wpList_append_run rfl _ _ 25 rfl _ _ _ rfl rfl hrun ?_)
   go_roundw
   case rel => exact ⟨k + 1, _, by omega, by go_num, lh rfl, ho7, hb67⟩
   first | (simp [intOf]; done) | (simp [intOf]; omega)
  obtain rfl : k = ne := by omega
  have hltk' : decide ((k : Int) < (k : Int)) = false := decide_eq_false (by omega)
  have hEe : E = entW gg es := by rw [hEE.out, hEfin.out]
  have hLen9 : E.length ≤ 22 * k := hEl
  rw [← hEe] at hfin
  obtain ⟨nE, hnE⟩ : ∃ n, E.length = n := ⟨_, rfl⟩
  obtain ⟨A13, c13, rfl⟩ := hown.sl hnE
  rw [hnE] at hfin
  have j3q := (row_cell gIq 3).1
  obtain ⟨u1, u2⟩ := row_cell gMq 1
  have hw5 : w.heap.size ≤ I10 + 1 := by omega
  have hS6 := hSq.far gMq hw5 (by decide) (by decide) (by decide) 1 (.int .i64 (nE : Nat))
  have gM6 := gMq.set3 (.int .i64 (nE : Nat))
  have hown6 := hown.chg (Chg.setCell (S := fun k => k = I10 + 1) wr (I10 + 1) 1 (.int .i64 (nE : Nat)) rfl) (fun k hk e => by have := (hown.lt k hk).1; omega)
  obtain ⟨q0, q1⟩ := hS6.g.c2
  have m0' := (row_cell gM6 0).1
  obtain ⟨hLP1, hLP2⟩ := hLgP.out l9 X hSq.l
  have hLg := hLgr.out l9 (.slice (some ⟨B4, 0, none⟩) N c4) X _ hS6.B hS6.l hwl hS6.o.kl
  obtain ⟨LP, hLP⟩ : ∃ LP, logP X (N : Nat) (L : Nat) (l9 : Nat) = LP := ⟨_, rfl⟩
  rw [hLP] at hfin hLP1 hLP2 hLg
  replace hLP := lh hLP
  replace hEe := lh hEe
  replace hnE := lh hnE
  clear hEE hEl hown hbq gIq hSq hEa hStE hLenE hEfin
  go_wp2_with fail
  refine hLg.mono ?_
  rintro e w7 ⟨vL, rfl, hoL, hb7⟩
  have hS7 := hS6.keep hb7
  have gM7 := gM6.keep hb7
  have hown7 := hown6.keep hb7
  have hSc := refScatter_any (.slice (some ⟨B4, 0, none⟩) N c4) vL (.slice A13 nE c13) X E LP w7 hLP1 hLP2 (by rw [hS7.l]; omega) (by have := hnE.out; have := hLen9; omega) hS7.o.kl hoL.pl hown7.kl
  have hXl := scatN_len X (placesL LP) E (min (placesL LP).length E.length)
  rw [hS7.l] at hXl
  rw [hnE.out] at hSc hXl
  obtain ⟨Y, hY⟩ : ∃ Y, scatN X (placesL LP) E (min (placesL LP).length nE) = Y := ⟨_, rfl⟩
  rw [hY] at hSc hXl hfin
  replace hY := lh hY
  clear u1 u2 q0 q1 hS6 gM6 hown6 hLg gMq j3q m0' hoL
  go_wp2_with fail
  refine hSc.mono ?_
  rintro e w8 ⟨v8, rfl, ho8, hb8⟩
  obtain ⟨A8, c8, hv8, hf8⟩ := ho8.form
  rw [hXl] at hv8 hf8
  subst hv8
  obtain ⟨B8, rfl, hB8l, hB8u⟩ := hf8 (by omega)
  have hS8q := hS7.keep hb8
  have hS8 : MkS w P T3 _ N L B8 c8 Y w8 := ⟨ho8.mono hS7.B.size, hXl, hS8q.B, hS8q.p, hS8q.g⟩
  have gM8 := gM7.keep hb8
  have m0' := (row_cell gM8 0).1
  clear hSc hS7 gM7 hown7 ho8 hb7 hb8 hS8q hf8
  have hTB : ¬ T3 = B8 := hS8.g.ne_row hS8.o (by decide)
  have hMB : ¬ I10 + 1 = B8 := gM8.ne_row hS8.o (by decide)
  have hCF := lh (fun w' (hc : Chg (fun k => k = B8) w8 w') => show (w'.cell? ⟨T3, 0, none⟩ = some (.int .i64 (N : Nat)) ∧ w'.cell? ⟨T3, 1, none⟩ = some (.int .i64 (L : Nat))) ∧ (w'.cell? ⟨I10 + 1, 0, none⟩ = some (.int .i64 1) ∧ w'.cell? ⟨I10 + 1, 1, none⟩ = some (.int .i64 (nE : Nat)) ∧ w'.cell? ⟨I10 + 1, 2, none⟩ = some (.int .u64 (gg : Nat))) from ⟨(hS8.g.chg hc hTB).c2, (row_cell (gM8.chg hc hMB) 0).1, (row_cell (gM8.chg hc hMB) 1).1, (row_cell (gM8.chg hc hMB) 2).1⟩)
  have hEc := lh (fun w1 => show Calls Tryz.prog 85 #[.agg #[.int .i64 1, .int .i64 (nE : Nat), .int .u64 (gg : Nat)]] w1 (fun e w' => (∃ x : Int, e = .returned (.tuple #[.int .u64 (mkW 1 nE gg : Nat), .int .i64 x])) ∧ Below w1.heap.size w1 w') from mkenc15 1 nE gg w1 (by omega))
  obtain ⟨mw, hmw⟩ : ∃ x, mkW 1 nE gg = x := ⟨_, rfl⟩
  rw [hmw] at hEc hfin
  replace hmw := lh hmw
  go_wp2_with fail
  refine wp_region_held_drew (S := (fun w' => Chg (fun k => k = B8) w8 w')) (by kernel_rfl) (Chg.of_below _ (Below.refl _ _).drew) (fun hHeld => ?_)
  refine takeH 0 ?_
  refine takeH 1 ?_
  refine takeH 2 ?_
  refine takeH 4 ?_
  refine oneL 3 rfl (by kernel_rfl) (fun K hK => ?_)
  go_simp
  refine (hMk.out _).mono ?_; rintro e w98 ⟨rfl, hb⟩
  have hB98 : Below w8.heap.size w8 w98 := (Below.refl _ _).drew.trans hb
  refine hK.out _ _ (hHeld.trans (Chg.of_below (fun k => k = B8) hb) (fun k h => .inl h)) (fun hHeld2 => ?_)
  clear hK K hHeld
  have hHeld := hHeld2
  clear hHeld2
  try simp only [Act.put,sA,sB,sC]
  refine oneL 5 rfl (by kernel_rfl) (fun K hK => ?_)
  go_simp
  refine (hEc.out _).mono ?_; rintro e w99 ⟨⟨x99, rfl⟩, hb⟩
  have hB99 := hB98.trans (hb.mono hB98.size)
  refine hK.out _ _ (hHeld.trans (Chg.of_below (fun k => k = B8) hb) (fun k h => .inl h)) (fun hHeld2 => ?_)
  clear hK K hHeld
  have hHeld := hHeld2
  clear hHeld2
  try simp only [Act.put,sA,sB,sC]
  refine takeH 6 ?_
  refine takeH 7 ?_
  refine takeH 8 ?_
  refine takeH 9 ?_
  refine oneL 10 rfl (by kernel_rfl) (fun K hK => ?_)
  obtain ⟨v5, v6⟩ := (hS8.keep hB99).o.cell hS8.l hM9N
  go_simp
  refine hK.out _ _ (hHeld.trans (Chg.setCell (S := fun k => k = B8) _ _ _ _ rfl) (fun k h => .inl h)) (fun hHeld2 => ?_)
  clear hK K hHeld
  have hHeld := hHeld2
  clear hHeld2
  try simp only [Act.put,sA,sB,sC]
  refine wpAnyH_done (by kernel_rfl) ?_ _
  have hSn := (hS8.keep hB99).set M9 mw hM9N
  rw [← hfin.out, ← hst2.out] at hSn
  clear hCF hHeld v5 v6 hB98 hB99 hb
  go_wp2_with fail
  go_roundw
  case rel => exact ⟨j + 1, _, _, by omega, by go_num, rfl, hSn⟩
  first | (simp [intOf]; done) | (simp [intOf]; omega)
 by_cases h2 : s3 = 2
 rotate_left
 ·have h0' : (s3 : Int) = 0 := by omega
  rw [h0'] at hwm gMk k0 r5 r6 r7
  have hfin := lh (show itemX N L X l9 s3 gg es ops = X.set M9 (mkW 0 0 gg) from by unfold itemX; rw [if_neg h1, if_neg h2, hM9])
  replace hM9 := lh hM9
  clear hs33 h1 h2 h0' hE hE1 hO hO1
  subst hwm hwi
  go_wp2_with fail
  obtain ⟨wm, hwm⟩ : ∃ x, (wr.alloc (.cells #[.int .u8 (ln : Nat), .int .u8 (sg : Nat), .int .u64 (gn : Nat), .slice Ae ne ce, .slice Ao no co] 133)).alloc (.cells #[.int .i64 0, .int .i64 0, .int .u64 (gg : Nat)] 123) = x := ⟨_, rfl⟩
  rw [hwm] at gMk hSm gIm hb12 hsm hB4s j3 j4 ⊢
  clear hwm q0 q1 k0 k1 k2 i0' i1' i2' c0 c1 c2 c3 c4' z0 z1 z2 z3 z4 z5 z6 z7 gI hSi hS hb1 hb2
  have hTB : ¬ T3 = B4 := hSm.g.ne_row hSm.o (by decide)
  have hMB : ¬ I10 + 1 = B4 := gMk.ne_row hSm.o (by decide)
  have hCF := lh (fun w' (hc : Chg (fun k => k = B4) wm w') => show (w'.cell? ⟨T3, 0, none⟩ = some (.int .i64 (N : Nat)) ∧ w'.cell? ⟨T3, 1, none⟩ = some (.int .i64 (L : Nat))) ∧ (w'.cell? ⟨I10 + 1, 0, none⟩ = some (.int .i64 0) ∧ w'.cell? ⟨I10 + 1, 1, none⟩ = some (.int .i64 0) ∧ w'.cell? ⟨I10 + 1, 2, none⟩ = some (.int .u64 (gg : Nat))) from ⟨(hSm.g.chg hc hTB).c2, (row_cell (gMk.chg hc hMB) 0).1, (row_cell (gMk.chg hc hMB) 1).1, (row_cell (gMk.chg hc hMB) 2).1⟩)
  have hEc := lh (fun w1 => show Calls Tryz.prog 85 #[.agg #[.int .i64 0, .int .i64 0, .int .u64 (gg : Nat)]] w1 (fun e w' => (∃ x : Int, e = .returned (.tuple #[.int .u64 (mkW 0 0 gg : Nat), .int .i64 x])) ∧ Below w1.heap.size w1 w') from mkenc15 0 0 gg w1 (by omega))
  obtain ⟨mw, hmw⟩ : ∃ x, mkW 0 0 gg = x := ⟨_, rfl⟩
  rw [hmw] at hEc hfin
  replace hmw := lh hmw
  go_wp2_with fail
  refine wp_region_held_drew (S := (fun w' => Chg (fun k => k = B4) wm w')) (by kernel_rfl) (Chg.of_below _ (Below.refl _ _).drew) (fun hHeld => ?_)
  refine takeH 0 ?_
  refine takeH 1 ?_
  refine takeH 2 ?_
  refine takeH 4 ?_
  refine oneL 3 rfl (by kernel_rfl) (fun K hK => ?_)
  go_simp
  refine (hMk.out _).mono ?_; rintro e w98 ⟨rfl, hb⟩
  have hB98 : Below wm.heap.size wm w98 := (Below.refl _ _).drew.trans hb
  refine hK.out _ _ (hHeld.trans (Chg.of_below (fun k => k = B4) hb) (fun k h => .inl h)) (fun hHeld2 => ?_)
  clear hK K hHeld
  have hHeld := hHeld2
  clear hHeld2
  try simp only [Act.put,sA,sB,sC]
  refine oneL 5 rfl (by kernel_rfl) (fun K hK => ?_)
  go_simp
  refine (hEc.out _).mono ?_; rintro e w99 ⟨⟨x99, rfl⟩, hb⟩
  have hB99 := hB98.trans (hb.mono hB98.size)
  refine hK.out _ _ (hHeld.trans (Chg.of_below (fun k => k = B4) hb) (fun k h => .inl h)) (fun hHeld2 => ?_)
  clear hK K hHeld
  have hHeld := hHeld2
  clear hHeld2
  try simp only [Act.put,sA,sB,sC]
  refine takeH 6 ?_
  refine takeH 7 ?_
  refine takeH 8 ?_
  refine takeH 9 ?_
  refine oneL 10 rfl (by kernel_rfl) (fun K hK => ?_)
  obtain ⟨v5, v6⟩ := (hSm.keep hB99).o.cell hSm.l hM9N
  go_simp
  refine hK.out _ _ (hHeld.trans (Chg.setCell (S := fun k => k = B4) _ _ _ _ rfl) (fun k h => .inl h)) (fun hHeld2 => ?_)
  clear hK K hHeld
  have hHeld := hHeld2
  clear hHeld2
  try simp only [Act.put,sA,sB,sC]
  refine wpAnyH_done (by kernel_rfl) ?_ _
  have hSn := (hSm.keep hB99).set M9 mw hM9N
  rw [← hfin.out, ← hst2.out] at hSn
  clear hCF hHeld v5 v6 hB98 hB99 hb
  go_wp2_with fail
  go_roundw
  case rel => exact ⟨j + 1, _, _, by omega, by go_num, rfl, hSn⟩
  first | (simp [intOf]; done) | (simp [intOf]; omega)
 have h2' : (s3 : Int) = 2 := by omega
 rw [h2'] at hwm gMk k0 r5 r6 r7
 have hfin := lh (show itemX N L X l9 s3 gg es ops = (putL X (10 + L + l9 * 72 + 32) (opW ops)).set M9 (mkW 2 (min no 19) gg) from by unfold itemX; rw [if_neg h1, if_pos h2, hM9, hno.out])
 have hRd := lh (hRdr.out l9 hl9L)
 obtain ⟨R9, hR9⟩ : ∃ R9, 10 + L + l9 * 72 + 32 = R9 := ⟨_, rfl⟩
 rw [hR9] at hRd hfin
 have hR9l : R9 ≤ 1000 := by omega
 replace hR9 := lh hR9
 replace hM9 := lh hM9
 clear hs33 h1 h2 h2' hE hE1 hO
 subst hwm hwi
 go_wp2_with fail
 obtain ⟨wm, hwm⟩ : ∃ x, (wr.alloc (.cells #[.int .u8 (ln : Nat), .int .u8 (sg : Nat), .int .u64 (gn : Nat), .slice Ae ne ce, .slice Ao no co] 133)).alloc (.cells #[.int .i64 2, .int .i64 0, .int .u64 (gg : Nat)] 123) = x := ⟨_, rfl⟩
 rw [hwm] at gMk hSm gIm hb12 hsm hB4s j3 j4 hO1 ⊢
 clear hwm q0 q1 k0 k1 k2 i0' i1' i2' c0 c1 c2 c3 c4' z0 z1 z2 z3 z4 z5 z6 z7 gI hSi hS hb1 hb2
 refine (openc15 _ ops _ hO1 b5).mono ?_
 rintro e w5 ⟨v5, x5, rfl, ho5, hb5⟩
 obtain ⟨nw, hnw⟩ : ∃ n, (opW ops).length = n := ⟨_, rfl⟩
 obtain ⟨A5, c5, rfl⟩ := ho5.sl hnw
 have hS5 := hSm.keep hb5
 have gM5 := gMk.keep hb5
 have gI5 := gIm.keep hb5
 have hnw5 : nw ≤ 100 := by
  rw [← hnw]
  unfold opW
  split
  ·rename_i hr
   have := (rightB_t hr).1
   unfold encS
   rw [List.length_append, encW_len]
   simp; omega
  simp
 obtain ⟨c19, hc19⟩ : ∃ c, min no 19 = c := ⟨_, rfl⟩
 rw [hc19] at hfin
 have u4 := (row_cell gI5 4).1
 obtain ⟨u1, u2⟩ := row_cell gM5 1
 have hw5 : w.heap.size ≤ I10 + 1 := by omega
 have hS6 := hS5.far gM5 hw5 (by decide) (by decide) (by decide) 1 (.int .i64 (c19 : Nat))
 have gM6 := gM5.set3 (.int .i64 (c19 : Nat))
 have hcM := Chg.setCell (S := fun k => k = I10 + 1) w5 (I10 + 1) 1 (.int .i64 (c19 : Nat)) rfl
 have ho6 := ho5.chg hcM (fun k hk e => by have := (ho5.lt k hk).1; omega)
 have hmn : (if (19 : Int) < (no : Int) then (19 : Int) else (no : Int)) = (c19 : Int) := by split <;> omega
 have hmn2 : min (no : Int) 19 = (c19 : Int) := by omega
 replace hc19 := lh hc19
 obtain ⟨q0, q1⟩ := hS6.g.c2
 clear hO1 j3 j4 ho5 hb5
 go_wp2_with fail
 refine (hRd.out _).mono ?_
 rintro e w7 ⟨rfl, hb7⟩
 have hS7 := hS6.keep hb7
 have gM7 := gM6.keep hb7
 have ho7 := ho6.keep hb7
 have hPu := put_any15 B4 N c4 R9 (.slice A5 nw c5) X (opW ops) w.heap.size w7 hS7.o hS7.l (fun w8 hc => ho7.kl.chg hc (fun g o m c q hl e => by have := (ho7.lt g (by rw [q]; rfl)).1; omega)) (by omega) (by omega) (by omega)
 clear q0 q1 u1 u2 u4 hS5 gM5 gI5 hS6 gM6 ho6 hb7 hcM hRd
 have hfd := fun w => field0 (R9 : Nat) 40 w
 go_wp2_with fail
 refine hPu.mono ?_
 rintro e w8 ⟨rfl, ho8, hc8⟩
 have hS8 := hS7.chg hc8 ho8 (by rw [putL_len]; exact hS7.l)
 have gM8 := gM7.chg hc8 (gM7.ne_row hS7.o (by decide))
 obtain ⟨Y, hY⟩ : ∃ Y, putL X R9 (opW ops) = Y := ⟨_, rfl⟩
 rw [hY] at hS8 hfin
 replace hY := lh hY
 clear hPu hS7 gM7 ho7 ho8 hc8
 have hTB : ¬ T3 = B4 := hS8.g.ne_row hS8.o (by decide)
 have hMB : ¬ I10 + 1 = B4 := gM8.ne_row hS8.o (by decide)
 have hCF := lh (fun w' (hc : Chg (fun k => k = B4) w8 w') => show (w'.cell? ⟨T3, 0, none⟩ = some (.int .i64 (N : Nat)) ∧ w'.cell? ⟨T3, 1, none⟩ = some (.int .i64 (L : Nat))) ∧ (w'.cell? ⟨I10 + 1, 0, none⟩ = some (.int .i64 2) ∧ w'.cell? ⟨I10 + 1, 1, none⟩ = some (.int .i64 (c19 : Nat)) ∧ w'.cell? ⟨I10 + 1, 2, none⟩ = some (.int .u64 (gg : Nat))) from ⟨(hS8.g.chg hc hTB).c2, (row_cell (gM8.chg hc hMB) 0).1, (row_cell (gM8.chg hc hMB) 1).1, (row_cell (gM8.chg hc hMB) 2).1⟩)
 have hEc := lh (fun w1 => show Calls Tryz.prog 85 #[.agg #[.int .i64 2, .int .i64 (c19 : Nat), .int .u64 (gg : Nat)]] w1 (fun e w' => (∃ x : Int, e = .returned (.tuple #[.int .u64 (mkW 2 c19 gg : Nat), .int .i64 x])) ∧ Below w1.heap.size w1 w') from mkenc15 2 c19 gg w1 (by omega))
 obtain ⟨mw, hmw⟩ : ∃ x, mkW 2 c19 gg = x := ⟨_, rfl⟩
 rw [hmw] at hEc hfin
 replace hmw := lh hmw
 go_wp2_with fail
 refine wp_region_held_drew (S := (fun w' => Chg (fun k => k = B4) w8 w')) (by kernel_rfl) (Chg.of_below _ (Below.refl _ _).drew) (fun hHeld => ?_)
 refine takeH 0 ?_
 refine takeH 1 ?_
 refine takeH 2 ?_
 refine takeH 4 ?_
 refine oneL 3 rfl (by kernel_rfl) (fun K hK => ?_)
 go_simp
 refine (hMk.out _).mono ?_; rintro e w98 ⟨rfl, hb⟩
 have hB98 : Below w8.heap.size w8 w98 := (Below.refl _ _).drew.trans hb
 refine hK.out _ _ (hHeld.trans (Chg.of_below (fun k => k = B4) hb) (fun k h => .inl h)) (fun hHeld2 => ?_)
 clear hK K hHeld
 have hHeld := hHeld2
 clear hHeld2
 try simp only [Act.put,sA,sB,sC]
 refine oneL 5 rfl (by kernel_rfl) (fun K hK => ?_)
 go_simp
 refine (hEc.out _).mono ?_; rintro e w99 ⟨⟨x99, rfl⟩, hb⟩
 have hB99 := hB98.trans (hb.mono hB98.size)
 refine hK.out _ _ (hHeld.trans (Chg.of_below (fun k => k = B4) hb) (fun k h => .inl h)) (fun hHeld2 => ?_)
 clear hK K hHeld
 have hHeld := hHeld2
 clear hHeld2
 try simp only [Act.put,sA,sB,sC]
 refine takeH 6 ?_
 refine takeH 7 ?_
 refine takeH 8 ?_
 refine takeH 9 ?_
 refine oneL 10 rfl (by kernel_rfl) (fun K hK => ?_)
 obtain ⟨v5, v6⟩ := (hS8.keep hB99).o.cell hS8.l hM9N
 go_simp
 refine hK.out _ _ (hHeld.trans (Chg.setCell (S := fun k => k = B4) _ _ _ _ rfl) (fun k h => .inl h)) (fun hHeld2 => ?_)
 clear hK K hHeld
 have hHeld := hHeld2
 clear hHeld2
 try simp only [Act.put,sA,sB,sC]
 refine wpAnyH_done (by kernel_rfl) ?_ _
 have hSn := (hS8.keep hB99).set M9 mw hM9N
 rw [← hfin.out, ← hst2.out] at hSn
 clear hCF hHeld v5 v6 hB98 hB99 hb
 go_wp2_with fail
 go_roundw
 case rel => exact ⟨j + 1, _, _, by omega, by go_num, rfl, hSn⟩
 first | (simp [intOf]; done) | (simp [intOf]; omega)
end Go.Proofs.YtkkbngcgphlikaaGreatDoor
