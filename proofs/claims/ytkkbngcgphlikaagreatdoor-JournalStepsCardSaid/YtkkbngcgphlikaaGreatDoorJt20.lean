/-
  Part of the proof of JournalSteps.
-/
import Derived.Test.YtkkbngcgphlikaaGreatDoorJt18
import Derived.Test.YtkkbngcgphlikaaGreatDoorJt0
set_option maxRecDepth 10000
set_option maxHeartbeats 1000000
set_option linter.unusedVariables false
set_option linter.unusedSimpArgs false
section
namespace Go.Proofs.YtkkbngcgphlikaaGreatDoor
open Go.RowKit
theorem SL.lit (w : World) (ws : List Nat) (t : TypeId) : SL (w.alloc (.cells (wv ws).toArray t)) (.slice (some ⟨w.heap.size, 0, none⟩) ws.length ws.length) ws := by
 refine .inr ⟨w.heap.size, 0, ws.length, rfl, by simp, Nat.le_refl _, fun i hi => ?_⟩
 have h : (w.alloc (.cells (wv ws).toArray t)).heap[w.heap.size]? = some (.cells (wv ws).toArray t (0, 0)) := heap_alloc_new w _
 rw [Nat.zero_add, (row_cell h i).1, List.getElem?_toArray, wv_at ws i hi]
def headL (W L G : Nat) : List Nat := [6076272092419149644, 1, W, L, G, 0, 0]
theorem head_WL {W L G : Nat} (h1 : W < 18446744073709551616) (h2 : L < 18446744073709551616) (h3 : G < 18446744073709551616) : WL (headL W L G) := fun x hx => by
 unfold headL at hx
 simp at hx
 omega
def gNat (W L : Nat) : Nat := (gN W L).toNat
theorem gNat_eq {W L : Nat} (h : gOk W L = true) : gN W L = (gNat W L : Int) := by
 have := gN_bd h
 unfold gNat
 omega
theorem senc_t (W L G : Nat) (w : World) (h : gOk W L = true) (hG : gN W L = (G : Int)) :
 Calls Tryz.prog 116 #[.agg #[.int .i64 W, .int .i64 L]] w fun e w' => ∃ g, e = .returned (.tuple #[.slice (some ⟨g, 0, none⟩) 8 8, .int .i64 0]) ∧ w.heap.size ≤ g ∧ Rw w' g (headL W L G ++ [moreN 0 (headL W L G)]) ∧ Below w.heap.size w w' := by
 obtain ⟨h1, h2, h3, h4⟩ := gOk_t h
 obtain ⟨n1, n2, n3, n4⟩ := gN_bd h
 rw [hG] at n1 n2 n3 n4
 have hR := lh (fun w => right_t W L w h)
 have hCh := lh (fun w => show Calls Tryz.prog 162 #[.agg #[.int .i64 W, .int .i64 L]] w fun e w' => e = .returned (.int .i64 G) ∧ Below w.heap.size w w' from by
  have := chunks_t W L w h
  rwa [hG] at this)
 have hWL : WL (headL W L G) := head_WL (by omega) (by omega) (by omega)
 replace hG := lh hG
 replace h := lh h
 have f1 : IntKind.u64.wrap (W : Int) = (W : Int) := by rw [IntKind.wrap_u64]; omega
 have f2 : IntKind.u64.wrap (L : Int) = (L : Int) := by rw [IntKind.wrap_u64]; omega
 have f3 : IntKind.u64.wrap (G : Int) = (G : Int) := by rw [IntKind.wrap_u64]; omega
 have hC0 := C2.new w (.int .i64 W) (.int .i64 L) 37
 go_enter Tryz.func116, Tryz.ntmps116
 go_wp2_with fail
 refine (hR.out _).mono ?_
 rintro e w1 ⟨rfl, hb1⟩
 have hB1 : Below w.heap.size w w1 := (bZ _ _).trans (hb1.mono (by simp))
 have hd1 := hB1.drew
 obtain ⟨k0, k1⟩ := hC0.keep hb1
 clear hC0 hb1
 go_wp2_with fail
 refine wp_region_held_drew (S := (fun w' => w'.cell? ⟨w.heap.size, 0, none⟩ = some (.int .i64 W) ∧ w'.cell? ⟨w.heap.size, 1, none⟩ = some (.int .i64 L) ∧ Below w.heap.size w w')) (by kernel_rfl) ?_ (fun hHeld => ?_)
 ·(try dsimp only)
  first | exact ⟨k0, k1, hd1⟩ | exact ⟨cellK hHeld.1 hb, cellK hHeld.2.1 hb, hHeld.2.2.trans (hb.mono hHeld.2.2.size)⟩ | exact ⟨cellK hHeld.1 hb9, cellK hHeld.2.1 hb9, hHeld.2.2.trans (hb9.mono hHeld.2.2.size)⟩ | exact ⟨cellK hHeld.1 hb10, cellK hHeld.2.1 hb10, hHeld.2.2.trans (hb10.mono hHeld.2.2.size)⟩
 refine takeQ 0 ?_
 refine takeQ 1 ?_
 refine takeQ 2 ?_
 refine takeQ 3 ?_
 refine takeQ 4 ?_
 refine takeQ 5 ?_
 refine takeQ 6 ?_
 refine oneL 7 rfl (by kernel_rfl) (fun K hK => ?_)
 go_simp
 (go_at_call 162; (with_reducible refine (hCh.out _).mono ?_); rintro e w8 ⟨rfl, hb⟩)
 refine hK.out _ _ ?_ (fun hHeld2 => ?_)
 ·(try dsimp only)
  first | exact ⟨k0, k1, hd1⟩ | exact ⟨cellK hHeld.1 hb, cellK hHeld.2.1 hb, hHeld.2.2.trans (hb.mono hHeld.2.2.size)⟩ | exact ⟨cellK hHeld.1 hb9, cellK hHeld.2.1 hb9, hHeld.2.2.trans (hb9.mono hHeld.2.2.size)⟩ | exact ⟨cellK hHeld.1 hb10, cellK hHeld.2.1 hb10, hHeld.2.2.trans (hb10.mono hHeld.2.2.size)⟩
 clear hK K hHeld
 have hHeld := hHeld2
 clear hHeld2
 try simp only [Act.put,sA,sB,sC]
 refine takeQ 8 ?_
 refine oneL 9 rfl (by kernel_rfl) (fun K hK => ?_)
 go_simp
 (have hS7 : SL (w8.alloc (.cells #[.int .u64 6076272092419149644, .int .u64 1, .int .u64 W, .int .u64 L, .int .u64 G, .int .u64 0, .int .u64 0] 40)) (.slice (some ⟨w8.heap.size, 0, none⟩) 7 7) (headL W L G) := SL.lit w8 (headL W L G) _; have hs8 : w.heap.size ≤ w8.heap.size := hHeld.2.2.size; have hb9 := bZ w8 (.cells #[.int .u64 6076272092419149644, .int .u64 1, .int .u64 W, .int .u64 L, .int .u64 G, .int .u64 0, .int .u64 0] 40))
 refine hK.out _ _ ?_ (fun hHeld2 => ?_)
 ·(try dsimp only)
  first | exact ⟨k0, k1, hd1⟩ | exact ⟨cellK hHeld.1 hb, cellK hHeld.2.1 hb, hHeld.2.2.trans (hb.mono hHeld.2.2.size)⟩ | exact ⟨cellK hHeld.1 hb9, cellK hHeld.2.1 hb9, hHeld.2.2.trans (hb9.mono hHeld.2.2.size)⟩ | exact ⟨cellK hHeld.1 hb10, cellK hHeld.2.1 hb10, hHeld.2.2.trans (hb10.mono hHeld.2.2.size)⟩
 clear hK K hHeld
 have hHeld := hHeld2
 clear hHeld2
 try simp only [Act.put,sA,sB,sC]
 refine oneL 10 rfl (by kernel_rfl) (fun K hK => ?_)
 go_simp
 (go_at_call 112; refine (seal_own _ (headL W L G) _ hWL (by simp [headL]) hS7).mono ?_; rintro e w10 ⟨rfl, hS10, hb10⟩)
 refine hK.out _ _ ?_ (fun hHeld2 => ?_)
 ·(try dsimp only)
  first | exact ⟨k0, k1, hd1⟩ | exact ⟨cellK hHeld.1 hb, cellK hHeld.2.1 hb, hHeld.2.2.trans (hb.mono hHeld.2.2.size)⟩ | exact ⟨cellK hHeld.1 hb9, cellK hHeld.2.1 hb9, hHeld.2.2.trans (hb9.mono hHeld.2.2.size)⟩ | exact ⟨cellK hHeld.1 hb10, cellK hHeld.2.1 hb10, hHeld.2.2.trans (hb10.mono hHeld.2.2.size)⟩
 clear hK K hHeld
 have hHeld := hHeld2
 clear hHeld2
 try simp only [Act.put,sA,sB,sC]
 refine takeQ 11 ?_
 refine takeQ 12 ?_
 refine wpAnyH_done (by kernel_rfl) ?_ _
 go_wp2_with fail
 go_ret2
 exact ⟨w8.heap.size + 1, rfl, Nat.le_succ_of_le hs8, by simpa using hS10, hHeld.2.2⟩
theorem senc_f (W L : Int) (w : World) (h : gOk W L = false) :
 Calls Tryz.prog 116 #[.agg #[.int .i64 W, .int .i64 L]] w fun e w' => e = .returned (.tuple #[.slice none 0 0, .int .i64 1]) ∧ Below w.heap.size w w' := by
 have hR := lh (fun w => right_f W L w h)
 replace h := lh h
 go_enter Tryz.func116, Tryz.ntmps116
 go_wp2_with fail
 refine (hR.out _).mono ?_
 rintro e w1 ⟨rfl, hb1⟩
 have hB1 : Below w.heap.size w w1 := (bZ _ _).trans (hb1.mono (by simp))
 go_wp2_with fail
 go_ret2
 exact ⟨rfl, hB1⟩
end Go.Proofs.YtkkbngcgphlikaaGreatDoor
end
section
namespace Go.Proofs.YtkkbngcgphlikaaGreatDoor
open Go.RowKit
theorem st8_ex {W : World} {g : Nat} {t : TypeId} (h : W.heap[g]? = some (.cells (List.replicate 8 (Value.int .u64 0)).toArray t (0, 0))) (x0 x1 x2 x3 x4 x5 x6 x7 : Value) :
 ∃ w9, w9 = ((((((((W.setCell ⟨g, 0, none⟩ x0).setCell ⟨g, 1, none⟩ x1).setCell ⟨g, 2, none⟩ x2).setCell ⟨g, 3, none⟩ x3).setCell ⟨g, 4, none⟩ x4).setCell ⟨g, 5, none⟩ x5).setCell ⟨g, 6, none⟩ x6).setCell ⟨g, 7, none⟩ x7) ∧ w9.heap[g]? = some (.cells #[x0, x1, x2, x3, x4, x5, x6, x7] t (0, 0)) ∧ Below g W w9 := by
 have q1 := heap_setCell_same _ g 0 _ _ x0 h
 have q2 := heap_setCell_same _ g 1 _ _ x1 q1
 have q3 := heap_setCell_same _ g 2 _ _ x2 q2
 have q4 := heap_setCell_same _ g 3 _ _ x3 q3
 have q5 := heap_setCell_same _ g 4 _ _ x4 q4
 have q6 := heap_setCell_same _ g 5 _ _ x5 q5
 have q7 := heap_setCell_same _ g 6 _ _ x6 q6
 have q8 := heap_setCell_same _ g 7 _ _ x7 q7
 have b0 := Below.refl g W
 have b1 := Below.setCell (p := ⟨g, 0, none⟩) b0 (Nat.le_refl _) x0
 have b2 := Below.setCell (p := ⟨g, 1, none⟩) b1 (Nat.le_refl _) x1
 have b3 := Below.setCell (p := ⟨g, 2, none⟩) b2 (Nat.le_refl _) x2
 have b4 := Below.setCell (p := ⟨g, 3, none⟩) b3 (Nat.le_refl _) x3
 have b5 := Below.setCell (p := ⟨g, 4, none⟩) b4 (Nat.le_refl _) x4
 have b6 := Below.setCell (p := ⟨g, 5, none⟩) b5 (Nat.le_refl _) x5
 have b7 := Below.setCell (p := ⟨g, 6, none⟩) b6 (Nat.le_refl _) x6
 have b8 := Below.setCell (p := ⟨g, 7, none⟩) b7 (Nat.le_refl _) x7
 simp only [List.replicate, List.setIfInBounds_toArray, List.set_cons_zero, List.set_cons_succ] at q8
 exact ⟨_, rfl, q8, b8⟩
theorem parts_x (v : Value) (l : List Nat) (w : World) (x0 x1 x2 x3 x4 x5 x6 x7 : Nat) (e0 : l.getD 0 0 = x0) (e1 : l.getD 1 0 = x1) (e2 : l.getD 2 0 = x2) (e3 : l.getD 3 0 = x3) (e4 : l.getD 4 0 = x4) (e5 : l.getD 5 0 = x5) (e6 : l.getD 6 0 = x6) (e7 : l.getD 7 0 = x7) (h8 : 8 ≤ l.length) (hv : SL w v l) :
 Calls Tryz.prog 117 #[v] w fun e w' => e = .returned (.agg #[.int .u64 x0, .int .u64 x1, .int .u64 x2, .int .u64 x3, .int .u64 x4, .int .u64 x5, .int .u64 x6, .int .u64 x7]) ∧ Below w.heap.size w w' := by
 obtain ⟨sp, cap, rfl⟩ := hv.form
 go_enter Tryz.func117, Tryz.ntmps117
 go_wp2_with fail
 have hw1 := heap_alloc_new (w.alloc (.cells (List.replicate 8 (Value.int .u64 0)).toArray 171)) (.cells (List.replicate 8 (Value.int .u64 0)).toArray 171)
 have hB1 : Below w.heap.size w ((w.alloc (.cells (List.replicate 8 (Value.int .u64 0)).toArray 171)).alloc (.cells (List.replicate 8 (Value.int .u64 0)).toArray 171)) := (bZ _ _).alloc (by simp) _
 have hr0 := Below.heap_alloc (w.alloc (.cells (List.replicate 8 (Value.int .u64 0)).toArray 171)) (.cells (List.replicate 8 (Value.int .u64 0)).toArray 171) w.heap.size (by simp)
 rw [heap_alloc_new w] at hr0
 rw [show (w.alloc (.cells (List.replicate 8 (Value.int .u64 0)).toArray 171)).heap.size = w.heap.size + 1 by simp] at hw1
 obtain ⟨w2, hrun, hrow2, hb2⟩ := copyW l hw1 (hv.keep hB1)
 have hrun2 : (Builtin.copy_ #[25, 25] 3 #[.slice (some ⟨w.heap.size + 1, 0, none⟩) 8 8, .slice sp l.length cap]).run Tryz.prog ((w.alloc (.cells #[Value.int .u64 0, Value.int .u64 0, Value.int .u64 0, Value.int .u64 0, Value.int .u64 0, Value.int .u64 0, Value.int .u64 0, Value.int .u64 0] 171)).alloc (.cells #[Value.int .u64 0, Value.int .u64 0, Value.int .u64 0, Value.int .u64 0, Value.int .u64 0, Value.int .u64 0, Value.int .u64 0, Value.int .u64 0] 171)) = .ok (goInt (Nat.min l.length 8)) w2 := hrun
 rw [hrun2]
 rw [show Nat.min l.length 8 = 8 from Nat.min_eq_right h8, Nat.sub_self, List.replicate_zero, List.append_nil] at hrow2
 have hr0' := (hb2.block w.heap.size (by omega)).trans hr0
 have hB2 : Below w.heap.size w w2 := hB1.trans (hb2.mono (by omega))
 have hK := fun i (hi : i < 8) => (row_cell hrow2 i).1.trans (by rw [List.getElem?_toArray, wv_at (l.take 8) i (by simp; omega), List.getD_eq_getElem?_getD, List.getElem?_take, if_pos hi, ← List.getD_eq_getElem?_getD])
 have a0 := hK 0 (by omega)
 have a1 := hK 1 (by omega)
 have a2 := hK 2 (by omega)
 have a3 := hK 3 (by omega)
 have a4 := hK 4 (by omega)
 have a5 := hK 5 (by omega)
 have a6 := hK 6 (by omega)
 have a7 := hK 7 (by omega)
 have b0 := row_cell hr0' 0
 have b1 := row_cell hr0' 1
 have b2 := row_cell hr0' 2
 have b3 := row_cell hr0' 3
 have b4 := row_cell hr0' 4
 have b5 := row_cell hr0' 5
 have b6 := row_cell hr0' 6
 have b7 := row_cell hr0' 7
 simp only [List.getElem?_toArray, List.replicate, List.getElem?_cons_zero, List.getElem?_cons_succ] at b0 b1 b2 b3 b4 b5 b6 b7
 clear hrun hrun2 hrow2 hr0 hw1 hb2 hK hB1 hv
 rw [e0] at a0
 rw [e1] at a1
 rw [e2] at a2
 rw [e3] at a3
 rw [e4] at a4
 rw [e5] at a5
 rw [e6] at a6
 rw [e7] at a7
 have hr9 := lh hr0'
 clear hr0'
 clear e0 e1 e2 e3 e4 e5 e6 e7
 go_wp2_with fail
 obtain ⟨w9, hw9, hq, hb9⟩ := st8_ex hr9.out (.int .u64 (x0 : Int)) (.int .u64 (x1 : Int)) (.int .u64 (x2 : Int)) (.int .u64 (x3 : Int)) (.int .u64 (x4 : Int)) (.int .u64 (x5 : Int)) (.int .u64 (x6 : Int)) (.int .u64 (x7 : Int))
 rw [← hw9]
 refine bodyPost_ret (v := .agg #[.int .u64 x0, .int .u64 x1, .int .u64 x2, .int .u64 x3, .int .u64 x4, .int .u64 x5, .int .u64 x6, .int .u64 x7]) ?_ rfl ⟨rfl, hB2.trans hb9⟩
 exact results_cell_row (p := 2) (ty := 171) rfl _ _ w.heap.size 171 _ (0, 0) _ rfl hq Tryz.underlying171 rfl (by kernel_rfl)
end Go.Proofs.YtkkbngcgphlikaaGreatDoor
end
section
namespace Go.Proofs.YtkkbngcgphlikaaGreatDoor
open Go.RowKit Go.ChangeShapes Go.WideShapes Go.Deep
def opAt (ws : List Nat) (i : Nat) : Ox := (((ws.getD (2 * i) 0 % 4 : Nat) : Int), ((ws.getD (2 * i) 0 / 4 % 1048576 : Nat) : Int), ws.getD (2 * i + 1) 0)
def opsN (ws : List Nat) (k : Nat) : List Ox := (List.range k).map (opAt ws)
def fineB (ws : List Nat) (i : Nat) : Bool := !wrongB (opAt ws i) && decide (ws.getD (2 * i) 0 < 4194304)
def decB (ws : List Nat) (k : Nat) : Bool := decide (ws.getD (2 * k) 0 = moreN 0 (ws.take (2 * k))) && (List.range k).all (fineB ws)
end Go.Proofs.YtkkbngcgphlikaaGreatDoor
end
section
namespace Go.Proofs.YtkkbngcgphlikaaGreatDoor
open Go.RowKit
theorem refMark_yes (W L i : Int) (w : World) (h : gOk W L = true) (hi : 0 ≤ i) (hi2 : i < L) :
 Calls Tryz.prog 86 #[.agg #[.int .i64 W, .int .i64 L], .int .i64 i] w fun e w' => e = .returned (.int .i64 (10 + i)) ∧ Below w.heap.size w w' := by
 obtain ⟨h1, h2, h3, h4⟩ := gOk_t h
 have H := lh h
 clear h
 go_enter Tryz.func86, Tryz.ntmps86
 go_wp2_with fail
 refine (refRight_t W L _ H.out).mono ?_
 rintro e w1 ⟨rfl, hb⟩
 have j1 := (C2.new w (.int .i64 W) (.int .i64 L) 37).keep hb
 obtain ⟨d0, d1⟩ := id j1
 go_wp2_with fail
 go_ret
 exact ⟨rfl, (bZ _ _).trans (hb.mono (by simp))⟩
theorem refMark_t (W L i : Int) (w : World) (h : lOk W L i = true) :
 Calls Tryz.prog 86 #[.agg #[.int .i64 W, .int .i64 L], .int .i64 i] w fun e w' => e = .returned (.int .i64 (10 + i)) ∧ Below w.heap.size w w' := refMark_yes W L i w (lOk_t h).1 (lOk_t h).2.1 (lOk_t h).2.2
theorem refLog_yes (W L i : Int) (w : World) (h : gOk W L = true) (hi : 0 ≤ i) (hi2 : i < L) :
 Calls Tryz.prog 45 #[.agg #[.int .i64 W, .int .i64 L], .int .i64 i] w fun e w' => e = .returned (.agg #[.int .i64 (10 + L + i * 72), .int .i64 32]) ∧ Below w.heap.size w w' := by
 obtain ⟨h1, h2, h3, h4⟩ := gOk_t h
 have H := lh h
 clear h
 go_enter Tryz.func45, Tryz.ntmps45
 go_wp2_with fail
 refine (refRight_t W L _ H.out).mono ?_
 rintro e w1 ⟨rfl, hb⟩
 have k1 := (C2.new (w.alloc (.cells #[.int .i64 W, .int .i64 L] 37)) (.int .i64 0) (.int .i64 0) 70).keep hb
 have j1 := ((C2.new w (.int .i64 W) (.int .i64 L) 37).alloc (.cells #[.int .i64 0, .int .i64 0] 70)).keep hb
 have f1 := (F2.new (w.alloc (.cells #[.int .i64 W, .int .i64 L] 37)) (.int .i64 0) (.int .i64 0) 70).keep (by simp) hb
 simp only [World.size_alloc] at k1 f1
 have hB : Below w.heap.size w w1 := ((bZ _ _).alloc (by simp) _).trans (hb.mono (by simp; omega))
 have lt1 := k1.lt
 obtain ⟨c0, c1⟩ := id k1
 obtain ⟨d0, d1⟩ := id j1
 obtain ⟨g0, g1⟩ := id f1
 go_wp2_with fail
 refine bodyPost_ret (v := .agg #[.int .i64 (10 + L + i * 72), .int .i64 32]) (by simp [results, Tryz.results45, go_sem, c0, c1]; try omega) rfl ⟨rfl, ?_⟩
 go_grown
theorem refLog_t (W L i : Int) (w : World) (h : lOk W L i = true) :
 Calls Tryz.prog 45 #[.agg #[.int .i64 W, .int .i64 L], .int .i64 i] w fun e w' => e = .returned (.agg #[.int .i64 (10 + L + i * 72), .int .i64 32]) ∧ Below w.heap.size w w' := refLog_yes W L i w (lOk_t h).1 (lOk_t h).2.1 (lOk_t h).2.2
theorem refRedo_yes (W L i : Int) (w : World) (h : gOk W L = true) (hi : 0 ≤ i) (hi2 : i < L) :
 Calls Tryz.prog 84 #[.agg #[.int .i64 W, .int .i64 L], .int .i64 i] w fun e w' => e = .returned (.agg #[.int .i64 (10 + L + i * 72 + 32), .int .i64 40]) ∧ Below w.heap.size w w' := by
 obtain ⟨h1, h2, h3, h4⟩ := gOk_t h
 have H := lh h
 clear h
 go_enter Tryz.func84, Tryz.ntmps84
 go_wp2_with fail
 refine (refRight_t W L _ H.out).mono ?_
 rintro e w1 ⟨rfl, hb⟩
 have k1 := (C2.new (w.alloc (.cells #[.int .i64 W, .int .i64 L] 37)) (.int .i64 0) (.int .i64 0) 70).keep hb
 have j1 := ((C2.new w (.int .i64 W) (.int .i64 L) 37).alloc (.cells #[.int .i64 0, .int .i64 0] 70)).keep hb
 have f1 := (F2.new (w.alloc (.cells #[.int .i64 W, .int .i64 L] 37)) (.int .i64 0) (.int .i64 0) 70).keep (by simp) hb
 simp only [World.size_alloc] at k1 f1
 have hB : Below w.heap.size w w1 := ((bZ _ _).alloc (by simp) _).trans (hb.mono (by simp; omega))
 have lt1 := k1.lt
 obtain ⟨c0, c1⟩ := id k1
 obtain ⟨d0, d1⟩ := id j1
 obtain ⟨g0, g1⟩ := id f1
 go_wp2_with fail
 refine bodyPost_ret (v := .agg #[.int .i64 (10 + L + i * 72 + 32), .int .i64 40]) (by simp [results, Tryz.results84, go_sem, c0, c1]; try omega) rfl ⟨rfl, ?_⟩
 go_grown
theorem refRedo_t (W L i : Int) (w : World) (h : lOk W L i = true) :
 Calls Tryz.prog 84 #[.agg #[.int .i64 W, .int .i64 L], .int .i64 i] w fun e w' => e = .returned (.agg #[.int .i64 (10 + L + i * 72 + 32), .int .i64 40]) ∧ Below w.heap.size w w' := refRedo_yes W L i w (lOk_t h).1 (lOk_t h).2.1 (lOk_t h).2.2
end Go.Proofs.YtkkbngcgphlikaaGreatDoor
end
section
namespace Go.Proofs.YtkkbngcgphlikaaGreatDoor
open Go.RowKit
theorem refTable_t (W L : Int) (w : World) (h : gOk W L = true) :
 Calls Tryz.prog 37 #[.agg #[.int .i64 W, .int .i64 L]] w fun e w' => e = .returned (.agg #[.int .i64 (10 + 73 * L), .int .i64 (gN W L)]) ∧ Below w.heap.size w w' := by
 obtain ⟨h1, h2, _, _⟩ := gOk_t h
 have H := lh h
 clear h
 go_enter Tryz.func37, Tryz.ntmps37
 go_wp2_with fail
 refine (refRight_t W L _ H.out).mono ?_
 rintro e w1 ⟨rfl, hb⟩
 have k1 := (C2.new (w.alloc (.cells #[.int .i64 W, .int .i64 L] 37)) (.int .i64 0) (.int .i64 0) 70).keep hb
 have j1 := ((C2.new w (.int .i64 W) (.int .i64 L) 37).alloc (.cells #[.int .i64 0, .int .i64 0] 70)).keep hb
 have f1 := (F2.new (w.alloc (.cells #[.int .i64 W, .int .i64 L] 37)) (.int .i64 0) (.int .i64 0) 70).keep (by simp) hb
 simp only [World.size_alloc] at k1 f1
 have hB : Below w.heap.size w w1 := ((bZ _ _).alloc (by simp) _).trans (hb.mono (by simp; omega))
 have lt1 := k1.lt
 obtain ⟨c0, c1⟩ := id k1
 obtain ⟨d0, d1⟩ := id j1
 obtain ⟨g0, g1⟩ := id f1
 go_wp2_with fail
 have e1 : IntKind.i64.wrap (73 * L) = 73 * L := IntWalk.i64_in _ ⟨by omega, by omega⟩
 have e2 : IntKind.i64.wrap (10 + 73 * L) = 10 + 73 * L := IntWalk.i64_in _ ⟨by omega, by omega⟩
 go_region_with (first
  | (go_at_call 91; refine (refChunks_t W L _ H.out).mono ?_; rintro e w6 ⟨rfl, hb⟩; have BB : Below w.heap.size w w6 := hB.drew.trans (hb.mono (Nat.le_of_lt j1.drew.lt)); have jj : C2 w6 w.heap.size (.int .i64 W) (.int .i64 L) := j1.drew.keep hb; have kk : C2 w6 (w.heap.size + 1) (.int .i64 0) (.int .i64 0) := k1.drew.keep hb; have ff : F2 w6 (w.heap.size + 1) := f1.drew.keep k1.drew.lt hb; obtain ⟨d0, d1⟩ := id jj; obtain ⟨c0, c1⟩ := id kk; obtain ⟨g0, g1⟩ := id ff))
 all_goals
  go_wp2_with fail
  refine bodyPost_ret (v := .agg #[.int .i64 (10 + 73 * L), .int .i64 (gN W L)]) (by simp [results, Tryz.results37, go_sem, c0, c1]) rfl ⟨rfl, ?_⟩
  exact (BB.setCell (by simp) _).setCell (by simp) _
theorem refChunk_yes (W L i : Int) (w : World) (h : gOk W L = true) (hi : 0 ≤ i) (hi2 : i < gN W L) :
 Calls Tryz.prog 36 #[.agg #[.int .i64 W, .int .i64 L], .int .i64 i] w fun e w' => e = .returned (.agg #[.int .i64 (cFrom W L i), .int .i64 32]) ∧ Below w.heap.size w w' := by
 obtain ⟨n1, n2, n3, n4⟩ := gN_bd h
 obtain ⟨h1, h2, h3, h4⟩ := gOk_t h
 have H := lh h
 clear h
 go_enter Tryz.func36, Tryz.ntmps36
 go_wp2_with fail
 refine (refChunks_t W L _ H.out).mono ?_
 rintro e w1 ⟨rfl, hb⟩
 have k1 := (C2.new (w.alloc (.cells #[.int .i64 W, .int .i64 L] 37)) (.int .i64 0) (.int .i64 0) 70).keep hb
 have j1 := ((C2.new w (.int .i64 W) (.int .i64 L) 37).alloc (.cells #[.int .i64 0, .int .i64 0] 70)).keep hb
 have f1 := (F2.new (w.alloc (.cells #[.int .i64 W, .int .i64 L] 37)) (.int .i64 0) (.int .i64 0) 70).keep (by simp) hb
 simp only [World.size_alloc] at k1 f1
 have hB : Below w.heap.size w w1 := ((bZ _ _).alloc (by simp) _).trans (hb.mono (by simp; omega))
 have lt1 := k1.lt
 obtain ⟨c0, c1⟩ := id k1
 obtain ⟨d0, d1⟩ := id j1
 obtain ⟨g0, g1⟩ := id f1
 go_wp2_with fail
 refine bodyPost_ret (v := .agg #[.int .i64 (cFrom W L i), .int .i64 32]) (by simp [results, Tryz.results36, go_sem, c0, c1, cFrom]; omega) rfl ⟨rfl, ?_⟩
 go_grown
end Go.Proofs.YtkkbngcgphlikaaGreatDoor
end
