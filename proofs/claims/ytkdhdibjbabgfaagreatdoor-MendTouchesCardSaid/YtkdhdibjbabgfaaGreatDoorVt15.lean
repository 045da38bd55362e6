/-
  Part of the proof of MendTouches.
-/
import Derived.Test.YtkdhdibjbabgfaaGreatDoorVt13
import Derived.Test.YtkdhdibjbabgfaaGreatDoorVt14
import Derived.Test.YtkdhdibjbabgfaaGreatDoorVt2
import Derived.Test.YtkdhdibjbabgfaaGreatDoorVt4
import Derived.Test.YtkdhdibjbabgfaaGreatDoorVt7
import Derived.Lib.SliceRun
import Derived.Test.YtkdhdibjbabgfaaGreatDoorVt0
set_option maxRecDepth 10000
set_option maxHeartbeats 2000000
set_option linter.unusedVariables false
set_option linter.unusedSimpArgs false
section
namespace Go.Proofs.YtkdhdibjbabgfaaGreatDoor
open Go.RowKit
theorem SL.lit (w : World) (ws : List Nat) (t : TypeId) : SL (w.alloc (.cells (wv ws).toArray t)) (.slice (some ⟨w.heap.size, 0, none⟩) ws.length ws.length) ws := by
 refine .inr ⟨w.heap.size, 0, ws.length, rfl, by simp, Nat.le_refl _, fun i hi => ?_⟩
 have h : (w.alloc (.cells (wv ws).toArray t)).heap[w.heap.size]? = some (.cells (wv ws).toArray t (0, 0)) := heap_alloc_new w _
 rw [Nat.zero_add, (row_cell h i).1, List.getElem?_toArray, wv_at ws i hi]
def headL (W L G : Nat) : List Nat := [6076272092419149644, 1, W, L, G, 0, 0]
theorem head_WL {W L G : Nat} (h1 : W < 18446744073709551616) (h2 : L < 18446744073709551616) (h3 : G < 18446744073709551616) : WL (headL W L G) := fun x hx => by
 unfold headL at hx
 simp at hx
 omega
def gNat (W L : Nat) : Nat := (gN W L).toNat
theorem gNat_eq {W L : Nat} (h : gOk W L = true) : gN W L = (gNat W L : Int) := by
 have := gN_bd h
 unfold gNat
 omega
theorem senc_t (W L G : Nat) (w : World) (h : gOk W L = true) (hG : gN W L = (G : Int)) :
 Calls Tryz.prog 79 #[.agg #[.int .i64 W, .int .i64 L]] w fun e w' => ∃ g, e = .returned (.tuple #[.slice (some ⟨g, 0, none⟩) 8 8, .int .i64 0]) ∧ w.heap.size ≤ g ∧ Rw w' g (headL W L G ++ [moreN 0 (headL W L G)]) ∧ Below w.heap.size w w' := by
 obtain ⟨h1, h2, h3, h4⟩ := gOk_t h
 obtain ⟨n1, n2, n3, n4⟩ := gN_bd h
 rw [hG] at n1 n2 n3 n4
 have hR := lh (fun w => right_t W L w h)
 have hCh := lh (fun w => show Calls Tryz.prog 109 #[.agg #[.int .i64 W, .int .i64 L]] w fun e w' => e = .returned (.int .i64 G) ∧ Below w.heap.size w w' from by
  have := chunks_t W L w h
  rwa [hG] at this)
 have hWL : WL (headL W L G) := head_WL (by omega) (by omega) (by omega)
 replace hG := lh hG
 replace h := lh h
 have f1 : IntKind.u64.wrap (W : Int) = (W : Int) := by rw [IntKind.wrap_u64]; omega
 have f2 : IntKind.u64.wrap (L : Int) = (L : Int) := by rw [IntKind.wrap_u64]; omega
 have f3 : IntKind.u64.wrap (G : Int) = (G : Int) := by rw [IntKind.wrap_u64]; omega
 have hC0 := C2.new w (.int .i64 W) (.int .i64 L) 33
 go_enter Tryz.func79, Tryz.ntmps79
 go_wp2_with fail
 refine (hR.out _).mono ?_
 rintro e w1 ⟨rfl, hb1⟩
 have hB1 : Below w.heap.size w w1 := (bZ _ _).trans (hb1.mono (by simp))
 have hd1 := hB1.drew
 obtain ⟨k0, k1⟩ := hC0.keep hb1
 clear hC0 hb1
 go_wp2_with fail
 refine wp_region_held_drew (S := (fun w' => w'.cell? ⟨w.heap.size, 0, none⟩ = some (.int .i64 W) ∧ w'.cell? ⟨w.heap.size, 1, none⟩ = some (.int .i64 L) ∧ Below w.heap.size w w')) (by kernel_rfl) ?_ (fun hHeld => ?_)
 ·(try dsimp only)
  first | exact ⟨k0, k1, hd1⟩ | exact ⟨cellK hHeld.1 hb, cellK hHeld.2.1 hb, hHeld.2.2.trans (hb.mono hHeld.2.2.size)⟩ | exact ⟨cellK hHeld.1 hb9, cellK hHeld.2.1 hb9, hHeld.2.2.trans (hb9.mono hHeld.2.2.size)⟩ | exact ⟨cellK hHeld.1 hb10, cellK hHeld.2.1 hb10, hHeld.2.2.trans (hb10.mono hHeld.2.2.size)⟩
 refine takeQ 0 ?_
 refine takeQ 1 ?_
 refine takeQ 2 ?_
 refine takeQ 3 ?_
 refine takeQ 4 ?_
 refine takeQ 5 ?_
 refine takeQ 6 ?_
 refine oneL 7 rfl (by kernel_rfl) (fun K hK => ?_)
 go_simp
 (go_at_call 109; (with_reducible refine (hCh.out _).mono ?_); rintro e w8 ⟨rfl, hb⟩)
 refine hK.out _ _ ?_ (fun hHeld2 => ?_)
 ·(try dsimp only)
  first | exact ⟨k0, k1, hd1⟩ | exact ⟨cellK hHeld.1 hb, cellK hHeld.2.1 hb, hHeld.2.2.trans (hb.mono hHeld.2.2.size)⟩ | exact ⟨cellK hHeld.1 hb9, cellK hHeld.2.1 hb9, hHeld.2.2.trans (hb9.mono hHeld.2.2.size)⟩ | exact ⟨cellK hHeld.1 hb10, cellK hHeld.2.1 hb10, hHeld.2.2.trans (hb10.mono hHeld.2.2.size)⟩
 clear hK K hHeld
 have hHeld := hHeld2
 clear hHeld2
 try simp only [Act.put,sA,sB,sC]
 refine takeQ 8 ?_
 refine oneL 9 rfl (by kernel_rfl) (fun K hK => ?_)
 go_simp
 (have hS7 : SL (w8.alloc (.cells #[.int .u64 6076272092419149644, .int .u64 1, .int .u64 W, .int .u64 L, .int .u64 G, .int .u64 0, .int .u64 0] 25)) (.slice (some ⟨w8.heap.size, 0, none⟩) 7 7) (headL W L G) := SL.lit w8 (headL W L G) _; have hs8 : w.heap.size ≤ w8.heap.size := hHeld.2.2.size; have hb9 := bZ w8 (.cells #[.int .u64 6076272092419149644, .int .u64 1, .int .u64 W, .int .u64 L, .int .u64 G, .int .u64 0, .int .u64 0] 25))
 refine hK.out _ _ ?_ (fun hHeld2 => ?_)
 ·(try dsimp only)
  first | exact ⟨k0, k1, hd1⟩ | exact ⟨cellK hHeld.1 hb, cellK hHeld.2.1 hb, hHeld.2.2.trans (hb.mono hHeld.2.2.size)⟩ | exact ⟨cellK hHeld.1 hb9, cellK hHeld.2.1 hb9, hHeld.2.2.trans (hb9.mono hHeld.2.2.size)⟩ | exact ⟨cellK hHeld.1 hb10, cellK hHeld.2.1 hb10, hHeld.2.2.trans (hb10.mono hHeld.2.2.size)⟩
 clear hK K hHeld
 have hHeld := hHeld2
 clear hHeld2
 try simp only [Act.put,sA,sB,sC]
 refine oneL 10 rfl (by kernel_rfl) (fun K hK => ?_)
 go_simp
 (go_at_call 108; refine (seal_own _ (headL W L G) _ hWL (by simp [headL]) hS7).mono ?_; rintro e w10 ⟨rfl, hS10, hb10⟩)
 refine hK.out _ _ ?_ (fun hHeld2 => ?_)
 ·(try dsimp only)
  first | exact ⟨k0, k1, hd1⟩ | exact ⟨cellK hHeld.1 hb, cellK hHeld.2.1 hb, hHeld.2.2.trans (hb.mono hHeld.2.2.size)⟩ | exact ⟨cellK hHeld.1 hb9, cellK hHeld.2.1 hb9, hHeld.2.2.trans (hb9.mono hHeld.2.2.size)⟩ | exact ⟨cellK hHeld.1 hb10, cellK hHeld.2.1 hb10, hHeld.2.2.trans (hb10.mono hHeld.2.2.size)⟩
 clear hK K hHeld
 have hHeld := hHeld2
 clear hHeld2
 try simp only [Act.put,sA,sB,sC]
 refine takeQ 11 ?_
 refine takeQ 12 ?_
 refine wpAnyH_done (by kernel_rfl) ?_ _
 go_wp2_with fail
 go_ret2
 exact ⟨w8.heap.size + 1, rfl, Nat.le_succ_of_le hs8, by simpa using hS10, hHeld.2.2⟩
theorem senc_f (W L : Int) (w : World) (h : gOk W L = false) :
 Calls Tryz.prog 79 #[.agg #[.int .i64 W, .int .i64 L]] w fun e w' => e = .returned (.tuple #[.slice none 0 0, .int .i64 1]) ∧ Below w.heap.size w w' := by
 have hR := lh (fun w => right_f W L w h)
 replace h := lh h
 go_enter Tryz.func79, Tryz.ntmps79
 go_wp2_with fail
 refine (hR.out _).mono ?_
 rintro e w1 ⟨rfl, hb1⟩
 have hB1 : Below w.heap.size w w1 := (bZ _ _).trans (hb1.mono (by simp))
 go_wp2_with fail
 go_ret2
 exact ⟨rfl, hB1⟩
end Go.Proofs.YtkdhdibjbabgfaaGreatDoor
end
section
namespace Go.Proofs.YtkdhdibjbabgfaaGreatDoor
open Go.RowKit
theorem refTable_t (W L : Int) (w : World) (h : gOk W L = true) :
 Calls Tryz.prog 28 #[.agg #[.int .i64 W, .int .i64 L]] w fun e w' => e = .returned (.agg #[.int .i64 (10 + 73 * L), .int .i64 (gN W L)]) ∧ Below w.heap.size w w' := by
 obtain ⟨h1, h2, _, _⟩ := gOk_t h
 have H := lh h
 clear h
 go_enter Tryz.func28, Tryz.ntmps28
 go_wp2_with fail
 refine (refRight_t W L _ H.out).mono ?_
 rintro e w1 ⟨rfl, hb⟩
 have k1 := (C2.new (w.alloc (.cells #[.int .i64 W, .int .i64 L] 33)) (.int .i64 0) (.int .i64 0) 51).keep hb
 have j1 := ((C2.new w (.int .i64 W) (.int .i64 L) 33).alloc (.cells #[.int .i64 0, .int .i64 0] 51)).keep hb
 have f1 := (F2.new (w.alloc (.cells #[.int .i64 W, .int .i64 L] 33)) (.int .i64 0) (.int .i64 0) 51).keep (by simp) hb
 simp only [World.size_alloc] at k1 f1
 have hB : Below w.heap.size w w1 := ((bZ _ _).alloc (by simp) _).trans (hb.mono (by simp; omega))
 have lt1 := k1.lt
 obtain ⟨c0, c1⟩ := id k1
 obtain ⟨d0, d1⟩ := id j1
 obtain ⟨g0, g1⟩ := id f1
 go_wp2_with fail
 have e1 : IntKind.i64.wrap (73 * L) = 73 * L := IntWalk.i64_in _ ⟨by omega, by omega⟩
 have e2 : IntKind.i64.wrap (10 + 73 * L) = 10 + 73 * L := IntWalk.i64_in _ ⟨by omega, by omega⟩
 go_region_with (first
  | (go_at_call 57; refine (refChunks_t W L _ H.out).mono ?_; rintro e w6 ⟨rfl, hb⟩; have BB : Below w.heap.size w w6 := hB.drew.trans (hb.mono (Nat.le_of_lt j1.drew.lt)); have jj : C2 w6 w.heap.size (.int .i64 W) (.int .i64 L) := j1.drew.keep hb; have kk : C2 w6 (w.heap.size + 1) (.int .i64 0) (.int .i64 0) := k1.drew.keep hb; have ff : F2 w6 (w.heap.size + 1) := f1.drew.keep k1.drew.lt hb; obtain ⟨d0, d1⟩ := id jj; obtain ⟨c0, c1⟩ := id kk; obtain ⟨g0, g1⟩ := id ff))
 all_goals
  go_wp2_with fail
  refine bodyPost_ret (v := .agg #[.int .i64 (10 + 73 * L), .int .i64 (gN W L)]) (by simp [results, Tryz.results28, go_sem, c0, c1]) rfl ⟨rfl, ?_⟩
  exact (BB.setCell (by simp) _).setCell (by simp) _
theorem refChunk_yes (W L i : Int) (w : World) (h : gOk W L = true) (hi : 0 ≤ i) (hi2 : i < gN W L) :
 Calls Tryz.prog 48 #[.agg #[.int .i64 W, .int .i64 L], .int .i64 i] w fun e w' => e = .returned (.agg #[.int .i64 (cFrom W L i), .int .i64 32]) ∧ Below w.heap.size w w' := by
 obtain ⟨n1, n2, n3, n4⟩ := gN_bd h
 obtain ⟨h1, h2, h3, h4⟩ := gOk_t h
 have H := lh h
 clear h
 go_enter Tryz.func48, Tryz.ntmps48
 go_wp2_with fail
 refine (refChunks_t W L _ H.out).mono ?_
 rintro e w1 ⟨rfl, hb⟩
 have k1 := (C2.new (w.alloc (.cells #[.int .i64 W, .int .i64 L] 33)) (.int .i64 0) (.int .i64 0) 51).keep hb
 have j1 := ((C2.new w (.int .i64 W) (.int .i64 L) 33).alloc (.cells #[.int .i64 0, .int .i64 0] 51)).keep hb
 have f1 := (F2.new (w.alloc (.cells #[.int .i64 W, .int .i64 L] 33)) (.int .i64 0) (.int .i64 0) 51).keep (by simp) hb
 simp only [World.size_alloc] at k1 f1
 have hB : Below w.heap.size w w1 := ((bZ _ _).alloc (by simp) _).trans (hb.mono (by simp; omega))
 have lt1 := k1.lt
 obtain ⟨c0, c1⟩ := id k1
 obtain ⟨d0, d1⟩ := id j1
 obtain ⟨g0, g1⟩ := id f1
 go_wp2_with fail
 refine bodyPost_ret (v := .agg #[.int .i64 (cFrom W L i), .int .i64 32]) (by simp [results, Tryz.results48, go_sem, c0, c1, cFrom]; omega) rfl ⟨rfl, ?_⟩
 go_grown
end Go.Proofs.YtkdhdibjbabgfaaGreatDoor
end
section
namespace Go.Proofs.YtkdhdibjbabgfaaGreatDoor
open Go.RowKit
def scatN (I : List Nat) (P : List Int) (ws : List Nat) : Nat → List Nat
 | 0 => I
 | k + 1 => if 0 ≤ P.getD k 0 ∧ P.getD k 0 < (I.length : Int) then (scatN I P ws k).set (P.getD k 0).toNat (ws.getD k 0) else scatN I P ws k
def Ex1 (w : World) (g i : Nat) : Prop := ∃ x, w.cell? ⟨g, i, none⟩ = some x
theorem farR {w : World} {base e size n g o : Nat} {v : Value} {xs : List Value} (h : w.ownsRow base e size v n xs) (hg : g < base) (u : Value) : (w.setCell ⟨g, o, none⟩ u).ownsRow base e size v n xs := by
 refine ⟨h.1, ?_⟩
 rcases h.2 with h2 | ⟨g', cap, cur, hv, hbg, hgc, h1, h2, h3, h4⟩
 ·exact .inl h2
 ·exact .inr ⟨g', cap, cur, hv, hbg, by rw [Below.heap_setCell w ⟨g, o, none⟩ u g' (by simp only []; omega)]; exact hgc, h1, h2, h3, h4⟩
theorem OwnI.drew {w : World} {base : Nat} {v : Value} {l : List Int} (h : OwnI w base v l) : OwnI w.drew base v l := h
theorem refScatter_any (v u t : Value) (I ws : List Nat) (l : List Sp) (w : World) (hl : PBs l) (hlen : l.length ≤ 1000) (hI : I.length ≤ 100000) (hws : ws.length ≤ 100000) (hv : KL .u64 w v I) (hu : PL w u l) (ht : KL .u64 w t ws) :
 Calls Tryz.prog 31 #[v, u, t] w fun e w' => ∃ v', e = .returned v' ∧ OwnU w' w.heap.size v' (scatN I (placesL l) ws (min (placesL l).length ws.length)) ∧ Below w.heap.size w w' := by
 obtain ⟨vo, wa, hrun, ho, hba⟩ := newW hv hI
 have hPl := lh (refPlaces_any u l wa hl hlen (hu.keep hba))
 have hlt := placesL_tk l hl l.length (Nat.le_refl _)
 rw [List.take_of_length_le (Nat.le_refl _)] at hlt
 have hnn := places_nn hl
 generalize placesL l = P at *
 obtain ⟨NI, hNI⟩ : ∃ n, I.length = n := ⟨_, rfl⟩
 obtain ⟨NW, hNW⟩ : ∃ n, ws.length = n := ⟨_, rfl⟩
 obtain ⟨n, hn⟩ : ∃ n, P.length = n := ⟨_, rfl⟩
 rw [hn, hNW]
 obtain ⟨AW, capW, rfl, hCW⟩ := ht.form hNW
 have hn9 : n ≤ 1000000 := by omega
 have hf : ∃ Ao co, vo = .slice Ao NI co ∧ (0 < NI → ∃ g, Ao = some ⟨g, 0, none⟩) := by
  rcases ho.2 with ⟨h, h0⟩ | ⟨g, cap, cur, h, _⟩
  ·exact ⟨none, 0, by rw [h, ← hNI, h0], fun q => by omega⟩
  ·exact ⟨_, _, by rw [h, hNI], fun _ => ⟨g, rfl⟩⟩
 obtain ⟨Ao, co, rfl, hAo⟩ := hf
 replace hAo := lh hAo
 have hT := lh (fun k (hk : k < n) => show 0 ≤ P.getD k 0 ∧ P.getD k 0 ≤ 2199023255552 from hnn _ (by rw [List.getD_eq_getElem?_getD, List.getElem?_eq_getElem (by omega)]; exact List.getElem_mem _))
 have hS1 := lh (fun k (h0 : 0 ≤ P.getD k 0) (h : P.getD k 0 < (NI : Int)) => show (scatN I P ws k).set (P.getD k 0).toNat (ws.getD k 0) = scatN I P ws (k + 1) from by rw [scatN, if_pos ⟨h0, by rw [hNI]; exact h⟩])
 have hS0 := lh (fun k (h : (NI : Int) ≤ P.getD k 0) => show scatN I P ws k = scatN I P ws (k + 1) from by rw [scatN, if_neg (by rw [hNI]; omega)])
 replace hCW := lh hCW
 have ho' : wa.ownsRow w.heap.size 25 1 (.slice Ao NI co) NI (I.map fun x : Nat => Value.int .u64 x) := by have h := ho; unfold OwnU at h; rwa [hNI] at h
 have hI0 := lh (show I = scatN I P ws 0 from rfl)
 have hNW9 : NW ≤ 100000 := by omega
 have hNI9 : NI ≤ 100000 := by omega
 replace hn := lh hn
 have hNI' := lh hNI
 clear ho hv hu ht hl hlen hI hlt hnn hws hNI hNW
 go_enter Tryz.func31, Tryz.ntmps31
 go_wp2_with (at_builtin; refine wpList_append_run rfl _ _ 23 rfl _ _ _ rfl rfl hrun ?_)
 refine hPl.out.mono ?_
 rintro e w1 ⟨vp, rfl, hop, hb1⟩
 have hfp : ∃ Ap cp, vp = .slice Ap n cp ∧ (0 < n → ∃ g, Ap = some ⟨g, 0, none⟩) := by
  have hn' := hn.out
  rcases hop.2 with ⟨h, h0⟩ | ⟨g, cap, cur, h, _⟩
  ·exact ⟨none, 0, by rw [h, ← hn', h0], fun q => by omega⟩
  ·exact ⟨_, _, by rw [h, hn'], fun _ => ⟨g, rfl⟩⟩
 obtain ⟨Ap, cp, rfl, hAp⟩ := hfp
 have hP1 : w1.ownsRow wa.heap.size 3 1 (.slice Ap n cp) n (P.map fun x : Int => Value.int .i64 x) := by have h := hop; unfold OwnI at h; rwa [hn.out] at h
 have hO1 : w1.ownsRow w.heap.size 25 1 (.slice Ao NI co) NI (I.map fun x : Nat => Value.int .u64 x) := by
  have h : OwnU wa w.heap.size (.slice Ao NI co) I := by unfold OwnU; rw [hNI'.out]; exact ho'
  have h2 := h.keep hb1
  unfold OwnU at h2
  rwa [hNI'.out] at h2
 have hAl := lh (fun g (h : (Value.slice Ao NI co).ownBlock = some g) => (ho'.lt g h))
 have hPl2 := lh (fun g (h : (Value.slice Ap n cp).ownBlock = some g) => (hP1.lt g h).1)
 have hsz := hb1.size
 have hB1 := hba.trans (hb1.mono hba.size)
 replace hAp := lh hAp
 clear hop ho' hPl hb1 hba hrun
 go_wp2_with fail
 go_loopw [9] (fun x wr => ∃ (k : Nat) (O : List Nat), k ≤ n ∧ k ≤ NW ∧ x = .int .i64 k ∧ Hid (O = scatN I P ws k) ∧ O.length = NI ∧ wr.ownsRow w.heap.size 25 1 (.slice Ao NI co) NI (O.map fun x : Nat => Value.int .u64 x) ∧ wr.ownsRow wa.heap.size 3 1 (.slice Ap n cp) n (P.map fun x : Int => Value.int .i64 x) ∧ Below w.heap.size w wr ∧ wa.heap.size ≤ wr.heap.size) (fun x _ => n + 1 - (intOf x).toNat)
 case atStart => exact ⟨0, I, Nat.zero_le _, Nat.zero_le _, rfl, hI0.out, hNI'.out, hO1, hP1, hB1, hsz⟩
 case round =>
  clear hO1 hP1 hB1 hsz
  obtain ⟨k, O, hk, hkw, rfl, hLe, hLl, hO, hP, hB, hsz⟩ := hrel
  by_cases hlt : k < n
  ·by_cases hlw : k < NW
   ·have hlt' : (k : Int) < (n : Int) := by omega
    have hlw' : (k : Int) < (NW : Int) := by omega
    obtain ⟨gp, rfl⟩ := hAp.out (by omega)
    have c0 : wr.cell? ⟨gp, k, none⟩ = some (.int .i64 (P.getD k 0)) := by
     have hn' := hn.out
     rw [hP.cellAt k (by omega), List.getElem?_map, List.getD_eq_getElem?_getD, List.getElem?_eq_getElem (by omega)]
     rfl
    obtain ⟨gw, ow, rfl, hcapw, hgw, _⟩ := hCW.out w k (Below.refl _ _) hlw
    obtain ⟨g2, o2, he, _, hgw2, d0⟩ := hCW.out wr k hB hlw
    cases he
    obtain ⟨t2, t3⟩ := hT.out k hlt
    have hS1k := hS1.out k
    have hS0k := hS0.out k
    rw [← hLe.out] at hS1k hS0k
    have hgp := hPl2.out gp rfl
    generalize P.getD k 0 = y at *
    obtain ⟨i, rfl⟩ := Int.eq_ofNat_of_zero_le t2
    generalize ws.getD k 0 = z at *
    by_cases k2 : i < NI
    ·have k2' : (i : Int) < (NI : Int) := by omega
     obtain ⟨go, rfl⟩ := hAo.out (by omega)
     obtain ⟨hg1, hg2⟩ := hAl.out go rfl
     have hLn := lh (hS1k t2 k2')
     simp only [Int.toNat_natCast] at hLn
     clear hS1k hS0k
     have f0 := hO.frozenAt i
     have e0 : Ex1 wr go i := ⟨_, by rw [hO.cellAt i (by omega)]; exact List.getElem?_eq_getElem (by simp; omega)⟩
     have hO' : (wr.setCell ⟨go, i, none⟩ (.int .u64 (z : Nat))).drew.ownsRow w.heap.size 25 1 (.slice (some ⟨go, 0, none⟩) NI co) NI ((O.map fun x : Nat => Value.int .u64 x).set i (.int .u64 (z : Nat))) := (World.ownsRow.stored (w := wr) hO i (.int .u64 (z : Nat))).1
     have s1 : (wr.setCell ⟨go, i, none⟩ (.int .u64 (z : Nat))).drew.cell? ⟨gp, k, none⟩ = some (.int .i64 (i : Int)) := (World.cell?_of_block (Below.heap_setCell wr ⟨go, i, none⟩ (.int .u64 (z : Nat)) gp (by simp only []; omega))).trans c0
     have s2 : (wr.setCell ⟨go, i, none⟩ (.int .u64 (z : Nat))).drew.cell? ⟨gw, ow + k, none⟩ = some (.int .u64 (z : Nat)) := (World.cell?_of_block (Below.heap_setCell wr ⟨go, i, none⟩ (.int .u64 (z : Nat)) gw (by simp only []; omega))).trans d0
     have s3 := hO'.frozenAt i
     have s4 : Ex1 (wr.setCell ⟨go, i, none⟩ (.int .u64 (z : Nat))).drew go i := ⟨_, by rw [hO'.cellAt i (by omega)]; exact List.getElem?_eq_getElem (by simp; omega)⟩
     have hO2 : (wr.setCell ⟨go, i, none⟩ (.int .u64 (z : Nat))).drew.ownsRow w.heap.size 25 1 (.slice (some ⟨go, 0, none⟩) NI co) NI ((O.set i z).map fun x : Nat => Value.int .u64 x) := by rw [List.map_set]; exact hO'
     have hP2 := farR (w := wr) (o := i) hP hg2 (.int .u64 (z : Nat))
     have hB2 := ((hB).setCell (p := ⟨go, i, none⟩) hg1 (.int .u64 (z : Nat))).drew
     have hs2 : wa.heap.size ≤ (wr.setCell ⟨go, i, none⟩ (.int .u64 (z : Nat))).drew.heap.size := by simpa using hsz
     clear hO' hO hP hB hsz
     go_wp2_with fail
     refine wp_region_held_drew (S := (fun w' => w'.cell? ⟨gp, k, none⟩ = some (.int .i64 (i : Int)) ∧ w'.cell? ⟨gw, ow + k, none⟩ = some (.int .u64 (z : Nat)) ∧ w'.frozen? ⟨go, i, none⟩ = false ∧ Ex1 w' go i)) (by kernel_rfl) ?_ (fun hHeld => ?_)
     ·(try dsimp only)
      ((try go_split_ands); refine ⟨?_, ?_, ?_, ?_⟩ <;> first | assumption | exact c0 | exact d0 | exact f0 | exact e0 | exact s1 | exact s2 | exact s3 | exact s4)
     refine takeV 0 ?_
     refine takeV 1 ?_
     refine takeV 2 ?_
     refine takeV 3 ?_
     refine takeV 4 ?_
     refine takeV 5 ?_
     refine takeV 6 ?_
     refine takeV 7 ?_
     refine takeV 8 ?_
     refine takeV 9 ?_
     refine oneL 10 rfl (by kernel_rfl) (fun K hK => ?_)
     go_simp
     (go_split_ands; obtain ⟨x0, hx0⟩ := id e0; go_simp; (try simp only [Result.andThen_ok]); (try go_simp))
     refine hK.out _ _ ?_ (fun hHeld2 => ?_)
     ·(try dsimp only)
      ((try go_split_ands); refine ⟨?_, ?_, ?_, ?_⟩ <;> first | assumption | exact c0 | exact d0 | exact f0 | exact e0 | exact s1 | exact s2 | exact s3 | exact s4)
     clear hK K
     try simp only [Act.put,sA,sB,sC]
     refine wpAnyH_done (by kernel_rfl) ?_ _
     go_wp2_with fail
     go_roundw
     case rel => exact ⟨k + 1, _, by omega, by omega, by go_num, hLn, by rw [List.length_set]; exact hLl, hO2, hP2, hB2, hs2⟩
     case measure => simp [intOf]; omega
    ·have k3 : (NI : Int) ≤ (i : Int) := by omega
     have hLn := lh (hS0k k3)
     clear hS1k hS0k
     go_wp2_with fail
     go_roundw
     case rel => exact ⟨k + 1, _, by omega, by omega, by go_num, hLn, hLl, hO, hP, hB, hsz⟩
     case measure => simp [intOf]; omega
   ·have hlt' : (k : Int) < (n : Int) := by omega
    have hlw' : (NW : Int) ≤ (k : Int) := by omega
    have hR := lh (show O = scatN I P ws (min n NW) from by rw [hLe.out, show min n NW = k by omega])
    go_wp2_with fail
    go_ret
    exact ⟨_, rfl, by rw [← hR.out]; unfold OwnU; rw [hLl]; exact hO, hB⟩
  ·have hlt' : (n : Int) ≤ (k : Int) := by omega
   have hR := lh (show O = scatN I P ws (min n NW) from by rw [hLe.out, show min n NW = k by omega])
   go_wp2_with fail
   go_ret
   exact ⟨_, rfl, by rw [← hR.out]; unfold OwnU; rw [hLl]; exact hO, hB⟩
end Go.Proofs.YtkdhdibjbabgfaaGreatDoor
end
