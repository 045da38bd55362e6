/-
  Part of the proof of MendWhole.
-/
import Derived.Test.YtkdhdibjbabgfaaGreatDoorVw17
import Derived.Test.YtkdhdibjbabgfaaGreatDoorVw21
import Derived.Test.YtkdhdibjbabgfaaGreatDoorVw3
import Derived.Test.YtkdhdibjbabgfaaGreatDoorVw34
import Derived.Test.YtkdhdibjbabgfaaGreatDoorVw4
import Derived.Test.YtkdhdibjbabgfaaGreatDoorVw5
import Derived.Test.YtkdhdibjbabgfaaGreatDoorVw9
import Derived.Lib.SliceRun
import Derived.Test.YtkdhdibjbabgfaaGreatDoorVw0
set_option maxRecDepth 10000
set_option maxHeartbeats 2000000
set_option linter.unusedVariables false
set_option linter.unusedSimpArgs false
section
namespace Go.Proofs.YtkdhdibjbabgfaaGreatDoor
open Go.RowKit
def nameW (k : Nat) : Nat := [0, 84, 21587, 5526337, 1414742342, 362174039627, 92716554144579, 23735437861012303, 6076272092419149644].getD k 0
theorem renc_t (W L G : Nat) (w : World) (h : gOk W L = true) (hG : gN W L = (G : Int)) :
 Calls Tryz.prog 26 #[.agg #[.int .i64 W, .int .i64 L]] w fun e w' => ∃ v, e = .returned (.tuple #[v, .int .i64 0]) ∧ SL w' v (headW W L G) ∧ Below w.heap.size w w' := by
 obtain ⟨h1, h2, h3, h4⟩ := gOk_t h
 obtain ⟨n1, n2, n3, n4⟩ := gN_bd h
 rw [hG] at n1 n2 n3 n4
 have hR := lh (fun w => refRight_t W L w h)
 have hCh := lh (fun w => show Calls Tryz.prog 57 #[.agg #[.int .i64 W, .int .i64 L]] w fun e w' => e = .returned (.int .i64 G) ∧ Below w.heap.size w w' from by
  have := refChunks_t W L w h
  rwa [hG] at this)
 have hWL : WL (headL W L G) := head_WL (by omega) (by omega) (by omega)
 replace hG := lh hG
 replace h := lh h
 have f1 : IntKind.u64.wrap (W : Int) = (W : Int) := by rw [IntKind.wrap_u64]; omega
 have f2 : IntKind.u64.wrap (L : Int) = (L : Int) := by rw [IntKind.wrap_u64]; omega
 have f3 : IntKind.u64.wrap (G : Int) = (G : Int) := by rw [IntKind.wrap_u64]; omega
 have hC0 := C2.new w (.int .i64 W) (.int .i64 L) 33
 go_enter Tryz.func26, Tryz.ntmps26
 go_wp2_with fail
 refine (hR.out _).mono ?_
 rintro e w1 ⟨rfl, hb1⟩
 have hB1 : Below w.heap.size w w1 := (bZ _ _).trans (hb1.mono (by simp))
 have hC1 := hC0.keep hb1
 clear hC0 hb1
 go_wp2_with fail
 go_loopw [5, 7] (fun a i wr => ∃ k x : Nat, k ≤ 8 ∧ i = .int .i64 k ∧ a = .int .u64 x ∧ x = nameW k ∧ C2 wr w.heap.size (.int .i64 W) (.int .i64 L) ∧ Below w.heap.size w wr) (fun _ i _ => 9 - (intOf i).toNat)
 case atStart => exact ⟨0, 0, by omega, rfl, rfl, rfl, hC1, hB1⟩
 case round =>
  obtain ⟨k, x, hk, rfl, rfl, hx, hC, hB⟩ := hrel
  have hk9 : k = 0 ∨ k = 1 ∨ k = 2 ∨ k = 3 ∨ k = 4 ∨ k = 5 ∨ k = 6 ∨ k = 7 ∨ k = 8 := by omega
  clear hC1 hB1
  rcases hk9 with rfl | rfl | rfl | rfl | rfl | rfl | rfl | rfl | rfl
  ·replace hx : x = 0 := hx
   subst hx
   go_wp2_with fail
   go_roundw
   case rel => exact ⟨1, 84, by omega, by go_num, by go_num, rfl, hC, hB⟩
   case measure => simp [intOf]
  ·replace hx : x = 84 := hx
   subst hx
   go_wp2_with fail
   go_roundw
   case rel => exact ⟨2, 21587, by omega, by go_num, by go_num, rfl, hC, hB⟩
   case measure => simp [intOf]
  ·replace hx : x = 21587 := hx
   subst hx
   go_wp2_with fail
   go_roundw
   case rel => exact ⟨3, 5526337, by omega, by go_num, by go_num, rfl, hC, hB⟩
   case measure => simp [intOf]
  ·replace hx : x = 5526337 := hx
   subst hx
   go_wp2_with fail
   go_roundw
   case rel => exact ⟨4, 1414742342, by omega, by go_num, by go_num, rfl, hC, hB⟩
   case measure => simp [intOf]
  ·replace hx : x = 1414742342 := hx
   subst hx
   go_wp2_with fail
   go_roundw
   case rel => exact ⟨5, 362174039627, by omega, by go_num, by go_num, rfl, hC, hB⟩
   case measure => simp [intOf]
  ·replace hx : x = 362174039627 := hx
   subst hx
   go_wp2_with fail
   go_roundw
   case rel => exact ⟨6, 92716554144579, by omega, by go_num, by go_num, rfl, hC, hB⟩
   case measure => simp [intOf]
  ·replace hx : x = 92716554144579 := hx
   subst hx
   go_wp2_with fail
   go_roundw
   case rel => exact ⟨7, 23735437861012303, by omega, by go_num, by go_num, rfl, hC, hB⟩
   case measure => simp [intOf]
  ·replace hx : x = 23735437861012303 := hx
   subst hx
   go_wp2_with fail
   go_roundw
   case rel => exact ⟨8, 6076272092419149644, by omega, by go_num, by go_num, rfl, hC, hB⟩
   case measure => simp [intOf]
  ·replace hx : x = 6076272092419149644 := hx
   subst hx
   have hd1 := hB.drew
   obtain ⟨k0, k1⟩ := id hC
   go_wp2_with fail
   refine wp_region_held_drew (S := (fun w' => w'.cell? ⟨w.heap.size, 0, none⟩ = some (.int .i64 W) ∧ w'.cell? ⟨w.heap.size, 1, none⟩ = some (.int .i64 L) ∧ Below w.heap.size w w')) (by kernel_rfl) ?_ (fun hHeld => ?_)
   ·(try dsimp only)
    first | exact ⟨k0, k1, hd1⟩ | exact ⟨cellK hHeld.1 hb, cellK hHeld.2.1 hb, hHeld.2.2.trans (hb.mono hHeld.2.2.size)⟩ | exact ⟨cellK hHeld.1 hb9, cellK hHeld.2.1 hb9, hHeld.2.2.trans (hb9.mono hHeld.2.2.size)⟩
   refine takeQ 0 ?_
   refine takeQ 1 ?_
   refine takeQ 2 ?_
   refine takeQ 3 ?_
   refine takeQ 4 ?_
   refine takeQ 5 ?_
   refine takeQ 6 ?_
   refine takeQ 7 ?_
   refine oneL 8 rfl (by kernel_rfl) (fun K hK => ?_)
   go_simp
   (go_at_call 57; (with_reducible refine (hCh.out _).mono ?_); rintro e w8 ⟨rfl, hb⟩)
   refine hK.out _ _ ?_ (fun hHeld2 => ?_)
   ·(try dsimp only)
    first | exact ⟨k0, k1, hd1⟩ | exact ⟨cellK hHeld.1 hb, cellK hHeld.2.1 hb, hHeld.2.2.trans (hb.mono hHeld.2.2.size)⟩ | exact ⟨cellK hHeld.1 hb9, cellK hHeld.2.1 hb9, hHeld.2.2.trans (hb9.mono hHeld.2.2.size)⟩
   clear hK K hHeld
   have hHeld := hHeld2
   clear hHeld2
   try simp only [Act.put,sA,sB,sC]
   refine takeQ 9 ?_
   refine oneL 10 rfl (by kernel_rfl) (fun K hK => ?_)
   go_simp
   (have hR7 : Rw (w8.alloc (.cells #[.int .u64 6076272092419149644, .int .u64 1, .int .u64 W, .int .u64 L, .int .u64 G, .int .u64 0, .int .u64 0] 25)) w8.heap.size (headL W L G) := heap_alloc_new w8 _; have hs8 : w.heap.size ≤ w8.heap.size := hHeld.2.2.size; have hb9 := bZ w8 (.cells #[.int .u64 6076272092419149644, .int .u64 1, .int .u64 W, .int .u64 L, .int .u64 G, .int .u64 0, .int .u64 0] 25))
   refine hK.out _ _ ?_ (fun hHeld2 => ?_)
   ·(try dsimp only)
    first | exact ⟨k0, k1, hd1⟩ | exact ⟨cellK hHeld.1 hb, cellK hHeld.2.1 hb, hHeld.2.2.trans (hb.mono hHeld.2.2.size)⟩ | exact ⟨cellK hHeld.1 hb9, cellK hHeld.2.1 hb9, hHeld.2.2.trans (hb9.mono hHeld.2.2.size)⟩
   clear hK K hHeld
   have hHeld := hHeld2
   clear hHeld2
   try simp only [Act.put,sA,sB,sC]
   refine takeQ 11 ?_
   refine wpAnyH_done (by kernel_rfl) ?_ _
   have hB9 : Below w.heap.size w (w8.alloc (.cells #[.int .u64 6076272092419149644, .int .u64 1, .int .u64 W, .int .u64 L, .int .u64 G, .int .u64 0, .int .u64 0] 25)) := hHeld.2.2
   have hO := lh (refOf_any (.slice (some ⟨w8.heap.size, 0, none⟩) 7 7) (headL W L G) (w8.alloc (.cells #[.int .u64 6076272092419149644, .int .u64 1, .int .u64 W, .int .u64 L, .int .u64 G, .int .u64 0, .int .u64 0] 25)) hWL (by simp [headL]) hR7.sl)
   clear hHeld hC hB hd1 hR hCh
   go_wp2_with fail
   refine hO.out.mono ?_
   rintro e w10 ⟨rfl, hb10⟩
   have hR10 : Rw w10 w8.heap.size (headL W L G) := hR7.keep hb10 (by simp)
   have hR11 : Rw (w10.alloc (.cells #[.int .u64 (moreN 0 (headL W L G) : Nat)] 25)) w8.heap.size (headL W L G) := hR10.keep ((Below.refl _ _).alloc (Nat.le_refl w10.heap.size) (.cells #[.int .u64 (moreN 0 (headL W L G) : Nat)] 25)) hR10.lt
   obtain ⟨v11, w11, hrun, hS11, _, hb11⟩ := append_sum (m := moreN 0 (headL W L G)) (gb := w10.heap.size) (hR11.own (by simp [headL])) rfl (by simp [go_sem]) (Nat.le_of_lt hR11.lt) (by simp [headL]) (by simp [headL])
   have hB10 := hB9.trans (hb10.mono hB9.size)
   have hB11 : Below w.heap.size w w11 := (hB10.alloc (by have := hB10.size; omega) (.cells #[.int .u64 (moreN 0 (headL W L G) : Nat)] 25)).trans (hb11.mono hs8)
   have hm := moreN_lt 0 (headL W L G)
   have f5 : IntKind.u64.wrap (moreN 0 (headL W L G) : Nat) = ((moreN 0 (headL W L G) : Nat) : Int) := by rw [IntKind.wrap_u64]; omega
   have hrun' : (Builtin.append_ #[23, 23] 23 #[.slice (some ⟨w8.heap.size, 0, none⟩) 7 7, .slice (some ⟨w10.heap.size, 0, none⟩) 1 1]).run Tryz.prog (w10.alloc (.cells #[.int .u64 (moreN 0 (headL W L G) : Nat)] 25)) = .ok v11 w11 := hrun
   clear hrun hR11 hR10 hR7 hb10 hb11 hB10 hB9 hO
   generalize hmm : moreN 0 (headL W L G) = m at *
   replace hmm := lh hmm
   go_wp2_with (at_builtin; refine Lib.wpList_append_run _ rfl _ _ _ _ rfl _ _ rfl rfl _ _ hrun' ?_)
   go_ret2
   exact ⟨_, rfl, by rw [headW, hmm.out]; exact hS11, hB11⟩
theorem renc_f (W L : Int) (w : World) (h : gOk W L = false) :
 Calls Tryz.prog 26 #[.agg #[.int .i64 W, .int .i64 L]] w fun e w' => e = .returned (.tuple #[.slice none 0 0, .int .i64 1]) ∧ Below w.heap.size w w' := by
 have hR := lh (fun w => refRight_f W L w h)
 replace h := lh h
 go_enter Tryz.func26, Tryz.ntmps26
 go_wp2_with fail
 refine (hR.out _).mono ?_
 rintro e w1 ⟨rfl, hb1⟩
 have hB1 : Below w.heap.size w w1 := (bZ _ _).trans (hb1.mono (by simp))
 go_wp2_with fail
 go_ret2
 exact ⟨rfl, hB1⟩
end Go.Proofs.YtkdhdibjbabgfaaGreatDoor
end
section
namespace Go.Proofs.YtkdhdibjbabgfaaGreatDoor
open Go.RowKit
theorem SL.take {w : World} {g o n c m : Nat} {l : List Nat} (h : SL w (.slice (some ⟨g, o, none⟩) n c) l) (hm : m ≤ l.length) : SL w (.slice (some ⟨g, o, none⟩) m c) (l.take m) := by
 rcases h with ⟨rfl, sp, cp, hv⟩ | ⟨g', o', c', hv, hg, hcap, hc⟩
 ·simp only [Value.slice.injEq] at hv
  obtain ⟨_, rfl, _⟩ := hv
  have : m = 0 := by simpa using hm
  subst this
  exact .inl ⟨rfl, _, _, rfl⟩
 ·simp only [Value.slice.injEq, Option.some.injEq, Addr.mk.injEq, and_true] at hv
  obtain ⟨⟨rfl, rfl⟩, rfl, rfl⟩ := hv
  refine .inr ⟨g, o, c, by rw [List.length_take, Nat.min_eq_left hm], hg, by rw [List.length_take]; omega, fun i hi => ?_⟩
  rw [List.length_take] at hi
  rw [hc i (by omega), List.getD_eq_getElem?_getD, List.getD_eq_getElem?_getD, List.getElem?_take, if_pos (by omega)]
theorem WL.take {l : List Nat} (h : WL l) (m : Nat) : WL (l.take m) := fun x hx => h x (List.mem_of_mem_take hx)
theorem C2.block {W w1 : World} {b : Nat} {x y : Value} (h : C2 W b x y) (hb : w1.heap[b]? = W.heap[b]?) : C2 w1 b x y :=
 ⟨by rw [World.cell?_of_block (w := W) (a := ⟨b, 0, none⟩) hb]; exact h.1, by rw [World.cell?_of_block (w := W) (a := ⟨b, 1, none⟩) hb]; exact h.2⟩
end Go.Proofs.YtkdhdibjbabgfaaGreatDoor
end
section
namespace Go.Proofs.YtkdhdibjbabgfaaGreatDoor
open Go.RowKit
def IL (w : World) (v : Value) (l : List Int) : Prop :=
 ∃ A cap, v = .slice A l.length cap ∧ (0 < l.length → ∃ g off, A = some ⟨g, off, none⟩ ∧ g < w.heap.size ∧ l.length ≤ cap ∧ ∀ i, i < l.length → w.cell? ⟨g, off + i, none⟩ = some (.int .i64 (l.getD i 0)))
theorem IL.keep {w w1 : World} {v : Value} {l : List Int} (h : IL w v l) (hb : Below w.heap.size w w1) : IL w1 v l := by
 obtain ⟨A, cap, hv, h⟩ := h
 refine ⟨A, cap, hv, fun hl => ?_⟩
 obtain ⟨g, off, hA, hg, hc, hi⟩ := h hl
 exact ⟨g, off, hA, Nat.lt_of_lt_of_le hg hb.size, hc, fun i h => by rw [(bcell hb).1 _ _ hg]; exact hi i h⟩
theorem IL.form {w : World} {v : Value} {l : List Int} {n : Nat} (h : IL w v l) (hn : l.length = n) : ∃ A cap, v = .slice A n cap ∧
 ∀ w1 i, Below w.heap.size w w1 → i < n → ∃ g off, A = some ⟨g, off, none⟩ ∧ n ≤ cap ∧ g < w1.heap.size ∧ w1.cell? ⟨g, off + i, none⟩ = some (.int .i64 (l.getD i 0)) := by
 obtain ⟨A, cap, hv, h⟩ := h
 refine ⟨A, cap, by rw [hv, hn], fun w1 i hb hi => ?_⟩
 obtain ⟨g, off, hA, hg, hc, hcell⟩ := h (by omega)
 refine ⟨g, off, hA, by omega, Nat.lt_of_lt_of_le hg hb.size, ?_⟩
 rw [(bcell hb).1 _ _ hg]; exact hcell i (by omega)
theorem OwnI.il {w : World} {base : Nat} {v : Value} {l : List Int} (h : OwnI w base v l) : IL w v l := by
 have h' := h
 rcases h.2 with ⟨hv, hn⟩ | ⟨g, cap, cur, hv, hb, hg, h1, h2, h3, h4⟩
 ·have : l = [] := by simpa using hn
  subst this
  exact ⟨none, 0, hv, fun h => by simp at h⟩
 ·subst hv
  refine ⟨some ⟨g, 0, none⟩, cap, rfl, fun _ => ⟨g, 0, rfl, (Array.getElem?_eq_some_iff.1 hg).1, h1, fun i hi => ?_⟩⟩
  rw [Nat.zero_add]
  rw [World.ownsRow.cellAt h' i (by omega)]
  simp [List.getD_eq_getElem?_getD, List.getElem?_eq_getElem hi]
theorem places_nn {l : List Sp} (h : PBs l) : ∀ y ∈ placesL l, 0 ≤ y ∧ y ≤ 2199023255552 := fun y hy => by
 obtain ⟨x, hx, hy⟩ := List.mem_flatMap.1 hy
 obtain ⟨i, hi, rfl⟩ := List.mem_map.1 hy
 obtain ⟨h1, h2, h3, h4⟩ := h x hx
 have := List.mem_range.1 hi
 omega
theorem refGather_any (v u : Value) (I : List Nat) (l : List Sp) (w : World) (hl : PBs l) (hlen : l.length ≤ 1000) (hI : I.length ≤ 1000000) (hv : KL .u64 w v I) (hu : PL w u l) :
 Calls Tryz.prog 73 #[v, u] w fun e w' => ∃ v', e = .returned v' ∧ OwnU w' w.heap.size v' (gathL I l) ∧ Below w.heap.size w w' := by
 obtain ⟨NI, hNI⟩ : ∃ n, I.length = n := ⟨_, rfl⟩
 obtain ⟨AI, capI, rfl, hCI⟩ := hv.form hNI
 have hPl := lh (refPlaces_any u l w hl hlen hu)
 have hlt := placesL_tk l hl l.length (Nat.le_refl _)
 rw [List.take_of_length_le (Nat.le_refl _)] at hlt
 have hnn := places_nn hl
 have hG : gathL I l = (placesL l).map (imgAt I) := rfl
 generalize placesL l = P at *
 rw [hG]
 obtain ⟨n, hn⟩ : ∃ n, P.length = n := ⟨_, rfl⟩
 have hn9 : n ≤ 1000000 := by omega
 have hI9 : NI ≤ 1000000 := by omega
 have hT := lh (fun k (hk : k < n) => show (P.take (k + 1)).map (imgAt I) = (P.take k).map (imgAt I) ++ [imgAt I (P.getD k 0)] ∧ 0 ≤ P.getD k 0 ∧ P.getD k 0 ≤ 2199023255552 from by
  have hm : P.getD k 0 ∈ P := by rw [List.getD_eq_getElem?_getD, List.getElem?_eq_getElem (by omega)]; exact List.getElem_mem _
  refine ⟨?_, hnn _ hm⟩
  rw [List.take_succ_eq_append_getElem (by omega), List.map_append, List.getD_eq_getElem?_getD, List.getElem?_eq_getElem (by omega)]
  rfl)
 have hE := lh (show (P.take n).map (imgAt I) = P.map (imgAt I) from by rw [List.take_of_length_le (by omega)])
 have hIn := lh (fun i => imgAt_nat I i)
 have hIf := lh (fun y (h : (NI : Int) ≤ y) => imgAt_far I y (by rw [hNI]; exact h))
 replace hCI := lh hCI
 replace hn := lh hn
 replace hNI := lh hNI
 clear hv hu hl hlen hI hlt hnn hG
 go_enter Tryz.func73, Tryz.ntmps73
 go_wp2_with fail
 refine hPl.out.mono ?_
 rintro e w1 ⟨vp, rfl, hop, hb1⟩
 have hil := hop.il
 obtain ⟨A, cap, rfl, hC⟩ := hil.form hn.out
 replace hC := lh hC
 clear hop hil hPl
 go_wp2_with fail
 go_loopw [5, 7, 8] (fun o x z wr => ∃ (k : Nat) (L : List Nat), k ≤ n ∧ x = .int .i64 k ∧ Hid (L = (P.take k).map (imgAt I)) ∧ L.length = k ∧ OwnU wr w1.heap.size o L ∧ Below w1.heap.size w1 wr) (fun _ x _ _ => n + 1 - (intOf x).toNat)
 case atStart => exact ⟨0, [], Nat.zero_le _, rfl, rfl, rfl, World.ownsRow_nil _ _ _ _, Below.refl _ _⟩
 case round =>
  obtain ⟨k, L, hk, rfl, hLe, hLl, hown, hB1r⟩ := hrel
  by_cases hlt : k < n
  ·obtain ⟨g, off, rfl, hcap, hg, c0⟩ := hC.out wr k hB1r hlt
   have hlt' : (k : Int) < (n : Int) := by omega
   obtain ⟨t1, t2, t3⟩ := hT.out k hlt
   rw [← hLe.out] at t1
   have hB := hb1.trans (hB1r.mono hb1.size)
   generalize P.getD k 0 = y at *
   obtain ⟨i, rfl⟩ := Int.eq_ofNat_of_zero_le t2
   by_cases k2 : i < NI
   ·obtain ⟨gi, oi, rfl, hcapi, hgi, d0⟩ := hCI.out wr i hB k2
    rw [hIn.out i] at t1
    generalize I.getD i 0 = z at *
    have hLn := lh t1.symm
    have k2' : (i : Int) < (NI : Int) := by omega
    clear t1
    obtain ⟨v', w2, hrun, hown', hgr, _⟩ := appU (w := wr.alloc (.cells #[.int .u64 (z : Nat)] (25 : Nat))) (y := z) (base := w1.heap.size) (hown.alloc _) (cell_new1 wr _ _) (by have := hB1r.size; simp; omega) (by omega)
    have hb2 : Below w1.heap.size w1 w2 := (hB1r.alloc hB1r.size _).grown hgr (by have := hB1r.size; simp; omega) (fun j hj => (World.ownsRow.lt hown j hj).1)
    have hown2 : OwnU w2 w1.heap.size v' (L ++ [z]) := by unfold OwnU; rw [List.length_append, List.map_append]; exact hown'
    clear hgr hown hown'
    go_wp2_with (at_builtin; refine wpList_append_run rfl _ _ 23 rfl _ _ _ rfl rfl hrun ?_)
    go_roundw
    case rel => exact ⟨k + 1, _, by omega, by go_num, hLn, by rw [List.length_append, hLl]; rfl, hown2, hb2⟩
    case measure => simp [intOf]; omega
   ·have k3 : (NI : Int) ≤ (i : Int) := by omega
    rw [hIf.out _ k3] at t1
    have hLn := lh t1.symm
    clear t1
    obtain ⟨v', w2, hrun, hown', hgr, _⟩ := appU (w := wr.alloc (.cells #[.int .u64 (0 : Nat)] (25 : Nat))) (y := 0) (base := w1.heap.size) (hown.alloc _) (cell_new1 wr _ _) (by have := hB1r.size; simp; omega) (by omega)
    have hb2 : Below w1.heap.size w1 w2 := (hB1r.alloc hB1r.size _).grown hgr (by have := hB1r.size; simp; omega) (fun j hj => (World.ownsRow.lt hown j hj).1)
    have hown2 : OwnU w2 w1.heap.size v' (L ++ [0]) := by unfold OwnU; rw [List.length_append, List.map_append]; exact hown'
    clear hgr hown hown'
    go_wp2_with (at_builtin; refine wpList_append_run rfl _ _ 23 rfl _ _ _ rfl rfl hrun ?_)
    go_roundw
    case rel => exact ⟨k + 1, _, by omega, by go_num, hLn, by rw [List.length_append, hLl]; rfl, hown2, hb2⟩
    case measure => simp [intOf]; omega
  ·obtain rfl : k = n := by omega
   have hR := lh (show L = P.map (imgAt I) from by rw [hLe.out, hE.out])
   go_wp2_with fail
   go_ret
   exact ⟨_, rfl, by rw [← hR.out]; exact hown.mono hb1.size, hb1.trans (hB1r.mono hb1.size)⟩
end Go.Proofs.YtkdhdibjbabgfaaGreatDoor
end
section
namespace Go.Proofs.YtkdhdibjbabgfaaGreatDoor
open Go.RowKit
def scatN (I : List Nat) (P : List Int) (ws : List Nat) : Nat → List Nat
 | 0 => I
 | k + 1 => if 0 ≤ P.getD k 0 ∧ P.getD k 0 < (I.length : Int) then (scatN I P ws k).set (P.getD k 0).toNat (ws.getD k 0) else scatN I P ws k
def Ex1 (w : World) (g i : Nat) : Prop := ∃ x, w.cell? ⟨g, i, none⟩ = some x
theorem farR {w : World} {base e size n g o : Nat} {v : Value} {xs : List Value} (h : w.ownsRow base e size v n xs) (hg : g < base) (u : Value) : (w.setCell ⟨g, o, none⟩ u).ownsRow base e size v n xs := by
 refine ⟨h.1, ?_⟩
 rcases h.2 with h2 | ⟨g', cap, cur, hv, hbg, hgc, h1, h2, h3, h4⟩
 ·exact .inl h2
 ·exact .inr ⟨g', cap, cur, hv, hbg, by rw [Below.heap_setCell w ⟨g, o, none⟩ u g' (by simp only []; omega)]; exact hgc, h1, h2, h3, h4⟩
theorem OwnI.drew {w : World} {base : Nat} {v : Value} {l : List Int} (h : OwnI w base v l) : OwnI w.drew base v l := h
theorem refScatter_any (v u t : Value) (I ws : List Nat) (l : List Sp) (w : World) (hl : PBs l) (hlen : l.length ≤ 1000) (hI : I.length ≤ 100000) (hws : ws.length ≤ 100000) (hv : KL .u64 w v I) (hu : PL w u l) (ht : KL .u64 w t ws) :
 Calls Tryz.prog 31 #[v, u, t] w fun e w' => ∃ v', e = .returned v' ∧ OwnU w' w.heap.size v' (scatN I (placesL l) ws (min (placesL l).length ws.length)) ∧ Below w.heap.size w w' := by
 obtain ⟨vo, wa, hrun, ho, hba⟩ := newW hv hI
 have hPl := lh (refPlaces_any u l wa hl hlen (hu.keep hba))
 have hlt := placesL_tk l hl l.length (Nat.le_refl _)
 rw [List.take_of_length_le (Nat.le_refl _)] at hlt
 have hnn := places_nn hl
 generalize placesL l = P at *
 obtain ⟨NI, hNI⟩ : ∃ n, I.length = n := ⟨_, rfl⟩
 obtain ⟨NW, hNW⟩ : ∃ n, ws.length = n := ⟨_, rfl⟩
 obtain ⟨n, hn⟩ : ∃ n, P.length = n := ⟨_, rfl⟩
 rw [hn, hNW]
 obtain ⟨AW, capW, rfl, hCW⟩ := ht.form hNW
 have hn9 : n ≤ 1000000 := by omega
 have hf : ∃ Ao co, vo = .slice Ao NI co ∧ (0 < NI → ∃ g, Ao = some ⟨g, 0, none⟩) := by
  rcases ho.2 with ⟨h, h0⟩ | ⟨g, cap, cur, h, _⟩
  ·exact ⟨none, 0, by rw [h, ← hNI, h0], fun q => by omega⟩
  ·exact ⟨_, _, by rw [h, hNI], fun _ => ⟨g, rfl⟩⟩
 obtain ⟨Ao, co, rfl, hAo⟩ := hf
 replace hAo := lh hAo
 have hT := lh (fun k (hk : k < n) => show 0 ≤ P.getD k 0 ∧ P.getD k 0 ≤ 2199023255552 from hnn _ (by rw [List.getD_eq_getElem?_getD, List.getElem?_eq_getElem (by omega)]; exact List.getElem_mem _))
 have hS1 := lh (fun k (h0 : 0 ≤ P.getD k 0) (h : P.getD k 0 < (NI : Int)) => show (scatN I P ws k).set (P.getD k 0).toNat (ws.getD k 0) = scatN I P ws (k + 1) from by rw [scatN, if_pos ⟨h0, by rw [hNI]; exact h⟩])
 have hS0 := lh (fun k (h : (NI : Int) ≤ P.getD k 0) => show scatN I P ws k = scatN I P ws (k + 1) from by rw [scatN, if_neg (by rw [hNI]; omega)])
 replace hCW := lh hCW
 have ho' : wa.ownsRow w.heap.size 25 1 (.slice Ao NI co) NI (I.map fun x : Nat => Value.int .u64 x) := by have h := ho; unfold OwnU at h; rwa [hNI] at h
 have hI0 := lh (show I = scatN I P ws 0 from rfl)
 have hNW9 : NW ≤ 100000 := by omega
 have hNI9 : NI ≤ 100000 := by omega
 replace hn := lh hn
 have hNI' := lh hNI
 clear ho hv hu ht hl hlen hI hlt hnn hws hNI hNW
 go_enter Tryz.func31, Tryz.ntmps31
 go_wp2_with (at_builtin; refine wpList_append_run rfl _ _ 23 rfl _ _ _ rfl rfl hrun ?_)
 refine hPl.out.mono ?_
 rintro e w1 ⟨vp, rfl, hop, hb1⟩
 have hfp : ∃ Ap cp, vp = .slice Ap n cp ∧ (0 < n → ∃ g, Ap = some ⟨g, 0, none⟩) := by
  have hn' := hn.out
  rcases hop.2 with ⟨h, h0⟩ | ⟨g, cap, cur, h, _⟩
  ·exact ⟨none, 0, by rw [h, ← hn', h0], fun q => by omega⟩
  ·exact ⟨_, _, by rw [h, hn'], fun _ => ⟨g, rfl⟩⟩
 obtain ⟨Ap, cp, rfl, hAp⟩ := hfp
 have hP1 : w1.ownsRow wa.heap.size 3 1 (.slice Ap n cp) n (P.map fun x : Int => Value.int .i64 x) := by have h := hop; unfold OwnI at h; rwa [hn.out] at h
 have hO1 : w1.ownsRow w.heap.size 25 1 (.slice Ao NI co) NI (I.map fun x : Nat => Value.int .u64 x) := by
  have h : OwnU wa w.heap.size (.slice Ao NI co) I := by unfold OwnU; rw [hNI'.out]; exact ho'
  have h2 := h.keep hb1
  unfold OwnU at h2
  rwa [hNI'.out] at h2
 have hAl := lh (fun g (h : (Value.slice Ao NI co).ownBlock = some g) => (ho'.lt g h))
 have hPl2 := lh (fun g (h : (Value.slice Ap n cp).ownBlock = some g) => (hP1.lt g h).1)
 have hsz := hb1.size
 have hB1 := hba.trans (hb1.mono hba.size)
 replace hAp := lh hAp
 clear hop ho' hPl hb1 hba hrun
 go_wp2_with fail
 go_loopw [9] (fun x wr => ∃ (k : Nat) (O : List Nat), k ≤ n ∧ k ≤ NW ∧ x = .int .i64 k ∧ Hid (O = scatN I P ws k) ∧ O.length = NI ∧ wr.ownsRow w.heap.size 25 1 (.slice Ao NI co) NI (O.map fun x : Nat => Value.int .u64 x) ∧ wr.ownsRow wa.heap.size 3 1 (.slice Ap n cp) n (P.map fun x : Int => Value.int .i64 x) ∧ Below w.heap.size w wr ∧ wa.heap.size ≤ wr.heap.size) (fun x _ => n + 1 - (intOf x).toNat)
 case atStart => exact ⟨0, I, Nat.zero_le _, Nat.zero_le _, rfl, hI0.out, hNI'.out, hO1, hP1, hB1, hsz⟩
 case round =>
  clear hO1 hP1 hB1 hsz
  obtain ⟨k, O, hk, hkw, rfl, hLe, hLl, hO, hP, hB, hsz⟩ := hrel
  by_cases hlt : k < n
  ·by_cases hlw : k < NW
   ·have hlt' : (k : Int) < (n : Int) := by omega
    have hlw' : (k : Int) < (NW : Int) := by omega
    obtain ⟨gp, rfl⟩ := hAp.out (by omega)
    have c0 : wr.cell? ⟨gp, k, none⟩ = some (.int .i64 (P.getD k 0)) := by
     have hn' := hn.out
     rw [hP.cellAt k (by omega), List.getElem?_map, List.getD_eq_getElem?_getD, List.getElem?_eq_getElem (by omega)]
     rfl
    obtain ⟨gw, ow, rfl, hcapw, hgw, _⟩ := hCW.out w k (Below.refl _ _) hlw
    obtain ⟨g2, o2, he, _, hgw2, d0⟩ := hCW.out wr k hB hlw
    cases he
    obtain ⟨t2, t3⟩ := hT.out k hlt
    have hS1k := hS1.out k
    have hS0k := hS0.out k
    rw [← hLe.out] at hS1k hS0k
    have hgp := hPl2.out gp rfl
    generalize P.getD k 0 = y at *
    obtain ⟨i, rfl⟩ := Int.eq_ofNat_of_zero_le t2
    generalize ws.getD k 0 = z at *
    by_cases k2 : i < NI
    ·have k2' : (i : Int) < (NI : Int) := by omega
     obtain ⟨go, rfl⟩ := hAo.out (by omega)
     obtain ⟨hg1, hg2⟩ := hAl.out go rfl
     have hLn := lh (hS1k t2 k2')
     simp only [Int.toNat_natCast] at hLn
     clear hS1k hS0k
     have f0 := hO.frozenAt i
     have e0 : Ex1 wr go i := ⟨_, by rw [hO.cellAt i (by omega)]; exact List.getElem?_eq_getElem (by simp; omega)⟩
     have hO' : (wr.setCell ⟨go, i, none⟩ (.int .u64 (z : Nat))).drew.ownsRow w.heap.size 25 1 (.slice (some ⟨go, 0, none⟩) NI co) NI ((O.map fun x : Nat => Value.int .u64 x).set i (.int .u64 (z : Nat))) := (World.ownsRow.stored (w := wr) hO i (.int .u64 (z : Nat))).1
     have s1 : (wr.setCell ⟨go, i, none⟩ (.int .u64 (z : Nat))).drew.cell? ⟨gp, k, none⟩ = some (.int .i64 (i : Int)) := (World.cell?_of_block (Below.heap_setCell wr ⟨go, i, none⟩ (.int .u64 (z : Nat)) gp (by simp only []; omega))).trans c0
     have s2 : (wr.setCell ⟨go, i, none⟩ (.int .u64 (z : Nat))).drew.cell? ⟨gw, ow + k, none⟩ = some (.int .u64 (z : Nat)) := (World.cell?_of_block (Below.heap_setCell wr ⟨go, i, none⟩ (.int .u64 (z : Nat)) gw (by simp only []; omega))).trans d0
     have s3 := hO'.frozenAt i
     have s4 : Ex1 (wr.setCell ⟨go, i, none⟩ (.int .u64 (z : Nat))).drew go i := ⟨_, by rw [hO'.cellAt i (by omega)]; exact List.getElem?_eq_getElem (by simp; omega)⟩
     have hO2 : (wr.setCell ⟨go, i, none⟩ (.int .u64 (z : Nat))).drew.ownsRow w.heap.size 25 1 (.slice (some ⟨go, 0, none⟩) NI co) NI ((O.set i z).map fun x : Nat => Value.int .u64 x) := by rw [List.map_set]; exact hO'
     have hP2 := farR (w := wr) (o := i) hP hg2 (.int .u64 (z : Nat))
     have hB2 := ((hB).setCell (p := ⟨go, i, none⟩) hg1 (.int .u64 (z : Nat))).drew
     have hs2 : wa.heap.size ≤ (wr.setCell ⟨go, i, none⟩ (.int .u64 (z : Nat))).drew.heap.size := by simpa using hsz
     clear hO' hO hP hB hsz
     go_wp2_with fail
     refine wp_region_held_drew (S := (fun w' => w'.cell? ⟨gp, k, none⟩ = some (.int .i64 (i : Int)) ∧ w'.cell? ⟨gw, ow + k, none⟩ = some (.int .u64 (z : Nat)) ∧ w'.frozen? ⟨go, i, none⟩ = false ∧ Ex1 w' go i)) (by kernel_rfl) ?_ (fun hHeld => ?_)
     ·(try dsimp only)
      ((try go_split_ands); refine ⟨?_, ?_, ?_, ?_⟩ <;> first | assumption | exact c0 | exact d0 | exact f0 | exact e0 | exact s1 | exact s2 | exact s3 | exact s4)
     refine takeV 0 ?_
     refine takeV 1 ?_
     refine takeV 2 ?_
     refine takeV 3 ?_
     refine takeV 4 ?_
     refine takeV 5 ?_
     refine takeV 6 ?_
     refine takeV 7 ?_
     refine takeV 8 ?_
     refine takeV 9 ?_
     refine oneL 10 rfl (by kernel_rfl) (fun K hK => ?_)
     go_simp
     (go_split_ands; obtain ⟨x0, hx0⟩ := id e0; go_simp; (try simp only [Result.andThen_ok]); (try go_simp))
     refine hK.out _ _ ?_ (fun hHeld2 => ?_)
     ·(try dsimp only)
      ((try go_split_ands); refine ⟨?_, ?_, ?_, ?_⟩ <;> first | assumption | exact c0 | exact d0 | exact f0 | exact e0 | exact s1 | exact s2 | exact s3 | exact s4)
     clear hK K
     try simp only [Act.put,sA,sB,sC]
     refine wpAnyH_done (by kernel_rfl) ?_ _
     go_wp2_with fail
     go_roundw
     case rel => exact ⟨k + 1, _, by omega, by omega, by go_num, hLn, by rw [List.length_set]; exact hLl, hO2, hP2, hB2, hs2⟩
     case measure => simp [intOf]; omega
    ·have k3 : (NI : Int) ≤ (i : Int) := by omega
     have hLn := lh (hS0k k3)
     clear hS1k hS0k
     go_wp2_with fail
     go_roundw
     case rel => exact ⟨k + 1, _, by omega, by omega, by go_num, hLn, hLl, hO, hP, hB, hsz⟩
     case measure => simp [intOf]; omega
   ·have hlt' : (k : Int) < (n : Int) := by omega
    have hlw' : (NW : Int) ≤ (k : Int) := by omega
    have hR := lh (show O = scatN I P ws (min n NW) from by rw [hLe.out, show min n NW = k by omega])
    go_wp2_with fail
    go_ret
    exact ⟨_, rfl, by rw [← hR.out]; unfold OwnU; rw [hLl]; exact hO, hB⟩
  ·have hlt' : (n : Int) ≤ (k : Int) := by omega
   have hR := lh (show O = scatN I P ws (min n NW) from by rw [hLe.out, show min n NW = k by omega])
   go_wp2_with fail
   go_ret
   exact ⟨_, rfl, by rw [← hR.out]; unfold OwnU; rw [hLl]; exact hO, hB⟩
end Go.Proofs.YtkdhdibjbabgfaaGreatDoor
end
