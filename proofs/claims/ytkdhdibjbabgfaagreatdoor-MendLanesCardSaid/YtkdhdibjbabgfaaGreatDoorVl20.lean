/-
  Part of the proof of MendLanes.
-/
import Derived.Test.YtkdhdibjbabgfaaGreatDoorVl19
import Derived.Test.YtkdhdibjbabgfaaGreatDoorVl2
import Derived.Test.YtkdhdibjbabgfaaGreatDoorVl26
import Derived.Test.YtkdhdibjbabgfaaGreatDoorVl29
import Derived.Test.YtkdhdibjbabgfaaGreatDoorVl4
import Derived.Test.YtkdhdibjbabgfaaGreatDoorVl6
import Derived.Test.YtkdhdibjbabgfaaGreatDoorVl7
import Derived.Test.YtkdhdibjbabgfaaGreatDoorVl9
import Derived.Carry
import Derived.ChangeSlices
import Derived.Deep.SlicePairs
import Derived.OwnWalk
import Derived.Test.YtkdhdibjbabgfaaGreatDoorVl0
set_option maxRecDepth 10000
set_option maxHeartbeats 2000000
set_option linter.unusedVariables false
set_option linter.unusedSimpArgs false
section
namespace Go.Proofs.YtkdhdibjbabgfaaGreatDoor
open Go.RowKit
theorem SL.cell {w : World} {g o n c : Nat} {l : List Nat} (h : SL w (.slice (some ⟨g, o, none⟩) n c) l) (i : Nat) (hi : i < l.length) : w.cell? ⟨g, o + i, none⟩ = some (.int .u64 (l.getD i 0 : Nat)) := by
 rcases h with ⟨rfl, _⟩ | ⟨g', o', c', hv, hg, hcap, hc⟩
 ·simp at hi
 ·simp only [Value.slice.injEq, Option.some.injEq, Addr.mk.injEq, and_true] at hv
  obtain ⟨⟨rfl, rfl⟩, _, _⟩ := hv
  exact hc i hi
theorem SL.lt {w : World} {g o n c : Nat} {l : List Nat} (h : SL w (.slice (some ⟨g, o, none⟩) n c) l) (hi : 0 < l.length) : g < w.heap.size := by
 rcases h with ⟨rfl, _⟩ | ⟨g', o', c', hv, hg, hcap, hc⟩
 ·simp at hi
 ·simp only [Value.slice.injEq, Option.some.injEq, Addr.mk.injEq, and_true] at hv
  obtain ⟨⟨rfl, rfl⟩, _, _⟩ := hv
  exact hg
theorem headW_len (W L G : Nat) : (headW W L G).length = 8 := by simp [headW, headL]
end Go.Proofs.YtkdhdibjbabgfaaGreatDoor
end
section
namespace Go.Proofs.YtkdhdibjbabgfaaGreatDoor
open Go.RowKit
def nameW (k : Nat) : Nat := [0, 84, 21587, 5526337, 1414742342, 362174039627, 92716554144579, 23735437861012303, 6076272092419149644].getD k 0
theorem renc_t (W L G : Nat) (w : World) (h : gOk W L = true) (hG : gN W L = (G : Int)) :
 Calls Tryz.prog 26 #[.agg #[.int .i64 W, .int .i64 L]] w fun e w' => ∃ v, e = .returned (.tuple #[v, .int .i64 0]) ∧ SL w' v (headW W L G) ∧ Below w.heap.size w w' := by
 obtain ⟨h1, h2, h3, h4⟩ := gOk_t h
 obtain ⟨n1, n2, n3, n4⟩ := gN_bd h
 rw [hG] at n1 n2 n3 n4
 have hR := lh (fun w => refRight_t W L w h)
 have hCh := lh (fun w => show Calls Tryz.prog 57 #[.agg #[.int .i64 W, .int .i64 L]] w fun e w' => e = .returned (.int .i64 G) ∧ Below w.heap.size w w' from by
  have := refChunks_t W L w h
  rwa [hG] at this)
 have hWL : WL (headL W L G) := head_WL (by omega) (by omega) (by omega)
 replace hG := lh hG
 replace h := lh h
 have f1 : IntKind.u64.wrap (W : Int) = (W : Int) := by rw [IntKind.wrap_u64]; omega
 have f2 : IntKind.u64.wrap (L : Int) = (L : Int) := by rw [IntKind.wrap_u64]; omega
 have f3 : IntKind.u64.wrap (G : Int) = (G : Int) := by rw [IntKind.wrap_u64]; omega
 have hC0 := C2.new w (.int .i64 W) (.int .i64 L) 33
 go_enter Tryz.func26, Tryz.ntmps26
 go_wp2_with fail
 refine (hR.out _).mono ?_
 rintro e w1 ⟨rfl, hb1⟩
 have hB1 : Below w.heap.size w w1 := (bZ _ _).trans (hb1.mono (by simp))
 have hC1 := hC0.keep hb1
 clear hC0 hb1
 go_wp2_with fail
 go_loopw [5, 7] (fun a i wr => ∃ k x : Nat, k ≤ 8 ∧ i = .int .i64 k ∧ a = .int .u64 x ∧ x = nameW k ∧ C2 wr w.heap.size (.int .i64 W) (.int .i64 L) ∧ Below w.heap.size w wr) (fun _ i _ => 9 - (intOf i).toNat)
 case atStart => exact ⟨0, 0, by omega, rfl, rfl, rfl, hC1, hB1⟩
 case round =>
  obtain ⟨k, x, hk, rfl, rfl, hx, hC, hB⟩ := hrel
  have hk9 : k = 0 ∨ k = 1 ∨ k = 2 ∨ k = 3 ∨ k = 4 ∨ k = 5 ∨ k = 6 ∨ k = 7 ∨ k = 8 := by omega
  clear hC1 hB1
  rcases hk9 with rfl | rfl | rfl | rfl | rfl | rfl | rfl | rfl | rfl
  ·replace hx : x = 0 := hx
   subst hx
   go_wp2_with fail
   go_roundw
   case rel => exact ⟨1, 84, by omega, by go_num, by go_num, rfl, hC, hB⟩
   case measure => simp [intOf]
  ·replace hx : x = 84 := hx
   subst hx
   go_wp2_with fail
   go_roundw
   case rel => exact ⟨2, 21587, by omega, by go_num, by go_num, rfl, hC, hB⟩
   case measure => simp [intOf]
  ·replace hx : x = 21587 := hx
   subst hx
   go_wp2_with fail
   go_roundw
   case rel => exact ⟨3, 5526337, by omega, by go_num, by go_num, rfl, hC, hB⟩
   case measure => simp [intOf]
  ·replace hx : x = 5526337 := hx
   subst hx
   go_wp2_with fail
   go_roundw
   case rel => exact ⟨4, 1414742342, by omega, by go_num, by go_num, rfl, hC, hB⟩
   case measure => simp [intOf]
  ·replace hx : x = 1414742342 := hx
   subst hx
   go_wp2_with fail
   go_roundw
   case rel => exact ⟨5, 362174039627, by omega, by go_num, by go_num, rfl, hC, hB⟩
   case measure => simp [intOf]
  ·replace hx : x = 362174039627 := hx
   subst hx
   go_wp2_with fail
   go_roundw
   case rel => exact ⟨6, 92716554144579, by omega, by go_num, by go_num, rfl, hC, hB⟩
   case measure => simp [intOf]
  ·replace hx : x = 92716554144579 := hx
   subst hx
   go_wp2_with fail
   go_roundw
   case rel => exact ⟨7, 23735437861012303, by omega, by go_num, by go_num, rfl, hC, hB⟩
   case measure => simp [intOf]
  ·replace hx : x = 23735437861012303 := hx
   subst hx
   go_wp2_with fail
   go_roundw
   case rel => exact ⟨8, 6076272092419149644, by omega, by go_num, by go_num, rfl, hC, hB⟩
   case measure => simp [intOf]
  ·replace hx : x = 6076272092419149644 := hx
   subst hx
   have hd1 := hB.drew
   obtain ⟨k0, k1⟩ := id hC
   go_wp2_with fail
   refine wp_region_held_drew (S := (fun w' => w'.cell? ⟨w.heap.size, 0, none⟩ = some (.int .i64 W) ∧ w'.cell? ⟨w.heap.size, 1, none⟩ = some (.int .i64 L) ∧ Below w.heap.size w w')) (by kernel_rfl) ?_ (fun hHeld => ?_)
   ·(try dsimp only)
    first | exact ⟨k0, k1, hd1⟩ | exact ⟨cellK hHeld.1 hb, cellK hHeld.2.1 hb, hHeld.2.2.trans (hb.mono hHeld.2.2.size)⟩ | exact ⟨cellK hHeld.1 hb9, cellK hHeld.2.1 hb9, hHeld.2.2.trans (hb9.mono hHeld.2.2.size)⟩
   refine takeQ 0 ?_
   refine takeQ 1 ?_
   refine takeQ 2 ?_
   refine takeQ 3 ?_
   refine takeQ 4 ?_
   refine takeQ 5 ?_
   refine takeQ 6 ?_
   refine takeQ 7 ?_
   refine oneL 8 rfl (by kernel_rfl) (fun K hK => ?_)
   go_simp
   (go_at_call 57; (with_reducible refine (hCh.out _).mono ?_); rintro e w8 ⟨rfl, hb⟩)
   refine hK.out _ _ ?_ (fun hHeld2 => ?_)
   ·(try dsimp only)
    first | exact ⟨k0, k1, hd1⟩ | exact ⟨cellK hHeld.1 hb, cellK hHeld.2.1 hb, hHeld.2.2.trans (hb.mono hHeld.2.2.size)⟩ | exact ⟨cellK hHeld.1 hb9, cellK hHeld.2.1 hb9, hHeld.2.2.trans (hb9.mono hHeld.2.2.size)⟩
   clear hK K hHeld
   have hHeld := hHeld2
   clear hHeld2
   try simp only [Act.put,sA,sB,sC]
   refine takeQ 9 ?_
   refine oneL 10 rfl (by kernel_rfl) (fun K hK => ?_)
   go_simp
   (have hR7 : Rw (w8.alloc (.cells #[.int .u64 6076272092419149644, .int .u64 1, .int .u64 W, .int .u64 L, .int .u64 G, .int .u64 0, .int .u64 0] 25)) w8.heap.size (headL W L G) := heap_alloc_new w8 _; have hs8 : w.heap.size ≤ w8.heap.size := hHeld.2.2.size; have hb9 := bZ w8 (.cells #[.int .u64 6076272092419149644, .int .u64 1, .int .u64 W, .int .u64 L, .int .u64 G, .int .u64 0, .int .u64 0] 25))
   refine hK.out _ _ ?_ (fun hHeld2 => ?_)
   ·(try dsimp only)
    first | exact ⟨k0, k1, hd1⟩ | exact ⟨cellK hHeld.1 hb, cellK hHeld.2.1 hb, hHeld.2.2.trans (hb.mono hHeld.2.2.size)⟩ | exact ⟨cellK hHeld.1 hb9, cellK hHeld.2.1 hb9, hHeld.2.2.trans (hb9.mono hHeld.2.2.size)⟩
   clear hK K hHeld
   have hHeld := hHeld2
   clear hHeld2
   try simp only [Act.put,sA,sB,sC]
   refine takeQ 11 ?_
   refine wpAnyH_done (by kernel_rfl) ?_ _
   have hB9 : Below w.heap.size w (w8.alloc (.cells #[.int .u64 6076272092419149644, .int .u64 1, .int .u64 W, .int .u64 L, .int .u64 G, .int .u64 0, .int .u64 0] 25)) := hHeld.2.2
   have hO := lh (refOf_any (.slice (some ⟨w8.heap.size, 0, none⟩) 7 7) (headL W L G) (w8.alloc (.cells #[.int .u64 6076272092419149644, .int .u64 1, .int .u64 W, .int .u64 L, .int .u64 G, .int .u64 0, .int .u64 0] 25)) hWL (by simp [headL]) hR7.sl)
   clear hHeld hC hB hd1 hR hCh
   go_wp2_with fail
   refine hO.out.mono ?_
   rintro e w10 ⟨rfl, hb10⟩
   have hR10 : Rw w10 w8.heap.size (headL W L G) := hR7.keep hb10 (by simp)
   have hR11 : Rw (w10.alloc (.cells #[.int .u64 (moreN 0 (headL W L G) : Nat)] 25)) w8.heap.size (headL W L G) := hR10.keep ((Below.refl _ _).alloc (Nat.le_refl w10.heap.size) (.cells #[.int .u64 (moreN 0 (headL W L G) : Nat)] 25)) hR10.lt
   obtain ⟨v11, w11, hrun, hS11, _, hb11⟩ := append_sum (m := moreN 0 (headL W L G)) (gb := w10.heap.size) (hR11.own (by simp [headL])) rfl (by simp [go_sem]) (Nat.le_of_lt hR11.lt) (by simp [headL]) (by simp [headL])
   have hB10 := hB9.trans (hb10.mono hB9.size)
   have hB11 : Below w.heap.size w w11 := (hB10.alloc (by have := hB10.size; omega) (.cells #[.int .u64 (moreN 0 (headL W L G) : Nat)] 25)).trans (hb11.mono hs8)
   have hm := moreN_lt 0 (headL W L G)
   have f5 : IntKind.u64.wrap (moreN 0 (headL W L G) : Nat) = ((moreN 0 (headL W L G) : Nat) : Int) := by rw [IntKind.wrap_u64]; omega
   have hrun' : (Builtin.append_ #[23, 23] 23 #[.slice (some ⟨w8.heap.size, 0, none⟩) 7 7, .slice (some ⟨w10.heap.size, 0, none⟩) 1 1]).run Tryz.prog (w10.alloc (.cells #[.int .u64 (moreN 0 (headL W L G) : Nat)] 25)) = .ok v11 w11 := hrun
   clear hrun hR11 hR10 hR7 hb10 hb11 hB10 hB9 hO
   generalize hmm : moreN 0 (headL W L G) = m at *
   replace hmm := lh hmm
   go_wp2_with (at_builtin; refine Lib.wpList_append_run _ rfl _ _ _ _ rfl _ _ rfl rfl _ _ hrun' ?_)
   go_ret2
   exact ⟨_, rfl, by rw [headW, hmm.out]; exact hS11, hB11⟩
theorem renc_f (W L : Int) (w : World) (h : gOk W L = false) :
 Calls Tryz.prog 26 #[.agg #[.int .i64 W, .int .i64 L]] w fun e w' => e = .returned (.tuple #[.slice none 0 0, .int .i64 1]) ∧ Below w.heap.size w w' := by
 have hR := lh (fun w => refRight_f W L w h)
 replace h := lh h
 go_enter Tryz.func26, Tryz.ntmps26
 go_wp2_with fail
 refine (hR.out _).mono ?_
 rintro e w1 ⟨rfl, hb1⟩
 have hB1 : Below w.heap.size w w1 := (bZ _ _).trans (hb1.mono (by simp))
 go_wp2_with fail
 go_ret2
 exact ⟨rfl, hB1⟩
end Go.Proofs.YtkdhdibjbabgfaaGreatDoor
end
section
namespace Go.Proofs.YtkdhdibjbabgfaaGreatDoor
open Go.RowKit
theorem infoInt : (Tryz.prog.info? 3).map (fun i => (i.zero, i.size, i.bytes)) = some (some (.int .i64 0), 1, 8) := by kernel_rfl
def OwnI (w : World) (base : Nat) (v : Value) (l : List Int) : Prop := w.ownsRow base 3 1 v l.length (l.map fun x : Int => Value.int .i64 x)
theorem OwnI.keep {w w1 : World} {base : Nat} {v : Value} {l : List Int} (h : OwnI w base v l) (hb : Below w.heap.size w w1) : OwnI w1 base v l := by
 refine ⟨h.1, ?_⟩
 rcases h.2 with h2 | ⟨g, cap, cur, hv, hbg, hg, h1, h2, h3, h4⟩
 ·exact .inl h2
 ·exact .inr ⟨g, cap, cur, hv, hbg, by rw [hb.block g (Array.getElem?_eq_some_iff.1 hg).1]; exact hg, h1, h2, h3, h4⟩
theorem appI {w : World} {base g : Nat} {y : Int} {v : Value} {l : List Int} (hown : OwnI w base v l) (hx : w.cell? ⟨g, 0, none⟩ = some (.int .i64 y)) (hb : base ≤ w.heap.size) (hsm : l.length ≤ 2000000) :
 ∃ v' w', (Builtin.append_ #[87, 87] 87 #[v, .slice (some ⟨g, 0, none⟩) 1 1]).run Tryz.prog w = .ok v' w' ∧ OwnI w' base v' (l ++ [y]) ∧ Below base w w' := by
 obtain ⟨i0, hi, hz0, hz1, hz2⟩ := info_parts infoInt
 obtain ⟨v', w', hrun, h1, h2, _, h4⟩ := run_append_own_at (P := Tryz.prog) w base 87 87 3 i0 (.int .i64 0) 1 8 Tryz.underlying87 hi hz0 hz1 hz2 rfl (by decide) v l.length _ hown ⟨g, 0, none⟩ 1 1 [.int .i64 y] rfl
  (fun j u hj => by
    match j, hj with
    | 0, hj => simp only [List.getElem?_cons_zero] at hj; rw [← hj]; simpa [Addr.add] using hx
    | j + 1, hj => simp at hj) (by simp [Value.oneCell']) (by unfold maxLen; omega) (by omega) hb
 refine ⟨v', w', hrun, ?_, (Below.refl base w).grown h2 hb (fun j hj => (World.ownsRow.lt hown j hj).1)⟩
 unfold OwnI
 rw [List.length_append, List.map_append]
 exact h1
theorem placesL_tk (l : List Sp) (h : PBs l) (k : Nat) (hk : k ≤ l.length) : (placesL (l.take k)).length ≤ 1000 * k := by
 have hp : PBs (l.take k) := fun x hx => h x (List.mem_of_mem_take hx)
 have h1 := placesL_len (l.take k) hp
 have h2 := totS_le (l.take k) hp
 rw [List.length_take, Nat.min_eq_left hk] at h2
 omega
theorem refPlaces_any (v : Value) (l : List Sp) (w : World) (hl : PBs l) (hlen : l.length ≤ 1000) (hv : PL w v l) :
 Calls Tryz.prog 61 #[v] w fun e w' => ∃ v', e = .returned v' ∧ OwnI w' w.heap.size v' (placesL l) ∧ Below w.heap.size w w' := by
 obtain ⟨n, hn⟩ : ∃ n, l.length = n := ⟨_, rfl⟩
 obtain ⟨A, cap, rfl, hC⟩ := hv.form hn
 have hI := lh (fun i (hi : i < n) => hl.at i (by omega))
 have hT := lh (fun i (hi : i < n) => places_take l i (by omega))
 have hL := lh (fun i (hi : i ≤ n) => placesL_tk l hl i (by omega))
 have hE := lh (show placesL (l.take n) = placesL l from by rw [List.take_of_length_le (by omega)])
 replace hC := lh hC
 have hln : n ≤ 1000 := by omega
 clear hv hlen hl
 replace hn := lh hn
 go_enter Tryz.func61, Tryz.ntmps61
 go_wp2_with fail
 go_loopw [3, 4, 5] (fun o x z wr => ∃ (k : Nat) (L : List Int), k ≤ n ∧ x = .int .i64 k ∧ Hid (L = placesL (l.take k)) ∧ L.length ≤ 1000 * k ∧ OwnI wr w.heap.size o L ∧ Below w.heap.size w wr) (fun _ x _ _ => n + 1 - (intOf x).toNat)
 case atStart => exact ⟨0, [], Nat.zero_le _, rfl, rfl, by simp, World.ownsRow_nil _ _ _ _, Below.refl _ _⟩
 case round =>
  obtain ⟨k, L, hk, rfl, hLe, hLl, hown, hB⟩ := hrel
  by_cases hlt : k < n
  ·have hlt' : (k : Int) < (n : Int) := by omega
   have hxi := hI.out k hlt
   have hT1 := lh (hT.out k hlt)
   have hL1 := hL.out (k + 1) (by omega)
   rw [← hLe.out] at hT1
   have hCk := lh (fun w1 (hb : Below w.heap.size w w1) => hC.out w1 k hb hlt)
   generalize l.getD k (0, 0) = x at *
   obtain ⟨b1, b2, b3, b4⟩ := id hxi
   obtain ⟨m, hm⟩ : ∃ m, m = x.2.toNat := ⟨_, rfl⟩
   have hmx : (m : Int) = x.2 := by omega
   rw [← hm] at hT1
   have hm9 : m ≤ 1000 := by omega
   replace hmx := lh hmx
   replace hm := lh hm
   go_wp2_with fail
   go_loopw [3, 5] (fun o z wq => ∃ (j : Nat) (L' : List Int), j ≤ m ∧ z = .int .i64 j ∧ Hid (L' = L ++ pwL x j) ∧ L'.length = L.length + j ∧ OwnI wq w.heap.size o L' ∧ Below w.heap.size w wq) (fun _ z _ => m + 1 - (intOf z).toNat)
   case atStart => exact ⟨0, L, Nat.zero_le _, rfl, by show L = _; simp [pwL], rfl, hown, hB⟩
   case round =>
    clear hown hB
    obtain ⟨j, L', hj, rfl, hL2, hl2, hownq, hBq⟩ := hrel
    obtain ⟨g, off, rfl, hcap, hg, c0, c1⟩ := hCk.out wr hBq
    by_cases hjl : j < m
    ·have q1 : (j : Int) < x.2 := by have := hmx.out; omega
     have hLn := lh (show L' ++ [x.1 + (j : Int)] = L ++ pwL x (j + 1) from by rw [hL2.out, pwL_succ, List.append_assoc])
     obtain ⟨v', w1, hrun, hown', hgr⟩ := appI (w := wr.alloc (.cells #[.int .i64 (x.1 + (j : Int))] (3 : Nat))) (y := x.1 + (j : Int)) (base := w.heap.size) (hownq.keep (bZ _ _)) (cell_new1 wr _ _) (by have := hBq.size; simp; omega) (by omega)
     have hB1 := (hBq.alloc hBq.size (.cells #[.int .i64 (x.1 + (j : Int))] (3 : Nat))).trans hgr
     clear hgr hownq hBq
     go_wp2_with (at_builtin; refine wpList_append_run rfl _ _ 87 rfl _ _ _ rfl rfl hrun ?_)
     go_roundw
     case rel => exact ⟨j + 1, _, by omega, by go_num, hLn, by rw [List.length_append, hl2]; rfl, hown', hB1⟩
     case measure => simp [intOf]; omega
    ·obtain rfl : j = m := by omega
     have q1 : x.2 ≤ (j : Int) := by have := hmx.out; omega
     have hfin := lh (show L' = placesL (l.take (k + 1)) from by rw [hL2.out, hT1.out])
     have hfl : L'.length ≤ 1000 * (k + 1) := by rw [hfin.out]; exact hL1
     go_wp2_with fail
     exact ⟨⟨k + 1, _, by omega, by go_num, hfin, hfl, hownq, hBq⟩, by simp [intOf]; omega⟩
  ·obtain rfl : k = n := by omega
   have hR := lh (show L = placesL l from by rw [hLe.out, hE.out])
   go_wp2_with fail
   go_ret
   exact ⟨_, rfl, by rw [← hR.out]; exact hown, hB⟩
end Go.Proofs.YtkdhdibjbabgfaaGreatDoor
end
section
namespace Go.Proofs.YtkdhdibjbabgfaaGreatDoor
open Go.RowKit
def IL (w : World) (v : Value) (l : List Int) : Prop :=
 ∃ A cap, v = .slice A l.length cap ∧ (0 < l.length → ∃ g off, A = some ⟨g, off, none⟩ ∧ g < w.heap.size ∧ l.length ≤ cap ∧ ∀ i, i < l.length → w.cell? ⟨g, off + i, none⟩ = some (.int .i64 (l.getD i 0)))
theorem IL.keep {w w1 : World} {v : Value} {l : List Int} (h : IL w v l) (hb : Below w.heap.size w w1) : IL w1 v l := by
 obtain ⟨A, cap, hv, h⟩ := h
 refine ⟨A, cap, hv, fun hl => ?_⟩
 obtain ⟨g, off, hA, hg, hc, hi⟩ := h hl
 exact ⟨g, off, hA, Nat.lt_of_lt_of_le hg hb.size, hc, fun i h => by rw [(bcell hb).1 _ _ hg]; exact hi i h⟩
theorem IL.form {w : World} {v : Value} {l : List Int} {n : Nat} (h : IL w v l) (hn : l.length = n) : ∃ A cap, v = .slice A n cap ∧
 ∀ w1 i, Below w.heap.size w w1 → i < n → ∃ g off, A = some ⟨g, off, none⟩ ∧ n ≤ cap ∧ g < w1.heap.size ∧ w1.cell? ⟨g, off + i, none⟩ = some (.int .i64 (l.getD i 0)) := by
 obtain ⟨A, cap, hv, h⟩ := h
 refine ⟨A, cap, by rw [hv, hn], fun w1 i hb hi => ?_⟩
 obtain ⟨g, off, hA, hg, hc, hcell⟩ := h (by omega)
 refine ⟨g, off, hA, by omega, Nat.lt_of_lt_of_le hg hb.size, ?_⟩
 rw [(bcell hb).1 _ _ hg]; exact hcell i (by omega)
theorem OwnI.il {w : World} {base : Nat} {v : Value} {l : List Int} (h : OwnI w base v l) : IL w v l := by
 have h' := h
 rcases h.2 with ⟨hv, hn⟩ | ⟨g, cap, cur, hv, hb, hg, h1, h2, h3, h4⟩
 ·have : l = [] := by simpa using hn
  subst this
  exact ⟨none, 0, hv, fun h => by simp at h⟩
 ·subst hv
  refine ⟨some ⟨g, 0, none⟩, cap, rfl, fun _ => ⟨g, 0, rfl, (Array.getElem?_eq_some_iff.1 hg).1, h1, fun i hi => ?_⟩⟩
  rw [Nat.zero_add]
  rw [World.ownsRow.cellAt h' i (by omega)]
  simp [List.getD_eq_getElem?_getD, List.getElem?_eq_getElem hi]
theorem places_nn {l : List Sp} (h : PBs l) : ∀ y ∈ placesL l, 0 ≤ y ∧ y ≤ 2199023255552 := fun y hy => by
 obtain ⟨x, hx, hy⟩ := List.mem_flatMap.1 hy
 obtain ⟨i, hi, rfl⟩ := List.mem_map.1 hy
 obtain ⟨h1, h2, h3, h4⟩ := h x hx
 have := List.mem_range.1 hi
 omega
theorem refGather_any (v u : Value) (I : List Nat) (l : List Sp) (w : World) (hl : PBs l) (hlen : l.length ≤ 1000) (hI : I.length ≤ 1000000) (hv : KL .u64 w v I) (hu : PL w u l) :
 Calls Tryz.prog 73 #[v, u] w fun e w' => ∃ v', e = .returned v' ∧ OwnU w' w.heap.size v' (gathL I l) ∧ Below w.heap.size w w' := by
 obtain ⟨NI, hNI⟩ : ∃ n, I.length = n := ⟨_, rfl⟩
 obtain ⟨AI, capI, rfl, hCI⟩ := hv.form hNI
 have hPl := lh (refPlaces_any u l w hl hlen hu)
 have hlt := placesL_tk l hl l.length (Nat.le_refl _)
 rw [List.take_of_length_le (Nat.le_refl _)] at hlt
 have hnn := places_nn hl
 have hG : gathL I l = (placesL l).map (imgAt I) := rfl
 generalize placesL l = P at *
 rw [hG]
 obtain ⟨n, hn⟩ : ∃ n, P.length = n := ⟨_, rfl⟩
 have hn9 : n ≤ 1000000 := by omega
 have hI9 : NI ≤ 1000000 := by omega
 have hT := lh (fun k (hk : k < n) => show (P.take (k + 1)).map (imgAt I) = (P.take k).map (imgAt I) ++ [imgAt I (P.getD k 0)] ∧ 0 ≤ P.getD k 0 ∧ P.getD k 0 ≤ 2199023255552 from by
  have hm : P.getD k 0 ∈ P := by rw [List.getD_eq_getElem?_getD, List.getElem?_eq_getElem (by omega)]; exact List.getElem_mem _
  refine ⟨?_, hnn _ hm⟩
  rw [List.take_succ_eq_append_getElem (by omega), List.map_append, List.getD_eq_getElem?_getD, List.getElem?_eq_getElem (by omega)]
  rfl)
 have hE := lh (show (P.take n).map (imgAt I) = P.map (imgAt I) from by rw [List.take_of_length_le (by omega)])
 have hIn := lh (fun i => imgAt_nat I i)
 have hIf := lh (fun y (h : (NI : Int) ≤ y) => imgAt_far I y (by rw [hNI]; exact h))
 replace hCI := lh hCI
 replace hn := lh hn
 replace hNI := lh hNI
 clear hv hu hl hlen hI hlt hnn hG
 go_enter Tryz.func73, Tryz.ntmps73
 go_wp2_with fail
 refine hPl.out.mono ?_
 rintro e w1 ⟨vp, rfl, hop, hb1⟩
 have hil := hop.il
 obtain ⟨A, cap, rfl, hC⟩ := hil.form hn.out
 replace hC := lh hC
 clear hop hil hPl
 go_wp2_with fail
 go_loopw [5, 7, 8] (fun o x z wr => ∃ (k : Nat) (L : List Nat), k ≤ n ∧ x = .int .i64 k ∧ Hid (L = (P.take k).map (imgAt I)) ∧ L.length = k ∧ OwnU wr w1.heap.size o L ∧ Below w1.heap.size w1 wr) (fun _ x _ _ => n + 1 - (intOf x).toNat)
 case atStart => exact ⟨0, [], Nat.zero_le _, rfl, rfl, rfl, World.ownsRow_nil _ _ _ _, Below.refl _ _⟩
 case round =>
  obtain ⟨k, L, hk, rfl, hLe, hLl, hown, hB1r⟩ := hrel
  by_cases hlt : k < n
  ·obtain ⟨g, off, rfl, hcap, hg, c0⟩ := hC.out wr k hB1r hlt
   have hlt' : (k : Int) < (n : Int) := by omega
   obtain ⟨t1, t2, t3⟩ := hT.out k hlt
   rw [← hLe.out] at t1
   have hB := hb1.trans (hB1r.mono hb1.size)
   generalize P.getD k 0 = y at *
   obtain ⟨i, rfl⟩ := Int.eq_ofNat_of_zero_le t2
   by_cases k2 : i < NI
   ·obtain ⟨gi, oi, rfl, hcapi, hgi, d0⟩ := hCI.out wr i hB k2
    rw [hIn.out i] at t1
    generalize I.getD i 0 = z at *
    have hLn := lh t1.symm
    have k2' : (i : Int) < (NI : Int) := by omega
    clear t1
    obtain ⟨v', w2, hrun, hown', hgr, _⟩ := appU (w := wr.alloc (.cells #[.int .u64 (z : Nat)] (25 : Nat))) (y := z) (base := w1.heap.size) (hown.alloc _) (cell_new1 wr _ _) (by have := hB1r.size; simp; omega) (by omega)
    have hb2 : Below w1.heap.size w1 w2 := (hB1r.alloc hB1r.size _).grown hgr (by have := hB1r.size; simp; omega) (fun j hj => (World.ownsRow.lt hown j hj).1)
    have hown2 : OwnU w2 w1.heap.size v' (L ++ [z]) := by unfold OwnU; rw [List.length_append, List.map_append]; exact hown'
    clear hgr hown hown'
    go_wp2_with (at_builtin; refine wpList_append_run rfl _ _ 23 rfl _ _ _ rfl rfl hrun ?_)
    go_roundw
    case rel => exact ⟨k + 1, _, by omega, by go_num, hLn, by rw [List.length_append, hLl]; rfl, hown2, hb2⟩
    case measure => simp [intOf]; omega
   ·have k3 : (NI : Int) ≤ (i : Int) := by omega
    rw [hIf.out _ k3] at t1
    have hLn := lh t1.symm
    clear t1
    obtain ⟨v', w2, hrun, hown', hgr, _⟩ := appU (w := wr.alloc (.cells #[.int .u64 (0 : Nat)] (25 : Nat))) (y := 0) (base := w1.heap.size) (hown.alloc _) (cell_new1 wr _ _) (by have := hB1r.size; simp; omega) (by omega)
    have hb2 : Below w1.heap.size w1 w2 := (hB1r.alloc hB1r.size _).grown hgr (by have := hB1r.size; simp; omega) (fun j hj => (World.ownsRow.lt hown j hj).1)
    have hown2 : OwnU w2 w1.heap.size v' (L ++ [0]) := by unfold OwnU; rw [List.length_append, List.map_append]; exact hown'
    clear hgr hown hown'
    go_wp2_with (at_builtin; refine wpList_append_run rfl _ _ 23 rfl _ _ _ rfl rfl hrun ?_)
    go_roundw
    case rel => exact ⟨k + 1, _, by omega, by go_num, hLn, by rw [List.length_append, hLl]; rfl, hown2, hb2⟩
    case measure => simp [intOf]; omega
  ·obtain rfl : k = n := by omega
   have hR := lh (show L = P.map (imgAt I) from by rw [hLe.out, hE.out])
   go_wp2_with fail
   go_ret
   exact ⟨_, rfl, by rw [← hR.out]; exact hown.mono hb1.size, hb1.trans (hB1r.mono hb1.size)⟩
end Go.Proofs.YtkdhdibjbabgfaaGreatDoor
end
