/-
  Part of the proof of SoundTells,SoundGiven.
-/
import Derived.Test.YtdmmbnnejbmdpaaGreatDoorVu91
import Derived.Test.YtdmmbnnejbmdpaaGreatDoorVu93
import Derived.Test.YtdmmbnnejbmdpaaGreatDoorVu94
import Derived.Test.YtdmmbnnejbmdpaaGreatDoorVu95
import Derived.Test.YtdmmbnnejbmdpaaGreatDoorVu96
import Derived.Test.YtdmmbnnejbmdpaaGreatDoorVu97
import Derived.Test.YtdmmbnnejbmdpaaGreatDoorVu98
import Derived.Test.YtdmmbnnejbmdpaaGreatDoorRows
import Derived.Deep.RegionHeld3
import Derived.WalkLawsBesides
import Derived.WalkSpells
import Derived.Lib.SliceRun
import Derived.Test.YtdmmbnnejbmdpaaGreatDoorVu90
set_option maxRecDepth 10000
set_option maxHeartbeats 4000000
set_option linter.unusedVariables false
set_option linter.unusedSimpArgs false
section
namespace Go.Proofs.YtdmmbnnejbmdpaaGreatDoor
open Go.RowKit
def lOk (W L i : Int) : Bool := gOk W L && decide (0 ≤ i ∧ i < L)
theorem lOk_t {W L i : Int} (h : lOk W L i = true) : gOk W L = true ∧ 0 ≤ i ∧ i < L := by
 simp only [lOk, Bool.and_eq_true, decide_eq_true_eq] at h; exact h
end Go.Proofs.YtdmmbnnejbmdpaaGreatDoor
end
section
namespace Go.Proofs.YtdmmbnnejbmdpaaGreatDoor
open Go.RowKit Go.ChangeShapes Go.WideShapes Go.Deep
theorem refEnc_arg (v : Value) (l : List Ox) (w : World) (hv : OPL w v l) (ho : OVs l) (hl19 : l.length ≤ 19) (hr : rightB_rd l = false) :
 Calls Tryz.prog 54 #[v] w fun e w' => e = .returned (.tuple #[.slice none 0 0, .int .i64 1]) ∧ Below w.heap.size w w' := by
 have hX := lh (fun (h : ∀ j, j < l.length → wrongB (l.getD j default) = false) => show False from by have := rightB_all hl19 h; rw [hr] at this; cases this)
 clear hr
 obtain ⟨n, hn⟩ : ∃ n, l.length = n := ⟨_, rfl⟩
 obtain ⟨A, cap, rfl, hC⟩ := hv.form hn
 have hS := lh (fun k (hk : k < n) => show encW_rd (l.take (k + 1)) = encW_rd (l.take k) ++ [wN (l.getD k default), (l.getD k default).2.2] from encW_take l k (by omega))
 have hE := lh (show encW_rd (l.take n) = encW_rd l from by rw [List.take_of_length_le (by omega)])
 have hZ := lh (show encW_rd (l.take 0) = [] from by simp [encW_rd])
 have hLn := lh (fun k (hk : k ≤ n) => show (encW_rd (l.take k)).length = 2 * k from by rw [encW_len, List.length_take]; omega)
 have hV := lh (fun k (hk : k < n) => ho.at k (by omega))
 replace hC := lh hC
 have hn9 : n ≤ 19 := by omega
 have h' : (n : Int) ≤ 19 := by omega
 replace hn := lh hn
 clear hv ho hl19
 go_enter Tryz.func54, Tryz.ntmps54
 go_wp2_with fail
 go_loopw [5, 4] (fun i wd wr => ∃ (k : Nat) (J : List Nat), k ≤ n ∧ i = .int .i64 k ∧ Hid (J = encW_rd (l.take k)) ∧ Hid (∀ j, j < k → wrongB (l.getD j default) = false) ∧ OwnU wr w.heap.size wd J ∧ Below w.heap.size w wr) (fun i _ _ => n + 1 - (intOf i).toNat)
 case atStart => exact ⟨0, [], Nat.zero_le _, rfl, lh hZ.out.symm, (fun j hj => by omega), World.ownsRow_nil _ _ _ _, Below.refl _ _⟩
 case round =>
  obtain ⟨k, J, hk, rfl, hJ, hF, hown, hB⟩ := hrel
  by_cases hlt : k < n
  ·obtain ⟨g, off, rfl, hcap, hgw, hg, c0, c1, c2⟩ := hC.out wr k hB hlt
   have hlt' : (k : Int) < (n : Int) := by omega
   have hs1 := hS.out k hlt
   have hJl : J.length = 2 * k := by rw [hJ.out]; exact hLn.out k hk
   have hov := hV.out k hlt
   rw [← hJ.out] at hs1
   cases hw1 : wrongB (l.getD k default) with
   | true =>
     generalize l.getD k default = o at *
     have hCa := fun w => can_any_rd o w
     rw [hw1] at hCa
     simp only [Bool.not_true] at hCa
     obtain ⟨x, a, y⟩ := o
     unfold opV at hCa
     simp only [] at c0 c1 c2 hCa
     replace hCa := lh hCa
     clear hs1 hw1 hov
     go_wp2_with fail
     refine (hCa.out _).mono ?_
     rintro e w2 ⟨rfl, hb⟩
     have hB2 := hB.trans (hb.mono hB.size)
     go_wp2_with fail
     go_ret2
     exact ⟨rfl, hB2⟩
   | false =>
     have hF2 := lh (fun j (hj : j < k + 1) => show wrongB (l.getD j default) = false from by
      by_cases e : j = k
      ·subst e; exact hw1
      ·exact hF.out j (by omega))
     generalize l.getD k default = o at *
     have hCa := fun w => can_any_rd o w
     rw [hw1] at hCa
     simp only [Bool.not_false] at hCa
     obtain ⟨p1, p2, p3, p4⟩ := wrongB_f hw1
     have hWd := wN_eq hw1
     unfold wordOp at hWd
     generalize wN o = wd at *
     obtain ⟨x, a, y⟩ := o
     unfold opV at hCa
     simp only [] at c0 c1 c2 hov hs1 hCa p1 p2 p3 p4 hWd
     replace hCa := lh hCa
     replace hs1 := lh hs1
     have fa : IntKind.u64.wrap a = a := by rw [IntKind.wrap_u64]; omega
     have fk : IntKind.u64.wrap x = x := by rw [IntKind.wrap_u64]; omega
     have fm : IntKind.u64.wrap (4 * a) = 4 * a := by rw [IntKind.wrap_u64]; omega
     have fs : IntKind.u64.wrap (4 * a + x) = (wd : Int) := by rw [IntKind.wrap_u64, ← hWd]; omega
     replace hWd := lh hWd
     clear hw1
     go_wp2_with fail
     refine (hCa.out _).mono ?_
     rintro e W ⟨rfl, hbC⟩
     have b0 := cellK c0 hbC
     have b1 := cellK c1 hbC
     have b2 := cellK c2 hbC
     have hownW := hown.keep hbC
     have hBW := hB.trans (hbC.mono hB.size)
     clear hown hB hbC
     go_wp2_with fail
     refine wp_region_tail (S := (fun w' => w'.cell? ⟨g, off + k * 3, none⟩ = some (.int .i64 x) ∧ w'.cell? ⟨g, off + k * 3 + 1, none⟩ = some (.int .i64 a) ∧ w'.cell? ⟨g, off + k * 3 + 2, none⟩ = some (.int .u64 (y : Nat)) ∧ Below W.heap.size W w')) (n := 21) (by kernel_rfl) ?_ (fun hHeld hInv => ?_) (by decide)
     ·(try dsimp only)
      (first | assumption | (exact ⟨b0, b1, b2, (Below.refl _ _).drew⟩) | ((try go_split_ands); exact ⟨cellK (by assumption) hb, cellK (by assumption) hb, cellK (by assumption) hb, Below.trans (by assumption) (hb.mono (Below.size (by assumption)))⟩))
     refine takeVS 0 hInv ?_; clear hInv; intro hInv
     refine takeVS 1 hInv ?_; clear hInv; intro hInv
     refine takeVS 2 hInv ?_; clear hInv; intro hInv
     refine takeVS 3 hInv ?_; clear hInv; intro hInv
     refine takeVS 4 hInv ?_; clear hInv; intro hInv
     refine takeVS 5 hInv ?_; clear hInv; intro hInv
     refine takeVS 6 hInv ?_; clear hInv; intro hInv
     refine takeVS 7 hInv ?_; clear hInv; intro hInv
     refine takeVS 8 hInv ?_; clear hInv; intro hInv
     refine takeVS 9 hInv ?_; clear hInv; intro hInv
     refine takeVS 10 hInv ?_; clear hInv; intro hInv
     refine takeVS 11 hInv ?_; clear hInv; intro hInv
     refine takeVS 12 hInv ?_; clear hInv; intro hInv
     refine takeVS 13 hInv ?_; clear hInv; intro hInv
     refine takeVS 14 hInv ?_; clear hInv; intro hInv
     refine takeVS 15 hInv ?_; clear hInv; intro hInv
     refine takeVS 16 hInv ?_; clear hInv; intro hInv
     refine takeVS 17 hInv ?_; clear hInv; intro hInv
     refine takeVS 18 hInv ?_; clear hInv; intro hInv
     refine takeVS 19 hInv ?_; clear hInv; intro hInv
     refine oneS 20 hInv (by decide) rfl (by kernel_rfl) (fun K hK => ?_)
     go_simp
     have hb := bZ W.drew (.cells #[.int .u64 (wd : Nat), .int .u64 (y : Nat)] (33 : Nat))
     refine hK.out _ _ ?_ (fun hHeld2 hInv2 => ?_)
     ·(try dsimp only)
      (first | assumption | (exact ⟨b0, b1, b2, (Below.refl _ _).drew⟩) | ((try go_split_ands); exact ⟨cellK (by assumption) hb, cellK (by assumption) hb, cellK (by assumption) hb, Below.trans (by assumption) (hb.mono (Below.size (by assumption)))⟩))
     clear hK K hHeld hInv
     have hHeld := hHeld2
     have hInv := hInv2
     clear hHeld2 hInv2
     try simp only [Act.put,sA,sB,sC] at hInv ⊢
     refine lastS 21 rfl (by decide) (by kernel_rfl) (fun K hK => ?_)
     obtain ⟨_, _, _, hbL⟩ := id hHeld
     have hB8 := hBW.trans (hbL.mono hBW.size)
     obtain ⟨v', w4, hrun, ho, hb4⟩ := appW (hownW.keep hbL) (KL.two W.drew wd y (33 : Nat)) hB8.size (by omega) (by simp)
     rw [hs1.out.symm] at ho
     obtain ⟨J2, hJ2⟩ : ∃ J2, J2 = encW_rd (l.take (k + 1)) := ⟨_, rfl⟩
     rw [← hJ2] at ho
     replace hJ2 := lh hJ2
     have hBN := hB8.trans hb4
     clear hHeld hb4 hbL hs1 hownW hBW
     rw [if_pos (by rfl)]
     refine wp_append_run _ _ _ _ rfl _ _ _ rfl rfl hrun ?_
     refine hK.out _ _ ?_
     clear hK K
     try simp only [Act.put,sA,sB,sC]
     refine lastS 22 rfl (by decide) (by kernel_rfl) (fun K hK => ?_)
     go_simp
     refine hK.out _ _ ?_
     clear hK K
     try simp only [Act.put,sA,sB,sC]
     refine wpAnyS_done (by kernel_rfl) ?_ _
     clear hInv hrun hB8
     go_wp2_with fail
     go_roundw
     case rel => exact ⟨k + 1, _, by omega, by go_num, hJ2, hF2, ho, hBN⟩
     case measure => simp [intOf]; omega
  ·have hkn : k = n := by omega
   obtain rfl := hkn
   exact absurd (hX.out (fun j hj => hF.out j (by have := hn.out; omega))) id
end Go.Proofs.YtdmmbnnejbmdpaaGreatDoor
end
section
namespace Go.Proofs.YtdmmbnnejbmdpaaGreatDoor
open Go.RowKit
theorem chunk_yes (W L i : Int) (w : World) (h : gOk W L = true) (hi : 0 ≤ i) (hi2 : i < gN W L) :
 Calls Tryz.prog 66 #[.agg #[.int .i64 W, .int .i64 L], .int .i64 i] w fun e w' => e = .returned (.agg #[.int .i64 (cFrom W L i), .int .i64 32]) ∧ Below w.heap.size w w' := by
 obtain ⟨n1, n2, n3, n4⟩ := gN_bd h
 obtain ⟨h1, h2, h3, h4⟩ := gOk_t h
 have H := lh h
 clear h
 go_enter Tryz.func66, Tryz.ntmps66
 go_wp2_with fail
 refine (table_t W L _ H.out).mono ?_
 rintro e w1 ⟨rfl, hb⟩
 have k1 := (C2.new (w.alloc (.cells #[.int .i64 W, .int .i64 L] 51)) (.int .i64 0) (.int .i64 0) 57).keep hb
 have f1 := (F2.new (w.alloc (.cells #[.int .i64 W, .int .i64 L] 51)) (.int .i64 0) (.int .i64 0) 57).keep (by simp) hb
 simp only [World.size_alloc] at k1 f1
 have lt1 := k1.lt
 obtain ⟨c0, c1⟩ := id k1
 obtain ⟨g0, g1⟩ := id f1
 have hB : Below w.heap.size w w1 := ((bZ _ _).alloc (by simp) _).trans (hb.mono (by simp; omega))
 go_wp2_with fail
 refine bodyPost_ret (v := .agg #[.int .i64 (cFrom W L i), .int .i64 32]) (by simp [results, Tryz.results66, go_sem, c0, c1, lt1, cFrom]) rfl ⟨rfl, ?_⟩
 go_grown
end Go.Proofs.YtdmmbnnejbmdpaaGreatDoor
end
section
namespace Go.Proofs.YtdmmbnnejbmdpaaGreatDoor
open Go.RowKit
def scatN (I : List Nat) (P : List Int) (ws : List Nat) : Nat → List Nat
 | 0 => I
 | k + 1 => if 0 ≤ P.getD k 0 ∧ P.getD k 0 < (I.length : Int) then (scatN I P ws k).set (P.getD k 0).toNat (ws.getD k 0) else scatN I P ws k
theorem scatN_len (I : List Nat) (P : List Int) (ws : List Nat) : ∀ k, (scatN I P ws k).length = I.length
 | 0 => rfl
 | k + 1 => by
   unfold scatN
   split
   ·rw [List.length_set, scatN_len]
   ·exact scatN_len I P ws k
def Ex1 (w : World) (g i : Nat) : Prop := ∃ x, w.cell? ⟨g, i, none⟩ = some x
theorem farR {w : World} {base e size n g o : Nat} {v : Value} {xs : List Value} (h : w.ownsRow base e size v n xs) (hg : g < base) (u : Value) : (w.setCell ⟨g, o, none⟩ u).ownsRow base e size v n xs := by
 refine ⟨h.1, ?_⟩
 rcases h.2 with h2 | ⟨g', cap, cur, hv, hbg, hgc, h1, h2, h3, h4⟩
 ·exact .inl h2
 ·exact .inr ⟨g', cap, cur, hv, hbg, by rw [Below.heap_setCell w ⟨g, o, none⟩ u g' (by simp only []; omega)]; exact hgc, h1, h2, h3, h4⟩
theorem OwnI.drew {w : World} {base : Nat} {v : Value} {l : List Int} (h : OwnI w base v l) : OwnI w.drew base v l := h
theorem refScatter_any (v u t : Value) (I ws : List Nat) (l : List Sp) (w : World) (hl : PBs l) (hlen : l.length ≤ 1000) (hI : I.length ≤ 100000) (hws : ws.length ≤ 100000) (hv : KL .u64 w v I) (hu : PL w u l) (ht : KL .u64 w t ws) :
 Calls Tryz.prog 52 #[v, u, t] w fun e w' => ∃ v', e = .returned v' ∧ OwnU w' w.heap.size v' (scatN I (placesL l) ws (min (placesL l).length ws.length)) ∧ Below w.heap.size w w' := by
 obtain ⟨vo, wa, hrun, ho, hba⟩ := newW hv hI
 have hPl := lh (refPlaces_any u l wa hl hlen (hu.keep hba))
 have hlt := placesL_tk l hl l.length (Nat.le_refl _)
 rw [List.take_of_length_le (Nat.le_refl _)] at hlt
 have hnn := places_nn hl
 generalize placesL l = P at *
 obtain ⟨NI, hNI⟩ : ∃ n, I.length = n := ⟨_, rfl⟩
 obtain ⟨NW, hNW⟩ : ∃ n, ws.length = n := ⟨_, rfl⟩
 obtain ⟨n, hn⟩ : ∃ n, P.length = n := ⟨_, rfl⟩
 rw [hn, hNW]
 obtain ⟨AW, capW, rfl, hCW⟩ := ht.form hNW
 have hn9 : n ≤ 1000000 := by omega
 have hf : ∃ Ao co, vo = .slice Ao NI co ∧ (0 < NI → ∃ g, Ao = some ⟨g, 0, none⟩) := by
  rcases ho.2 with ⟨h, h0⟩ | ⟨g, cap, cur, h, _⟩
  ·exact ⟨none, 0, by rw [h, ← hNI, h0], fun q => by omega⟩
  ·exact ⟨_, _, by rw [h, hNI], fun _ => ⟨g, rfl⟩⟩
 obtain ⟨Ao, co, rfl, hAo⟩ := hf
 replace hAo := lh hAo
 have hT := lh (fun k (hk : k < n) => show 0 ≤ P.getD k 0 ∧ P.getD k 0 ≤ 2199023255552 from hnn _ (by rw [List.getD_eq_getElem?_getD, List.getElem?_eq_getElem (by omega)]; exact List.getElem_mem _))
 have hS1 := lh (fun k (h0 : 0 ≤ P.getD k 0) (h : P.getD k 0 < (NI : Int)) => show (scatN I P ws k).set (P.getD k 0).toNat (ws.getD k 0) = scatN I P ws (k + 1) from by rw [scatN, if_pos ⟨h0, by rw [hNI]; exact h⟩])
 have hS0 := lh (fun k (h : (NI : Int) ≤ P.getD k 0) => show scatN I P ws k = scatN I P ws (k + 1) from by rw [scatN, if_neg (by rw [hNI]; omega)])
 replace hCW := lh hCW
 have ho' : wa.ownsRow w.heap.size 33 1 (.slice Ao NI co) NI (I.map fun x : Nat => Value.int .u64 x) := by have h := ho; unfold OwnU at h; rwa [hNI] at h
 have hI0 := lh (show I = scatN I P ws 0 from rfl)
 have hNW9 : NW ≤ 100000 := by omega
 have hNI9 : NI ≤ 100000 := by omega
 replace hn := lh hn
 have hNI' := lh hNI
 clear ho hv hu ht hl hlen hI hlt hnn hws hNI hNW
 go_enter Tryz.func52, Tryz.ntmps52
 go_wp2_with (at_builtin; refine wpList_append_run rfl _ _ 25 rfl _ _ _ rfl rfl hrun ?_)
 refine hPl.out.mono ?_
 rintro e w1 ⟨vp, rfl, hop, hb1⟩
 have hfp : ∃ Ap cp, vp = .slice Ap n cp ∧ (0 < n → ∃ g, Ap = some ⟨g, 0, none⟩) := by
  have hn' := hn.out
  rcases hop.2 with ⟨h, h0⟩ | ⟨g, cap, cur, h, _⟩
  ·exact ⟨none, 0, by rw [h, ← hn', h0], fun q => by omega⟩
  ·exact ⟨_, _, by rw [h, hn'], fun _ => ⟨g, rfl⟩⟩
 obtain ⟨Ap, cp, rfl, hAp⟩ := hfp
 have hP1 : w1.ownsRow wa.heap.size 3 1 (.slice Ap n cp) n (P.map fun x : Int => Value.int .i64 x) := by have h := hop; unfold OwnI at h; rwa [hn.out] at h
 have hO1 : w1.ownsRow w.heap.size 33 1 (.slice Ao NI co) NI (I.map fun x : Nat => Value.int .u64 x) := by
  have h : OwnU wa w.heap.size (.slice Ao NI co) I := by unfold OwnU; rw [hNI'.out]; exact ho'
  have h2 := h.keep hb1
  unfold OwnU at h2
  rwa [hNI'.out] at h2
 have hAl := lh (fun g (h : (Value.slice Ao NI co).ownBlock = some g) => (ho'.lt g h))
 have hPl2 := lh (fun g (h : (Value.slice Ap n cp).ownBlock = some g) => (hP1.lt g h).1)
 have hsz := hb1.size
 have hB1 := hba.trans (hb1.mono hba.size)
 replace hAp := lh hAp
 clear hop ho' hPl hb1 hba hrun
 go_wp2_with fail
 go_loopw [9] (fun x wr => ∃ (k : Nat) (O : List Nat), k ≤ n ∧ k ≤ NW ∧ x = .int .i64 k ∧ Hid (O = scatN I P ws k) ∧ O.length = NI ∧ wr.ownsRow w.heap.size 33 1 (.slice Ao NI co) NI (O.map fun x : Nat => Value.int .u64 x) ∧ wr.ownsRow wa.heap.size 3 1 (.slice Ap n cp) n (P.map fun x : Int => Value.int .i64 x) ∧ Below w.heap.size w wr ∧ wa.heap.size ≤ wr.heap.size) (fun x _ => n + 1 - (intOf x).toNat)
 case atStart => exact ⟨0, I, Nat.zero_le _, Nat.zero_le _, rfl, hI0.out, hNI'.out, hO1, hP1, hB1, hsz⟩
 case round =>
  clear hO1 hP1 hB1 hsz
  obtain ⟨k, O, hk, hkw, rfl, hLe, hLl, hO, hP, hB, hsz⟩ := hrel
  by_cases hlt : k < n
  ·by_cases hlw : k < NW
   ·have hlt' : (k : Int) < (n : Int) := by omega
    have hlw' : (k : Int) < (NW : Int) := by omega
    obtain ⟨gp, rfl⟩ := hAp.out (by omega)
    have c0 : wr.cell? ⟨gp, k, none⟩ = some (.int .i64 (P.getD k 0)) := by
     have hn' := hn.out
     rw [hP.cellAt k (by omega), List.getElem?_map, List.getD_eq_getElem?_getD, List.getElem?_eq_getElem (by omega)]
     rfl
    obtain ⟨gw, ow, rfl, hcapw, hgw, _⟩ := hCW.out w k (Below.refl _ _) hlw
    obtain ⟨g2, o2, he, _, hgw2, d0⟩ := hCW.out wr k hB hlw
    cases he
    obtain ⟨t2, t3⟩ := hT.out k hlt
    have hS1k := hS1.out k
    have hS0k := hS0.out k
    rw [← hLe.out] at hS1k hS0k
    have hgp := hPl2.out gp rfl
    generalize P.getD k 0 = y at *
    obtain ⟨i, rfl⟩ := Int.eq_ofNat_of_zero_le t2
    generalize ws.getD k 0 = z at *
    by_cases k2 : i < NI
    ·have k2' : (i : Int) < (NI : Int) := by omega
     obtain ⟨go, rfl⟩ := hAo.out (by omega)
     obtain ⟨hg1, hg2⟩ := hAl.out go rfl
     have hLn := lh (hS1k t2 k2')
     simp only [Int.toNat_natCast] at hLn
     clear hS1k hS0k
     have f0 := hO.frozenAt i
     have e0 : Ex1 wr go i := ⟨_, by rw [hO.cellAt i (by omega)]; exact List.getElem?_eq_getElem (by simp; omega)⟩
     have hO' : (wr.setCell ⟨go, i, none⟩ (.int .u64 (z : Nat))).drew.ownsRow w.heap.size 33 1 (.slice (some ⟨go, 0, none⟩) NI co) NI ((O.map fun x : Nat => Value.int .u64 x).set i (.int .u64 (z : Nat))) := (World.ownsRow.stored (w := wr) hO i (.int .u64 (z : Nat))).1
     have s1 : (wr.setCell ⟨go, i, none⟩ (.int .u64 (z : Nat))).drew.cell? ⟨gp, k, none⟩ = some (.int .i64 (i : Int)) := (World.cell?_of_block (Below.heap_setCell wr ⟨go, i, none⟩ (.int .u64 (z : Nat)) gp (by simp only []; omega))).trans c0
     have s2 : (wr.setCell ⟨go, i, none⟩ (.int .u64 (z : Nat))).drew.cell? ⟨gw, ow + k, none⟩ = some (.int .u64 (z : Nat)) := (World.cell?_of_block (Below.heap_setCell wr ⟨go, i, none⟩ (.int .u64 (z : Nat)) gw (by simp only []; omega))).trans d0
     have s3 := hO'.frozenAt i
     have s4 : Ex1 (wr.setCell ⟨go, i, none⟩ (.int .u64 (z : Nat))).drew go i := ⟨_, by rw [hO'.cellAt i (by omega)]; exact List.getElem?_eq_getElem (by simp; omega)⟩
     have hO2 : (wr.setCell ⟨go, i, none⟩ (.int .u64 (z : Nat))).drew.ownsRow w.heap.size 33 1 (.slice (some ⟨go, 0, none⟩) NI co) NI ((O.set i z).map fun x : Nat => Value.int .u64 x) := by rw [List.map_set]; exact hO'
     have hP2 := farR (w := wr) (o := i) hP hg2 (.int .u64 (z : Nat))
     have hB2 := ((hB).setCell (p := ⟨go, i, none⟩) hg1 (.int .u64 (z : Nat))).drew
     have hs2 : wa.heap.size ≤ (wr.setCell ⟨go, i, none⟩ (.int .u64 (z : Nat))).drew.heap.size := by simpa using hsz
     clear hO' hO hP hB hsz
     go_wp2_with fail
     refine wp_region_held_drew (S := (fun w' => w'.cell? ⟨gp, k, none⟩ = some (.int .i64 (i : Int)) ∧ w'.cell? ⟨gw, ow + k, none⟩ = some (.int .u64 (z : Nat)) ∧ w'.frozen? ⟨go, i, none⟩ = false ∧ Ex1 w' go i)) (by kernel_rfl) ?_ (fun hHeld => ?_)
     ·(try dsimp only)
      ((try go_split_ands); refine ⟨?_, ?_, ?_, ?_⟩ <;> first | assumption | exact c0 | exact d0 | exact f0 | exact e0 | exact s1 | exact s2 | exact s3 | exact s4)
     refine takeV 0 ?_
     refine takeV 1 ?_
     refine takeV 2 ?_
     refine takeV 3 ?_
     refine takeV 4 ?_
     refine takeV 5 ?_
     refine takeV 6 ?_
     refine takeV 7 ?_
     refine takeV 8 ?_
     refine takeV 9 ?_
     refine oneL 10 rfl (by kernel_rfl) (fun K hK => ?_)
     go_simp
     (go_split_ands; obtain ⟨x0, hx0⟩ := id e0; go_simp; (try simp only [Result.andThen_ok]); (try go_simp))
     refine hK.out _ _ ?_ (fun hHeld2 => ?_)
     ·(try dsimp only)
      ((try go_split_ands); refine ⟨?_, ?_, ?_, ?_⟩ <;> first | assumption | exact c0 | exact d0 | exact f0 | exact e0 | exact s1 | exact s2 | exact s3 | exact s4)
     clear hK K
     try simp only [Act.put,sA,sB,sC]
     refine wpAnyH_done (by kernel_rfl) ?_ _
     go_wp2_with fail
     go_roundw
     case rel => exact ⟨k + 1, _, by omega, by omega, by go_num, hLn, by rw [List.length_set]; exact hLl, hO2, hP2, hB2, hs2⟩
     case measure => simp [intOf]; omega
    ·have k3 : (NI : Int) ≤ (i : Int) := by omega
     have hLn := lh (hS0k k3)
     clear hS1k hS0k
     go_wp2_with fail
     go_roundw
     case rel => exact ⟨k + 1, _, by omega, by omega, by go_num, hLn, hLl, hO, hP, hB, hsz⟩
     case measure => simp [intOf]; omega
   ·have hlt' : (k : Int) < (n : Int) := by omega
    have hlw' : (NW : Int) ≤ (k : Int) := by omega
    have hR := lh (show O = scatN I P ws (min n NW) from by rw [hLe.out, show min n NW = k by omega])
    go_wp2_with fail
    go_ret
    exact ⟨_, rfl, by rw [← hR.out]; unfold OwnU; rw [hLl]; exact hO, hB⟩
  ·have hlt' : (n : Int) ≤ (k : Int) := by omega
   have hR := lh (show O = scatN I P ws (min n NW) from by rw [hLe.out, show min n NW = k by omega])
   go_wp2_with fail
   go_ret
   exact ⟨_, rfl, by rw [← hR.out]; unfold OwnU; rw [hLl]; exact hO, hB⟩
end Go.Proofs.YtdmmbnnejbmdpaaGreatDoor
end
