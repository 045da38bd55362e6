/-
  Part of the proof of JournalSteps.
-/
import Derived.Test.YtkkbngcgphlikaaGreatDoorJt16
import Derived.Test.YtkkbngcgphlikaaGreatDoorJt0
set_option maxRecDepth 10000
set_option maxHeartbeats 2000000
set_option linter.unusedVariables false
set_option linter.unusedSimpArgs false
section
namespace Go.Proofs.YtkkbngcgphlikaaGreatDoor
open Go.RowKit
theorem refChunks_out (W L : Int) (w : World) (h : L < 1 ∨ 64 < L ∨ 65536 < W) :
 Calls Tryz.prog 91 #[.agg #[.int .i64 W, .int .i64 L]] w fun e w' => e = .returned (.int .i64 0) ∧ Below w.heap.size w w' := by
 by_cases a1 : L < 1
 ·clear h
  go_enter Tryz.func91, Tryz.ntmps91
  go_wp2
  go_ret
  exact ⟨rfl, by go_grown⟩
 by_cases a2 : 64 < L
 ·clear h
  go_enter Tryz.func91, Tryz.ntmps91
  go_wp2
  go_ret
  exact ⟨rfl, by go_grown⟩
 have a3 : 65536 < W := by omega
 clear h
 go_enter Tryz.func91, Tryz.ntmps91
 go_wp2
 go_ret
 exact ⟨rfl, by go_grown⟩
def rN (W L : Int) : Int := if gOk W L then gN W L else 0
theorem refChunks_in (W L : Int) (w : World) (h1 : 1 ≤ L) (h2 : L ≤ 64) (h3 : W ≤ 65536) :
 Calls Tryz.prog 91 #[.agg #[.int .i64 W, .int .i64 L]] w fun e w' => e = .returned (.int .i64 (rN W L)) ∧ Below w.heap.size w w' := by
 go_enter Tryz.func91, Tryz.ntmps91
 go_wp2
 go_loop [3] (fun n => ∃ k : Nat, n = .int .i64 k ∧ (k = 0 ∨ 10 + 73 * L + 33 * (k : Int) ≤ W)) (fun n => 2000 - (intOf n).toNat)
 case atStart => exact ⟨0, rfl, .inl rfl⟩
 obtain ⟨k, rfl, hk⟩ := hrel
 have hk2 : (k : Int) ≤ 1990 := by omega
 by_cases hlt : 10 + 73 * L + 33 * ((k : Int) + 1) ≤ W
 ·clear hk
  go_wp2
  go_round
  case rel => exact ⟨k + 1, by go_num, .inr (by omega)⟩
  simp [intOf]; omega
 have Hk := lh hk
 clear hk
 go_wp2
 go_ret
 refine ⟨ret_i ?_, by go_grown⟩
 have hk := Hk.out
 unfold rN
 by_cases ho : gOk W L = true
 ·have := gN_bd ho
  rw [if_pos ho]; omega
 rw [if_neg ho]
 have := gOk_f (by simpa using ho : gOk W L = false)
 omega
theorem refChunks_t (W L : Int) (w : World) (h : gOk W L = true) :
 Calls Tryz.prog 91 #[.agg #[.int .i64 W, .int .i64 L]] w fun e w' => e = .returned (.int .i64 (gN W L)) ∧ Below w.heap.size w w' := by
 obtain ⟨h1, h2, h3, h4⟩ := gOk_t h
 have := refChunks_in W L w h1 h2 h3
 rwa [show rN W L = gN W L from if_pos h] at this
theorem refChunks_f (W L : Int) (w : World) (h : gOk W L = false) :
 Calls Tryz.prog 91 #[.agg #[.int .i64 W, .int .i64 L]] w fun e w' => e = .returned (.int .i64 0) ∧ Below w.heap.size w w' := by
 by_cases ho : L < 1 ∨ 64 < L ∨ 65536 < W
 ·exact refChunks_out W L w ho
 have := refChunks_in W L w (by omega) (by omega) (by omega)
 rwa [show rN W L = 0 from if_neg (by simp [h])] at this
theorem refRight_t (W L : Int) (w : World) (h : gOk W L = true) :
 Calls Tryz.prog 101 #[.agg #[.int .i64 W, .int .i64 L]] w fun e w' => e = .returned (.bool true) ∧ Below w.heap.size w w' := by
 obtain ⟨n1, n2, n3, n4⟩ := gN_bd h
 have H := lh h
 clear h
 go_enter Tryz.func101, Tryz.ntmps101
 go_wp2_with fail
 refine (refChunks_t W L _ H.out).mono ?_
 rintro e w1 ⟨rfl, hb⟩
 go_wp2_with fail
 go_ret
 exact ⟨rfl, (bZ _ _).trans (hb.mono (by simp))⟩
theorem refRight_f (W L : Int) (w : World) (h : gOk W L = false) :
 Calls Tryz.prog 101 #[.agg #[.int .i64 W, .int .i64 L]] w fun e w' => e = .returned (.bool false) ∧ Below w.heap.size w w' := by
 have H := lh h
 clear h
 go_enter Tryz.func101, Tryz.ntmps101
 go_wp2_with fail
 refine (refChunks_f W L _ H.out).mono ?_
 rintro e w1 ⟨rfl, hb⟩
 go_wp2_with fail
 go_ret
 exact ⟨rfl, (bZ _ _).trans (hb.mono (by simp))⟩
end Go.Proofs.YtkkbngcgphlikaaGreatDoor
end
section
namespace Go.Proofs.YtkkbngcgphlikaaGreatDoor
open Go.RowKit Go.ChangeShapes Go.WideShapes Go.Deep
def wN (o : Ox) : Nat := (wordOp o).toNat
def encW_rd (l : List Ox) : List Nat := l.flatMap fun o => [wN o, o.2.2]
def encS (l : List Ox) : List Nat := encW_rd l ++ [moreN 0 (encW_rd l)]
theorem wN_eq {o : Ox} (h : wrongB o = false) : wordOp o = ((wN o : Nat) : Int) := by
 have := wrongB_f h
 unfold wN wordOp
 omega
theorem wN_lt {o : Ox} (h : wrongB o = false) : wN o < 262144 := by
 have := wrongB_f h
 unfold wN wordOp
 omega
theorem encW_len (l : List Ox) : (encW_rd l).length = 2 * l.length := by
 induction l with
 | nil => rfl
 | cons o l ih => simp only [encW_rd, List.flatMap_cons, List.length_append, List.length_cons, List.length_nil] at *; omega
theorem encW_take (l : List Ox) (k : Nat) (h : k < l.length) : encW_rd (l.take (k + 1)) = encW_rd (l.take k) ++ [wN (l.getD k default), (l.getD k default).2.2] := by
 unfold encW_rd
 rw [List.take_succ_eq_append_getElem h, List.flatMap_append, List.getD_eq_getElem?_getD, List.getElem?_eq_getElem h]
 simp
theorem encW_WL {l : List Ox} (h : ∀ o ∈ l, wrongB o = false) (hv : OVs l) : WL (encW_rd l) := by
 intro x hx
 obtain ⟨o, ho, hx⟩ := List.mem_flatMap.1 hx
 simp only [List.mem_cons, List.not_mem_nil, or_false] at hx
 rcases hx with rfl | rfl
 ·have := wN_lt (h o ho); omega
 exact hv o ho
theorem KL.two (w : World) (a b : Nat) (t : TypeId) : KL .u64 (w.alloc (.cells #[.int .u64 (a : Nat), .int .u64 (b : Nat)] t)) (.slice (some ⟨w.heap.size, 0, none⟩) 2 2) [a, b] := by
 refine ⟨_, 2, rfl, fun _ => ⟨w.heap.size, 0, rfl, by simp, by simp, fun i hi => ?_⟩⟩
 match i, hi with
 | 0, _ => simp [go_sem]
 | 1, _ => simp [go_sem]
 | i + 2, hi => simp at hi; omega
theorem rightB_all {l : List Ox} (hk : l.length ≤ 19) (h : ∀ j, j < l.length → wrongB (l.getD j default) = false) : rightB_rd l = true := by
 unfold rightB_rd
 have : l.any wrongB = false := by
  rw [List.any_eq_false]
  intro x hx
  obtain ⟨i, hi, rfl⟩ := List.mem_iff_getElem.1 hx
  have := h i hi
  rw [List.getD_eq_getElem?_getD, List.getElem?_eq_getElem hi] at this
  simp at this; simp [this]
 rw [this]; simp [hk]
theorem enc_full (v : Value) (l : List Ox) (w : World) (hv : OPL w v l) (h : 19 < l.length) :
 Calls Tryz.prog 56 #[v] w fun e w' => e = .returned (.tuple #[.slice none 0 0, .int .i64 3]) ∧ Below w.heap.size w w' := by
 obtain ⟨A, cap, rfl, _⟩ := hv.form rfl
 have h' : (19 : Int) < (l.length : Int) := by omega
 clear hv
 go_enter Tryz.func56, Tryz.ntmps56
 go_wp2_with fail
 go_ret2
 exact ⟨rfl, Below.refl _ _⟩
theorem refEnc_full (v : Value) (l : List Ox) (w : World) (hv : OPL w v l) (h : 19 < l.length) :
 Calls Tryz.prog 83 #[v] w fun e w' => e = .returned (.tuple #[.slice none 0 0, .int .i64 3]) ∧ Below w.heap.size w w' := by
 obtain ⟨A, cap, rfl, _⟩ := hv.form rfl
 have h' : (19 : Int) < (l.length : Int) := by omega
 clear hv
 go_enter Tryz.func83, Tryz.ntmps83
 go_wp2_with fail
 go_ret2
 exact ⟨rfl, Below.refl _ _⟩
end Go.Proofs.YtkkbngcgphlikaaGreatDoor
end
section
namespace Go.Proofs.YtkkbngcgphlikaaGreatDoor
open Go.RowKit
theorem places_nn {l : List Sp} (h : PBs l) : ∀ y ∈ placesL l, 0 ≤ y ∧ y ≤ 2199023255552 := fun y hy => by
 obtain ⟨x, hx, hy⟩ := List.mem_flatMap.1 hy
 obtain ⟨i, hi, rfl⟩ := List.mem_map.1 hy
 obtain ⟨h1, h2, h3, h4⟩ := h x hx
 have := List.mem_range.1 hi
 omega
end Go.Proofs.YtkkbngcgphlikaaGreatDoor
end
section
namespace Go.Proofs.YtkkbngcgphlikaaGreatDoor
open Go.RowKit
def scatN (I : List Nat) (P : List Int) (ws : List Nat) : Nat → List Nat
 | 0 => I
 | k + 1 => if 0 ≤ P.getD k 0 ∧ P.getD k 0 < (I.length : Int) then (scatN I P ws k).set (P.getD k 0).toNat (ws.getD k 0) else scatN I P ws k
theorem scatN_len (I : List Nat) (P : List Int) (ws : List Nat) : ∀ k, (scatN I P ws k).length = I.length
 | 0 => rfl
 | k + 1 => by
   unfold scatN
   split
   ·rw [List.length_set, scatN_len]
   ·exact scatN_len I P ws k
def Ex1 (w : World) (g i : Nat) : Prop := ∃ x, w.cell? ⟨g, i, none⟩ = some x
theorem farR {w : World} {base e size n g o : Nat} {v : Value} {xs : List Value} (h : w.ownsRow base e size v n xs) (hg : g < base) (u : Value) : (w.setCell ⟨g, o, none⟩ u).ownsRow base e size v n xs := by
 refine ⟨h.1, ?_⟩
 rcases h.2 with h2 | ⟨g', cap, cur, hv, hbg, hgc, h1, h2, h3, h4⟩
 ·exact .inl h2
 exact .inr ⟨g', cap, cur, hv, hbg, by rw [Below.heap_setCell w ⟨g, o, none⟩ u g' (by simp only []; omega)]; exact hgc, h1, h2, h3, h4⟩
theorem refScatter_any (v u t : Value) (I ws : List Nat) (l : List Sp) (w : World) (hl : PBs l) (hlen : l.length ≤ 1000) (hI : I.length ≤ 100000) (hws : ws.length ≤ 100000) (hv : KL .u64 w v I) (hu : PL w u l) (ht : KL .u64 w t ws) :
 Calls Tryz.prog 81 #[v, u, t] w fun e w' => ∃ v', e = .returned v' ∧ OwnU w' w.heap.size v' (scatN I (placesL l) ws (min (placesL l).length ws.length)) ∧ Below w.heap.size w w' := by
 obtain ⟨vo, wa, hrun, ho, hba⟩ := newW hv hI
 have hPl := lh (refPlaces_any u l wa hl hlen (hu.keep hba))
 have hlt := placesL_tk l hl l.length (Nat.le_refl _)
 rw [List.take_of_length_le (Nat.le_refl _)] at hlt
 have hnn := places_nn hl
 generalize placesL l = P at *
 obtain ⟨NI, hNI⟩ : ∃ n, I.length = n := ⟨_, rfl⟩
 obtain ⟨NW, hNW⟩ : ∃ n, ws.length = n := ⟨_, rfl⟩
 obtain ⟨n, hn⟩ : ∃ n, P.length = n := ⟨_, rfl⟩
 rw [hn, hNW]
 obtain ⟨AW, capW, rfl, hCW⟩ := ht.form hNW
 have hn9 : n ≤ 1000000 := by omega
 have hf : ∃ Ao co, vo = .slice Ao NI co ∧ (0 < NI → ∃ g, Ao = some ⟨g, 0, none⟩) := by
  rcases ho.2 with ⟨h, h0⟩ | ⟨g, cap, cur, h, _⟩
  ·exact ⟨none, 0, by rw [h, ← hNI, h0], fun q => by omega⟩
  exact ⟨_, _, by rw [h, hNI], fun _ => ⟨g, rfl⟩⟩
 obtain ⟨Ao, co, rfl, hAo⟩ := hf
 replace hAo := lh hAo
 have hT := lh (fun k (hk : k < n) => show 0 ≤ P.getD k 0 ∧ P.getD k 0 ≤ 2199023255552 from hnn _ (by rw [List.getD_eq_getElem?_getD, List.getElem?_eq_getElem (by omega)]; exact List.getElem_mem _))
 have hS1 := lh (fun k (h0 : 0 ≤ P.getD k 0) (h : P.getD k 0 < (NI : Int)) => show (scatN I P ws k).set (P.getD k 0).toNat (ws.getD k 0) = scatN I P ws (k + 1) from by rw [scatN, if_pos ⟨h0, by rw [hNI]; exact h⟩])
 have hS0 := lh (fun k (h : (NI : Int) ≤ P.getD k 0) => show scatN I P ws k = scatN I P ws (k + 1) from by rw [scatN, if_neg (by rw [hNI]; omega)])
 replace hCW := lh hCW
 have ho' : wa.ownsRow w.heap.size 40 1 (.slice Ao NI co) NI (I.map fun x : Nat => Value.int .u64 x) := by have h := ho; unfold OwnU at h; rwa [hNI] at h
 have hI0 := lh (show I = scatN I P ws 0 from rfl)
 have hNW9 : NW ≤ 100000 := by omega
 have hNI9 : NI ≤ 100000 := by omega
 replace hn := lh hn
 have hNI' := lh hNI
 clear ho hv hu ht hl hlen hI hlt hnn hws hNI hNW
 go_enter Tryz.func81, Tryz.ntmps81
 go_wp2_with (at_builtin; refine wpList_append_run rfl _ _ 25 rfl _ _ _ rfl rfl hrun ?_)
 refine hPl.out.mono ?_
 rintro e w1 ⟨vp, rfl, hop, hb1⟩
 have hfp : ∃ Ap cp, vp = .slice Ap n cp ∧ (0 < n → ∃ g, Ap = some ⟨g, 0, none⟩) := by
  have hn' := hn.out
  rcases hop.2 with ⟨h, h0⟩ | ⟨g, cap, cur, h, _⟩
  ·exact ⟨none, 0, by rw [h, ← hn', h0], fun q => by omega⟩
  exact ⟨_, _, by rw [h, hn'], fun _ => ⟨g, rfl⟩⟩
 obtain ⟨Ap, cp, rfl, hAp⟩ := hfp
 have hP1 : w1.ownsRow wa.heap.size 3 1 (.slice Ap n cp) n (P.map fun x : Int => Value.int .i64 x) := by have h := hop; unfold OwnI at h; rwa [hn.out] at h
 have hO1 : w1.ownsRow w.heap.size 40 1 (.slice Ao NI co) NI (I.map fun x : Nat => Value.int .u64 x) := by
  have h : OwnU wa w.heap.size (.slice Ao NI co) I := by unfold OwnU; rw [hNI'.out]; exact ho'
  have h2 := h.keep hb1
  unfold OwnU at h2
  rwa [hNI'.out] at h2
 have hAl := lh (fun g (h : (Value.slice Ao NI co).ownBlock = some g) => (ho'.lt g h))
 have hPl2 := lh (fun g (h : (Value.slice Ap n cp).ownBlock = some g) => (hP1.lt g h).1)
 have hsz := hb1.size
 have hB1 := hba.trans (hb1.mono hba.size)
 replace hAp := lh hAp
 clear hop ho' hPl hb1 hba hrun
 go_wp2_with fail
 go_loopw [9] (fun x wr => ∃ (k : Nat) (O : List Nat), k ≤ n ∧ k ≤ NW ∧ x = .int .i64 k ∧ Hid (O = scatN I P ws k) ∧ O.length = NI ∧ wr.ownsRow w.heap.size 40 1 (.slice Ao NI co) NI (O.map fun x : Nat => Value.int .u64 x) ∧ wr.ownsRow wa.heap.size 3 1 (.slice Ap n cp) n (P.map fun x : Int => Value.int .i64 x) ∧ Below w.heap.size w wr ∧ wa.heap.size ≤ wr.heap.size) (fun x _ => n + 1 - (intOf x).toNat)
 case atStart => exact ⟨0, I, Nat.zero_le _, Nat.zero_le _, rfl, hI0.out, hNI'.out, hO1, hP1, hB1, hsz⟩
 clear hO1 hP1 hB1 hsz
 obtain ⟨k, O, hk, hkw, rfl, hLe, hLl, hO, hP, hB, hsz⟩ := hrel
 by_cases hlt : k < n
 rotate_left
 ·have hlt' : (n : Int) ≤ (k : Int) := by omega
  have hR := lh (show O = scatN I P ws (min n NW) from by rw [hLe.out, show min n NW = k by omega])
  go_wp2_with fail
  go_ret
  exact ⟨_, rfl, by rw [← hR.out]; unfold OwnU; rw [hLl]; exact hO, hB⟩
 by_cases hlw : k < NW
 rotate_left
 ·have hlt' : (k : Int) < (n : Int) := by omega
  have hlw' : (NW : Int) ≤ (k : Int) := by omega
  have hR := lh (show O = scatN I P ws (min n NW) from by rw [hLe.out, show min n NW = k by omega])
  go_wp2_with fail
  go_ret
  exact ⟨_, rfl, by rw [← hR.out]; unfold OwnU; rw [hLl]; exact hO, hB⟩
 have hlt' : (k : Int) < (n : Int) := by omega
 have hlw' : (k : Int) < (NW : Int) := by omega
 obtain ⟨gp, rfl⟩ := hAp.out (by omega)
 have c0 : wr.cell? ⟨gp, k, none⟩ = some (.int .i64 (P.getD k 0)) := by
  have hn' := hn.out
  rw [hP.cellAt k (by omega), List.getElem?_map, List.getD_eq_getElem?_getD, List.getElem?_eq_getElem (by omega)]
  rfl
 obtain ⟨gw, ow, rfl, hcapw, hgw, _⟩ := hCW.out w k (Below.refl _ _) hlw
 obtain ⟨g2, o2, he, _, hgw2, d0⟩ := hCW.out wr k hB hlw
 cases he
 obtain ⟨t2, t3⟩ := hT.out k hlt
 have hS1k := hS1.out k
 have hS0k := hS0.out k
 rw [← hLe.out] at hS1k hS0k
 have hgp := hPl2.out gp rfl
 generalize P.getD k 0 = y at *
 obtain ⟨i, rfl⟩ := Int.eq_ofNat_of_zero_le t2
 generalize ws.getD k 0 = z at *
 by_cases k2 : i < NI
 rotate_left
 ·have k3 : (NI : Int) ≤ (i : Int) := by omega
  have hLn := lh (hS0k k3)
  clear hS1k hS0k
  go_wp2_with fail
  go_roundw
  case rel => exact ⟨k + 1, _, by omega, by omega, by go_num, hLn, hLl, hO, hP, hB, hsz⟩
  simp [intOf]; omega
 have k2' : (i : Int) < (NI : Int) := by omega
 obtain ⟨go, rfl⟩ := hAo.out (by omega)
 obtain ⟨hg1, hg2⟩ := hAl.out go rfl
 have hLn := lh (hS1k t2 k2')
 simp only [Int.toNat_natCast] at hLn
 clear hS1k hS0k
 have f0 := hO.frozenAt i
 have e0 : Ex1 wr go i := ⟨_, by rw [hO.cellAt i (by omega)]; exact List.getElem?_eq_getElem (by simp; omega)⟩
 have hO' : (wr.setCell ⟨go, i, none⟩ (.int .u64 (z : Nat))).drew.ownsRow w.heap.size 40 1 (.slice (some ⟨go, 0, none⟩) NI co) NI ((O.map fun x : Nat => Value.int .u64 x).set i (.int .u64 (z : Nat))) := (World.ownsRow.stored (w := wr) hO i (.int .u64 (z : Nat))).1
 have s1 : (wr.setCell ⟨go, i, none⟩ (.int .u64 (z : Nat))).drew.cell? ⟨gp, k, none⟩ = some (.int .i64 (i : Int)) := (World.cell?_of_block (Below.heap_setCell wr ⟨go, i, none⟩ (.int .u64 (z : Nat)) gp (by simp only []; omega))).trans c0
 have s2 : (wr.setCell ⟨go, i, none⟩ (.int .u64 (z : Nat))).drew.cell? ⟨gw, ow + k, none⟩ = some (.int .u64 (z : Nat)) := (World.cell?_of_block (Below.heap_setCell wr ⟨go, i, none⟩ (.int .u64 (z : Nat)) gw (by simp only []; omega))).trans d0
 have s3 := hO'.frozenAt i
 have s4 : Ex1 (wr.setCell ⟨go, i, none⟩ (.int .u64 (z : Nat))).drew go i := ⟨_, by rw [hO'.cellAt i (by omega)]; exact List.getElem?_eq_getElem (by simp; omega)⟩
 have hO2 : (wr.setCell ⟨go, i, none⟩ (.int .u64 (z : Nat))).drew.ownsRow w.heap.size 40 1 (.slice (some ⟨go, 0, none⟩) NI co) NI ((O.set i z).map fun x : Nat => Value.int .u64 x) := by rw [List.map_set]; exact hO'
 have hP2 := farR (w := wr) (o := i) hP hg2 (.int .u64 (z : Nat))
 have hB2 := ((hB).setCell (p := ⟨go, i, none⟩) hg1 (.int .u64 (z : Nat))).drew
 have hs2 : wa.heap.size ≤ (wr.setCell ⟨go, i, none⟩ (.int .u64 (z : Nat))).drew.heap.size := by simpa using hsz
 clear hO' hO hP hB hsz
 go_wp2_with fail
 refine wp_region_held_drew (S := (fun w' => w'.cell? ⟨gp, k, none⟩ = some (.int .i64 (i : Int)) ∧ w'.cell? ⟨gw, ow + k, none⟩ = some (.int .u64 (z : Nat)) ∧ w'.frozen? ⟨go, i, none⟩ = false ∧ Ex1 w' go i)) (by kernel_rfl) ?_ (fun hHeld => ?_)
 ·(try dsimp only)
  ((try go_split_ands); refine ⟨?_, ?_, ?_, ?_⟩ <;> first | assumption | exact c0 | exact d0 | exact f0 | exact e0 | exact s1 | exact s2 | exact s3 | exact s4)
 refine takeV 0 ?_
 refine takeV 1 ?_
 refine takeV 2 ?_
 refine takeV 3 ?_
 refine takeV 4 ?_
 refine takeV 5 ?_
 refine takeV 6 ?_
 refine takeV 7 ?_
 refine takeV 8 ?_
 refine takeV 9 ?_
 refine oneL 10 rfl (by kernel_rfl) (fun K hK => ?_)
 go_simp
 (go_split_ands; obtain ⟨x0, hx0⟩ := id e0; go_simp; (try simp only [Result.andThen_ok]); (try go_simp))
 refine hK.out _ _ ?_ (fun hHeld2 => ?_)
 ·(try dsimp only)
  ((try go_split_ands); refine ⟨?_, ?_, ?_, ?_⟩ <;> first | assumption | exact c0 | exact d0 | exact f0 | exact e0 | exact s1 | exact s2 | exact s3 | exact s4)
 clear hK K
 try simp only [Act.put,sA,sB,sC]
 refine wpAnyH_done (by kernel_rfl) ?_ _
 go_wp2_with fail
 go_roundw
 case rel => exact ⟨k + 1, _, by omega, by omega, by go_num, hLn, by rw [List.length_set]; exact hLl, hO2, hP2, hB2, hs2⟩
 simp [intOf]; omega
end Go.Proofs.YtkkbngcgphlikaaGreatDoor
end
