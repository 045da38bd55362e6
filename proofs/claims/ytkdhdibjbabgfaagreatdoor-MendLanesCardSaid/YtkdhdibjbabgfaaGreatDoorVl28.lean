/-
  Part of the proof of MendLanes.
-/
import Derived.Test.YtkdhdibjbabgfaaGreatDoorVl10
import Derived.Test.YtkdhdibjbabgfaaGreatDoorVl11
import Derived.Test.YtkdhdibjbabgfaaGreatDoorVl13
import Derived.Test.YtkdhdibjbabgfaaGreatDoorVl15
import Derived.Test.YtkdhdibjbabgfaaGreatDoorVl27
import Derived.Test.YtkdhdibjbabgfaaGreatDoorVl4
import Derived.Test.YtkdhdibjbabgfaaGreatDoorVl7
import Derived.Test.YtkdhdibjbabgfaaGreatDoorVl9
import Derived.LoopIn
import Derived.LoopNIn
import Derived.Maps.AppendAt
import Derived.OwnWalkIn
import Derived.RangeFuncBound
import Derived.RangeFuncBox
import Derived.RangeFuncCalls
import Derived.RangeFuncFrom
import Derived.RangeFuncLeaves
import Derived.RangeFuncNested
import Derived.RangeFuncWrites
import Derived.Shelf.Abstract
import Derived.Shelf.RegionOpen
import Derived.TacticsInMore
import Derived.WalkKit
import Derived.Test.YtkdhdibjbabgfaaGreatDoorVl0
set_option maxRecDepth 100000
set_option maxHeartbeats 4000000
set_option linter.unusedVariables false
set_option linter.unusedSimpArgs false
section
namespace Go.Proofs.YtkdhdibjbabgfaaGreatDoor
open Go.RowKit
def Lw (w : World) : Prop := Deb w ∧ True ∧ Tab w ∧ 5 < w.heap.size ∧ Pl w
theorem Lw.keep {w w1 : World} (h : Lw w) (hb : Below w.heap.size w w1) : Lw w1 :=
 ⟨h.1.keep hb, trivial, tab_keep h.2.2.1 h.2.2.2.1 hb, Nat.lt_of_lt_of_le h.2.2.2.1 hb.size, h.2.2.2.2.keep hb⟩
theorem Lw.alloc {w : World} (h : Lw w) (o : Obj) : Lw (w.alloc o) := h.keep (bZ _ _)
theorem Lw.drew {w : World} (h : Lw w) : Lw w.drew := h
end Go.Proofs.YtkdhdibjbabgfaaGreatDoor
end
section
namespace Go.Proofs.YtkdhdibjbabgfaaGreatDoor
open Go.RowKit Go.Shelf
attribute [local go_sem] Oper.semAt_some
def imgAt (I : List Nat) (y : Int) : Nat := if 0 ≤ y then I.getD y.toNat 0 else 0
def gathL (I : List Nat) (L : List Sp) : List Nat := (placesL L).map (imgAt I)
theorem imgAt_neg (I : List Nat) (y : Int) (h : y < 0) : imgAt I y = 0 := if_neg (by omega)
theorem imgAt_nat (I : List Nat) (i : Nat) : imgAt I (i : Int) = I.getD i 0 := by unfold imgAt; rw [if_pos (by omega)]; rfl
theorem imgAt_far (I : List Nat) (y : Int) (h : (I.length : Int) ≤ y) : imgAt I y = 0 := by
 unfold imgAt; rw [if_pos (by omega), List.getD_eq_getElem?_getD, List.getElem?_eq_none (by omega)]; rfl
theorem placesL_len : ∀ (L : List Sp), PBs L → (placesL L).length = (totS L).toNat ∧ 0 ≤ totS L
 | [], _ => by simp [placesL, totS_nil]
 | x :: l, h => by
   have hx := h x (by simp)
   obtain ⟨h1, h2⟩ := placesL_len l (fun y hy => h y (by simp [hy]))
   have e : placesL (x :: l) = pwL x x.2.toNat ++ placesL l := rfl
   have e2 : (pwL x x.2.toNat).length = x.2.toNat := by simp [pwL]
   obtain ⟨_, k1, _, _⟩ := hx
   rw [e, List.length_append, e2, h1, totS_cons]
   omega
theorem totS_le : ∀ (L : List Sp), PBs L → totS L ≤ 1000 * (L.length : Int)
 | [], _ => by simp [totS_nil]
 | x :: l, h => by
   obtain ⟨_, _, k3, _⟩ := h x (by simp)
   have := totS_le l (fun y hy => h y (by simp [hy]))
   rw [totS_cons, List.length_cons]; omega
theorem kp_body_pc {n₀ Bo Bi : Nat} {W w1 : World} {v v' : Value} {o : Obj} {t : TypeId} (hc : Boxed W Bo t v) (hn : n₀ ≤ Bo) (hb : ∀ g, v.ownBlock = some g → n₀ ≤ g) (hg : (W.alloc o).grownBy w1 v.ownBlock) (hl : v'.ownBlock = v.ownBlock ∨ v'.ownBlock = some (W.alloc o).heap.size) (hne : some Bo ≠ v.ownBlock)
 (hlt : ∀ g, v'.ownBlock = some g → g < w1.heap.size) : Kp_pc n₀ Bo Bi W (w1.setCell ⟨Bo, 0, none⟩ v') := by
 have hY : Boxed (w1.setCell ⟨Bo, 0, none⟩ v') Bo t v' := ((hc.alloc o).kept hg hne).set v'
 have hs := hg.size
 simp only [World.size_alloc] at hs
 have hcl := hc.lt
 refine ⟨(((Below.refl _ _).alloc (by omega) _).grown hg (by simp; omega) (fun j hj => hb j hj)).setCell hn _, fun b cs tt f hbk hbn _ ho => ?_, fun b hbl q => ?_, fun _ => ownLt_of hY (fun b q => by have := hlt b q; simpa using this)⟩
 ·have hbl := (Array.getElem?_eq_some_iff.1 hbk).1
  rw [Below.heap_setCell w1 ⟨Bo, 0, none⟩ v' b hbn, hg.block b (by simp; omega) (fun q => ho ((ownAt_iff hc).2 q.symm)), Below.heap_alloc W o b hbl]
 ·have q1 := (ownAt_iff hY).1 q
  rcases hl with hl | hl
  ·exact (ownAt_iff hc).2 (hl ▸ q1)
  ·rw [hl] at q1
   simp at q1; omega
theorem boxed_far {W w1 : World} {B B2 base e k size : Nat} {t t2 : TypeId} {u v v' : Value} {o : Obj} {xs : List Value} (h : Boxed W B2 t2 u) (hne : B2 ≠ B) (hv : Boxed W B t v) (hr : W.ownsRow base e size v k xs) (hg : (W.alloc o).grownBy w1 v.ownBlock) (hte : t2 ≠ e := by decide) : Boxed (w1.setCell ⟨B, 0, none⟩ v') B2 t2 u :=
 ((h.alloc o).kept hg (h.not_row hte hr)).other hne v'
theorem gather_any_in (n : Nat) (hn : 3 ≤ n) (AI A : Option Addr) (NI capI N cap : Nat) (I : List Nat) (L : List Sp) (w : World) (hI : I.length = NI) (hL : PBs L) (hlen : L.length = N) (hN : N ≤ 1000)
 (hCI : ∀ w1 i, Below w.heap.size w w1 → i < NI → ∃ g off, AI = some ⟨g, off, none⟩ ∧ NI ≤ capI ∧ g < w1.heap.size ∧ w1.cell? ⟨g, off + i, none⟩ = some (.int .u64 (I.getD i 0 : Nat)))
 (hC : ∀ w1 i, Below w.heap.size w w1 → i < N → ∃ g off, A = some ⟨g, off, none⟩ ∧ N ≤ cap ∧ g < w1.heap.size ∧ w1.cell? ⟨g, off + i * 2, none⟩ = some (.int .i64 (L.getD i (0, 0)).1) ∧ w1.cell? ⟨g, off + i * 2 + 1, none⟩ = some (.int .i64 (L.getD i (0, 0)).2)) :
 CallsIn Fence.wide n Tryz.prog 100 #[.slice AI NI capI, .slice A N cap] w fun e W' => ∃ v, e = .returned v ∧ W'.ownsRow w.heap.size 25 1 v (gathL I L).length ((gathL I L).map fun x : Nat => Value.int .u64 x) ∧ Below w.heap.size w W' := by
 have hn1 : 1 ≤ n := by omega
 refine callsIn_of_wp_marks Tryz.func100 rfl trivial ?_ rfl
 simp only [Tryz.ntmps100, List.size_toArray, List.length_cons, List.length_nil, Nat.reduceAdd, Nat.reduceSub, Array.replicate_succ, Array.replicate_zero, List.push_toArray, List.append_toArray, List.nil_append, List.cons_append]
 gi_wp2
 refine ⟨trivial, (places_in (n - 1) A N cap _).mono ?_⟩
 rintro e w' ⟨rfl, rfl⟩
 gi_wp2
 obtain ⟨i0, hi, hz0, hz1, hz2⟩ := info_parts infoU64
 have bI := ((Boxed.new w 23 (.slice AI NI capI)).alloc (.cells #[.slice none 0 0] 23)).alloc (.cells #[.slice A N cap] 40)
 have bO := (Boxed.new (w.alloc (.cells #[.slice AI NI capI] 23)) 23 (.slice none 0 0)).alloc (.cells #[.slice A N cap] 40)
 have bL := Boxed.new ((w.alloc (.cells #[.slice AI NI capI] 23)).alloc (.cells #[.slice none 0 0] 23)) 40 (.slice A N cap)
 have hB0 : Below w.heap.size w (((w.alloc (.cells #[.slice AI NI capI] 23)).alloc (.cells #[.slice none 0 0] 23)).alloc (.cells #[.slice A N cap] 40)) := ((bZ w _).alloc (by simp) _).alloc (by simp; omega) _
 have hsz : ((((w.alloc (.cells #[.slice AI NI capI] 23)).alloc (.cells #[.slice none 0 0] 23)).alloc (.cells #[.slice A N cap] 40))).heap.size = w.heap.size + 3 := by simp
 simp only [World.size_alloc] at bO bL
 obtain ⟨W0, hW0⟩ : ∃ W0, W0 = ((((w.alloc (.cells #[.slice AI NI capI] 23)).alloc (.cells #[.slice none 0 0] 23)).alloc (.cells #[.slice A N cap] 40)) : World) := ⟨_, rfl⟩
 rw [← hW0] at bO bL bI hB0 hsz ⊢
 clear hW0
 have hml : (placesL L).length ≤ 1000000 := by
  have h1 := (placesL_len L hL).1
  have h2 := totS_le L hL
  omega
 replace hCI := lh hCI
 refine wpIn_rangeFunc_ownG rfl hn1 (gf := 140) (lb := #[.pointer (some ⟨w.heap.size + 1 + 1, 0, none⟩)]) rfl trivial (enters_of Tryz.func140 (by kernel_rfl) rfl)
  (pl_stops (n - 1) (by omega) (w.heap.size + 1) (w.heap.size + 1) (w.heap.size + 1 + 1) w.heap.size N cap A L hL hlen hN W0 (by omega) (by omega) (ownLt_of bO (by simp [Value.ownBlock])) bL.cell (by omega) (by omega) (fun w1 i hb => hC w1 i (hB0.trans hb)))
  kp_t_pc (kp_b_pc (by omega) (by omega)) (Below.refl _ _) (fun _ => rfl)
  (fun pre W => ((∃ v, Boxed W (w.heap.size + 1) 23 v ∧ W.ownsRow w.heap.size 25 1 v (pre : List Int).length (pre.map fun y : Int => Value.int .u64 (imgAt I y : Nat)) ∧ True) ∧ Boxed W w.heap.size 23 (.slice AI NI capI)) ∧ Below w.heap.size w W)
  (fun _ _ _ => False)
  (OwnFrom.and (OwnFrom.and (Own.from (holdsRow_own w.heap.size (w.heap.size + 1) 23 25 1 (fun pre : List Int => pre.length) (fun pre => pre.map fun y : Int => Value.int .u64 (imgAt I y : Nat)) (fun pre v => True)) _) (Own.from (boxed_own w.heap.size 23 (fun (_ : List Int) => Value.slice AI NI capI)) _)) (ownFrom_below (Nat.le_refl _) (by omega)))
  (fun _ _ _ _ _ hs _ _ => hs)
  ⟨⟨⟨_, bO, World.ownsRow_nil _ _ _ _, trivial⟩, bI⟩, hB0⟩
  (fun y => { tmps := #[.slice AI NI capI, .slice A N cap, .pointer (some ⟨w.heap.size, 0, none⟩), undef, .slice none 0 0, .pointer (some ⟨w.heap.size + 1, 0, none⟩), .int .i64 y, undef, .slice A N cap, .func (.func 140) #[] #[.pointer (some ⟨w.heap.size + 1 + 1, 0, none⟩)], .int .i64 y, undef, undef, undef, undef, undef, undef, undef, undef, undef, undef, undef, undef, undef, undef, undef, undef, undef], defers := [] }) ?assign ?body ?done ?stop
 case assign =>
  intro l y W K hK
  gi_wp2
  simpa using hK
 case body =>
  rintro l pre y W ⟨⟨⟨v, hv, hrow, _⟩, hbI⟩, hB⟩ hlt
  have hc := hv.cell
  have hcI := hbI.cell
  have hpl : pre.length < 1000000 := by omega
  have hne := hv.not_row (e := 25) (by decide) hrow
  by_cases k1 : 0 ≤ y
  ·obtain ⟨i, rfl⟩ := Int.eq_ofNat_of_zero_le k1
   by_cases k2 : i < NI
   ·obtain ⟨g, off, rfl, hcap, hg, c0⟩ := hCI.out W i hB k2
    have hadd := lh (show (pre ++ [(i : Int)]).map (fun y : Int => Value.int .u64 (imgAt I y : Nat)) = pre.map (fun y : Int => Value.int .u64 (imgAt I y : Nat)) ++ [.int .u64 (I.getD i 0 : Nat)] from by rw [List.map_append, List.map_singleton, imgAt_nat])
    generalize I.getD i 0 = x at *
    obtain ⟨v', w1, hrun, hown', hgrow, hl2⟩ := appU (w := W.alloc (.cells #[.int .u64 (x : Nat)] (25 : Nat))) (y := (x : Nat)) (base := w.heap.size) (hrow.alloc _) (cell_new1 W _ _) (by have := hB.size; simp; omega) (by omega)
    obtain ⟨g', cap', rfl⟩ := ownsRow_succ hown'
    obtain ⟨hv1, hv2, hr2, hk2, hb2⟩ := hv.appended (by decide) hrow hB.size (by omega) hown' hgrow
    have hkp := kp_body_pc (n₀ := w.heap.size) (Bi := w.heap.size + 1) hv (by omega) (fun g q => (hrow.lt g q).1) hgrow hl2 hne (fun g q => (hown'.lt g q).2)
    have hbI2 := boxed_far hbI (show w.heap.size ≠ w.heap.size + 1 by omega) hv hrow hgrow (v' := .slice (some ⟨g', 0, none⟩) (pre.length + 1) cap')
    have hc1 := hv1.cell
    have hf1 := hv1.frozen
    clear hgrow hown'
    gi_wp2_with (gi_at_builtin; refine wpListIn_append_run rfl _ _ 23 rfl _ _ _ rfl rfl hrun ?_)
    have hr3 : World.ownsRow (w1.setCell ⟨w.heap.size + 1, 0, none⟩ (.slice (some ⟨g', 0, none⟩) (pre.length + 1) cap')) w.heap.size 25 1 (.slice (some ⟨g', 0, none⟩) (pre.length + 1) cap') (pre ++ [(i : Int)]).length ((pre ++ [(i : Int)]).map fun y : Int => Value.int .u64 (imgAt I y : Nat)) := by rw [hadd.out, List.length_append]; first | done | exact hr2
    first | exact ⟨hk2.from _, hkp, ⟨⟨_, hv2, hr3, trivial⟩, hbI2⟩, hB.trans hb2⟩ | exact ⟨hk2.from _, hkp, ⟨⟨_, hv2, hr3⟩, hbI2⟩, hB.trans hb2⟩
   ·have k3 : (NI : Int) ≤ (i : Int) := by omega
    have hadd := lh (show (pre ++ [(i : Int)]).map (fun y : Int => Value.int .u64 (imgAt I y : Nat)) = pre.map (fun y : Int => Value.int .u64 (imgAt I y : Nat)) ++ [.int .u64 ((0 : Nat) : Int)] from by rw [List.map_append, List.map_singleton, imgAt_far I i (by omega)])
    obtain ⟨v', w1, hrun, hown', hgrow, hl2⟩ := appU (w := W.alloc (.cells #[.int .u64 (0 : Nat)] (25 : Nat))) (y := (0 : Nat)) (base := w.heap.size) (hrow.alloc _) (cell_new1 W _ _) (by have := hB.size; simp; omega) (by omega)
    obtain ⟨g', cap', rfl⟩ := ownsRow_succ hown'
    obtain ⟨hv1, hv2, hr2, hk2, hb2⟩ := hv.appended (by decide) hrow hB.size (by omega) hown' hgrow
    have hkp := kp_body_pc (n₀ := w.heap.size) (Bi := w.heap.size + 1) hv (by omega) (fun g q => (hrow.lt g q).1) hgrow hl2 hne (fun g q => (hown'.lt g q).2)
    have hbI2 := boxed_far hbI (show w.heap.size ≠ w.heap.size + 1 by omega) hv hrow hgrow (v' := .slice (some ⟨g', 0, none⟩) (pre.length + 1) cap')
    have hc1 := hv1.cell
    have hf1 := hv1.frozen
    clear hgrow hown'
    gi_wp2_with (gi_at_builtin; refine wpListIn_append_run rfl _ _ 23 rfl _ _ _ rfl rfl hrun ?_)
    have hr3 : World.ownsRow (w1.setCell ⟨w.heap.size + 1, 0, none⟩ (.slice (some ⟨g', 0, none⟩) (pre.length + 1) cap')) w.heap.size 25 1 (.slice (some ⟨g', 0, none⟩) (pre.length + 1) cap') (pre ++ [(i : Int)]).length ((pre ++ [(i : Int)]).map fun y : Int => Value.int .u64 (imgAt I y : Nat)) := by rw [hadd.out, List.length_append]; first | done | exact hr2
    first | exact ⟨hk2.from _, hkp, ⟨⟨_, hv2, hr3, trivial⟩, hbI2⟩, hB.trans hb2⟩ | exact ⟨hk2.from _, hkp, ⟨⟨_, hv2, hr3⟩, hbI2⟩, hB.trans hb2⟩
  ·have k2 : y < 0 := by omega
   have hadd := lh (show (pre ++ [y]).map (fun y : Int => Value.int .u64 (imgAt I y : Nat)) = pre.map (fun y : Int => Value.int .u64 (imgAt I y : Nat)) ++ [.int .u64 ((0 : Nat) : Int)] from by rw [List.map_append, List.map_singleton, imgAt_neg I y k2])
   obtain ⟨v', w1, hrun, hown', hgrow, hl2⟩ := appU (w := W.alloc (.cells #[.int .u64 (0 : Nat)] (25 : Nat))) (y := (0 : Nat)) (base := w.heap.size) (hrow.alloc _) (cell_new1 W _ _) (by have := hB.size; simp; omega) (by omega)
   obtain ⟨g', cap', rfl⟩ := ownsRow_succ hown'
   obtain ⟨hv1, hv2, hr2, hk2, hb2⟩ := hv.appended (by decide) hrow hB.size (by omega) hown' hgrow
   have hkp := kp_body_pc (n₀ := w.heap.size) (Bi := w.heap.size + 1) hv (by omega) (fun g q => (hrow.lt g q).1) hgrow hl2 hne (fun g q => (hown'.lt g q).2)
   have hbI2 := boxed_far hbI (show w.heap.size ≠ w.heap.size + 1 by omega) hv hrow hgrow (v' := .slice (some ⟨g', 0, none⟩) (pre.length + 1) cap')
   have hc1 := hv1.cell
   have hf1 := hv1.frozen
   clear hgrow hown'
   gi_wp2_with (gi_at_builtin; refine wpListIn_append_run rfl _ _ 23 rfl _ _ _ rfl rfl hrun ?_)
   have hr3 : World.ownsRow (w1.setCell ⟨w.heap.size + 1, 0, none⟩ (.slice (some ⟨g', 0, none⟩) (pre.length + 1) cap')) w.heap.size 25 1 (.slice (some ⟨g', 0, none⟩) (pre.length + 1) cap') (pre ++ [y]).length ((pre ++ [y]).map fun y : Int => Value.int .u64 (imgAt I y : Nat)) := by rw [hadd.out, List.length_append]; first | done | exact hr2
   first | exact ⟨hk2.from _, hkp, ⟨⟨_, hv2, hr3, trivial⟩, hbI2⟩, hB.trans hb2⟩ | exact ⟨hk2.from _, hkp, ⟨⟨_, hv2, hr3⟩, hbI2⟩, hB.trans hb2⟩
 case done =>
  rintro D ys W hD rfl ⟨⟨⟨v, hv, hrow, _⟩, hbI⟩, hB⟩ hK
  have hc := hv.cell
  gi_wp2
  refine ⟨by simp, .inl ⟨_, _, rfl, run_takeDeferred hK, ?_⟩⟩
  refine ⟨_, results_tmp rfl _ _ _, v, rfl, ?_, hB.trans (belowK_b (w := w) (Nat.le_refl _) W D _ _ (by omega) hK rfl rfl)⟩
  have := ownsRow_putObj hrow (.deferred none) hK rfl
  simpa [gathL, List.map_map, Function.comp_def] using this
 case stop =>
  rintro D c pre W _ _ h _
  exact h.elim
theorem gather_any (v u : Value) (I : List Nat) (L : List Sp) (w : World) (hL : PBs L) (hlen : L.length ≤ 1000) (hv : KL .u64 w v I) (hu : PL w u L) :
 Calls Tryz.prog 100 #[v, u] w fun e w' => ∃ v', e = .returned v' ∧ OwnU w' w.heap.size v' (gathL I L) ∧ Below w.heap.size w w' := by
 obtain ⟨AI, capI, rfl, hCI⟩ := hv.form rfl
 obtain ⟨A, cap, rfl, hC⟩ := hu.form rfl
 exact callsIn_wide.1 (gather_any_in 3 (by omega) AI A I.length capI L.length cap I L w rfl hL rfl hlen hCI hC)
end Go.Proofs.YtkdhdibjbabgfaaGreatDoor
end
section
namespace Go.Proofs.YtkdhdibjbabgfaaGreatDoor
open Go.RowKit
theorem refMark_yes (W L i : Int) (w : World) (h : gOk W L = true) (hi : 0 ≤ i) (hi2 : i < L) :
 Calls Tryz.prog 35 #[.agg #[.int .i64 W, .int .i64 L], .int .i64 i] w fun e w' => e = .returned (.int .i64 (10 + i)) ∧ Below w.heap.size w w' := by
 obtain ⟨h1, h2, h3, h4⟩ := gOk_t h
 have H := lh h
 clear h
 go_enter Tryz.func35, Tryz.ntmps35
 go_wp2_with fail
 refine (refRight_t W L _ H.out).mono ?_
 rintro e w1 ⟨rfl, hb⟩
 have j1 := (C2.new w (.int .i64 W) (.int .i64 L) 33).keep hb
 obtain ⟨d0, d1⟩ := id j1
 go_wp2_with fail
 go_ret
 exact ⟨rfl, (bZ _ _).trans (hb.mono (by simp))⟩
theorem refMark_t (W L i : Int) (w : World) (h : lOk W L i = true) :
 Calls Tryz.prog 35 #[.agg #[.int .i64 W, .int .i64 L], .int .i64 i] w fun e w' => e = .returned (.int .i64 (10 + i)) ∧ Below w.heap.size w w' := refMark_yes W L i w (lOk_t h).1 (lOk_t h).2.1 (lOk_t h).2.2
theorem refLog_yes (W L i : Int) (w : World) (h : gOk W L = true) (hi : 0 ≤ i) (hi2 : i < L) :
 Calls Tryz.prog 45 #[.agg #[.int .i64 W, .int .i64 L], .int .i64 i] w fun e w' => e = .returned (.agg #[.int .i64 (10 + L + i * 72), .int .i64 32]) ∧ Below w.heap.size w w' := by
 obtain ⟨h1, h2, h3, h4⟩ := gOk_t h
 have H := lh h
 clear h
 go_enter Tryz.func45, Tryz.ntmps45
 go_wp2_with fail
 refine (refRight_t W L _ H.out).mono ?_
 rintro e w1 ⟨rfl, hb⟩
 have k1 := (C2.new (w.alloc (.cells #[.int .i64 W, .int .i64 L] 33)) (.int .i64 0) (.int .i64 0) 51).keep hb
 have j1 := ((C2.new w (.int .i64 W) (.int .i64 L) 33).alloc (.cells #[.int .i64 0, .int .i64 0] 51)).keep hb
 have f1 := (F2.new (w.alloc (.cells #[.int .i64 W, .int .i64 L] 33)) (.int .i64 0) (.int .i64 0) 51).keep (by simp) hb
 simp only [World.size_alloc] at k1 f1
 have hB : Below w.heap.size w w1 := ((bZ _ _).alloc (by simp) _).trans (hb.mono (by simp; omega))
 have lt1 := k1.lt
 obtain ⟨c0, c1⟩ := id k1
 obtain ⟨d0, d1⟩ := id j1
 obtain ⟨g0, g1⟩ := id f1
 go_wp2_with fail
 refine bodyPost_ret (v := .agg #[.int .i64 (10 + L + i * 72), .int .i64 32]) (by simp [results, Tryz.results45, go_sem, c0, c1]; try omega) rfl ⟨rfl, ?_⟩
 go_grown
theorem refLog_t (W L i : Int) (w : World) (h : lOk W L i = true) :
 Calls Tryz.prog 45 #[.agg #[.int .i64 W, .int .i64 L], .int .i64 i] w fun e w' => e = .returned (.agg #[.int .i64 (10 + L + i * 72), .int .i64 32]) ∧ Below w.heap.size w w' := refLog_yes W L i w (lOk_t h).1 (lOk_t h).2.1 (lOk_t h).2.2
theorem refRedo_yes (W L i : Int) (w : World) (h : gOk W L = true) (hi : 0 ≤ i) (hi2 : i < L) :
 Calls Tryz.prog 33 #[.agg #[.int .i64 W, .int .i64 L], .int .i64 i] w fun e w' => e = .returned (.agg #[.int .i64 (10 + L + i * 72 + 32), .int .i64 40]) ∧ Below w.heap.size w w' := by
 obtain ⟨h1, h2, h3, h4⟩ := gOk_t h
 have H := lh h
 clear h
 go_enter Tryz.func33, Tryz.ntmps33
 go_wp2_with fail
 refine (refRight_t W L _ H.out).mono ?_
 rintro e w1 ⟨rfl, hb⟩
 have k1 := (C2.new (w.alloc (.cells #[.int .i64 W, .int .i64 L] 33)) (.int .i64 0) (.int .i64 0) 51).keep hb
 have j1 := ((C2.new w (.int .i64 W) (.int .i64 L) 33).alloc (.cells #[.int .i64 0, .int .i64 0] 51)).keep hb
 have f1 := (F2.new (w.alloc (.cells #[.int .i64 W, .int .i64 L] 33)) (.int .i64 0) (.int .i64 0) 51).keep (by simp) hb
 simp only [World.size_alloc] at k1 f1
 have hB : Below w.heap.size w w1 := ((bZ _ _).alloc (by simp) _).trans (hb.mono (by simp; omega))
 have lt1 := k1.lt
 obtain ⟨c0, c1⟩ := id k1
 obtain ⟨d0, d1⟩ := id j1
 obtain ⟨g0, g1⟩ := id f1
 go_wp2_with fail
 refine bodyPost_ret (v := .agg #[.int .i64 (10 + L + i * 72 + 32), .int .i64 40]) (by simp [results, Tryz.results33, go_sem, c0, c1]; try omega) rfl ⟨rfl, ?_⟩
 go_grown
theorem refRedo_t (W L i : Int) (w : World) (h : lOk W L i = true) :
 Calls Tryz.prog 33 #[.agg #[.int .i64 W, .int .i64 L], .int .i64 i] w fun e w' => e = .returned (.agg #[.int .i64 (10 + L + i * 72 + 32), .int .i64 40]) ∧ Below w.heap.size w w' := refRedo_yes W L i w (lOk_t h).1 (lOk_t h).2.1 (lOk_t h).2.2
end Go.Proofs.YtkdhdibjbabgfaaGreatDoor
end
