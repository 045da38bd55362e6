/-
  Part of the proof of JournalSteps.
-/
import Derived.Test.YtkkbngcgphlikaaGreatDoorJt14
import Derived.Test.YtkkbngcgphlikaaGreatDoorJt15
import Derived.Test.YtkkbngcgphlikaaGreatDoorJt0
set_option maxRecDepth 100000
set_option maxHeartbeats 4000000
set_option linter.unusedVariables false
set_option linter.unusedSimpArgs false
section
namespace Go.Proofs.YtkkbngcgphlikaaGreatDoor
open Go.RowKit Go.Shelf
attribute [local go_sem] Oper.semAt_some
def imgAt (I : List Nat) (y : Int) : Nat := if 0 ≤ y then I.getD y.toNat 0 else 0
def gathL (I : List Nat) (L : List Sp) : List Nat := (placesL L).map (imgAt I)
theorem imgAt_neg (I : List Nat) (y : Int) (h : y < 0) : imgAt I y = 0 := if_neg (by omega)
theorem imgAt_nat (I : List Nat) (i : Nat) : imgAt I (i : Int) = I.getD i 0 := by unfold imgAt; rw [if_pos (by omega)]; rfl
theorem imgAt_far (I : List Nat) (y : Int) (h : (I.length : Int) ≤ y) : imgAt I y = 0 := by
 unfold imgAt; rw [if_pos (by omega), List.getD_eq_getElem?_getD, List.getElem?_eq_none (by omega)]; rfl
theorem placesL_len : ∀ (L : List Sp), PBs L → (placesL L).length = (totS L).toNat ∧ 0 ≤ totS L
 | [], _ => by simp [placesL, totS_nil]
 | x :: l, h => by
   have hx := h x (by simp)
   obtain ⟨h1, h2⟩ := placesL_len l (fun y hy => h y (by simp [hy]))
   have e : placesL (x :: l) = pwL x x.2.toNat ++ placesL l := rfl
   have e2 : (pwL x x.2.toNat).length = x.2.toNat := by simp [pwL]
   obtain ⟨_, k1, _, _⟩ := hx
   rw [e, List.length_append, e2, h1, totS_cons]
   omega
theorem totS_le : ∀ (L : List Sp), PBs L → totS L ≤ 1000 * (L.length : Int)
 | [], _ => by simp [totS_nil]
 | x :: l, h => by
   obtain ⟨_, _, k3, _⟩ := h x (by simp)
   have := totS_le l (fun y hy => h y (by simp [hy]))
   rw [totS_cons, List.length_cons]; omega
theorem kp_body_pc {n₀ Bo Bi : Nat} {W w1 : World} {v v' : Value} {o : Obj} {t : TypeId} (hc : Boxed W Bo t v) (hn : n₀ ≤ Bo) (hb : ∀ g, v.ownBlock = some g → n₀ ≤ g) (hg : (W.alloc o).grownBy w1 v.ownBlock) (hl : v'.ownBlock = v.ownBlock ∨ v'.ownBlock = some (W.alloc o).heap.size) (hne : some Bo ≠ v.ownBlock)
 (hlt : ∀ g, v'.ownBlock = some g → g < w1.heap.size) : Kp_pc n₀ Bo Bi W (w1.setCell ⟨Bo, 0, none⟩ v') := by
 have hY : Boxed (w1.setCell ⟨Bo, 0, none⟩ v') Bo t v' := ((hc.alloc o).kept hg hne).set v'
 have hs := hg.size
 simp only [World.size_alloc] at hs
 have hcl := hc.lt
 refine ⟨(((Below.refl _ _).alloc (by omega) _).grown hg (by simp; omega) (fun j hj => hb j hj)).setCell hn _, fun b cs tt f hbk hbn _ ho => ?_, fun b hbl q => ?_, fun _ => ownLt_of hY (fun b q => by have := hlt b q; simpa using this)⟩
 ·have hbl := (Array.getElem?_eq_some_iff.1 hbk).1
  rw [Below.heap_setCell w1 ⟨Bo, 0, none⟩ v' b hbn, hg.block b (by simp; omega) (fun q => ho ((ownAt_iff hc).2 q.symm)), Below.heap_alloc W o b hbl]
 have q1 := (ownAt_iff hY).1 q
 rcases hl with hl | hl
 ·exact (ownAt_iff hc).2 (hl ▸ q1)
 rw [hl] at q1
 simp at q1; omega
theorem boxed_far {W w1 : World} {B B2 base e k size : Nat} {t t2 : TypeId} {u v v' : Value} {o : Obj} {xs : List Value} (h : Boxed W B2 t2 u) (hne : B2 ≠ B) (hv : Boxed W B t v) (hr : W.ownsRow base e size v k xs) (hg : (W.alloc o).grownBy w1 v.ownBlock) (hte : t2 ≠ e := by decide) : Boxed (w1.setCell ⟨B, 0, none⟩ v') B2 t2 u :=
 ((h.alloc o).kept hg (h.not_row hte hr)).other hne v'
theorem gather_any_in (n : Nat) (hn : 3 ≤ n) (AI A : Option Addr) (NI capI N cap : Nat) (I : List Nat) (L : List Sp) (w : World) (hI : I.length = NI) (hL : PBs L) (hlen : L.length = N) (hN : N ≤ 1000)
 (hCI : ∀ w1 i, Below w.heap.size w w1 → i < NI → ∃ g off, AI = some ⟨g, off, none⟩ ∧ NI ≤ capI ∧ g < w1.heap.size ∧ w1.cell? ⟨g, off + i, none⟩ = some (.int .u64 (I.getD i 0 : Nat)))
 (hC : ∀ w1 i, Below w.heap.size w w1 → i < N → ∃ g off, A = some ⟨g, off, none⟩ ∧ N ≤ cap ∧ g < w1.heap.size ∧ w1.cell? ⟨g, off + i * 2, none⟩ = some (.int .i64 (L.getD i (0, 0)).1) ∧ w1.cell? ⟨g, off + i * 2 + 1, none⟩ = some (.int .i64 (L.getD i (0, 0)).2)) :
 CallsIn Fence.wide n Tryz.prog 94 #[.slice AI NI capI, .slice A N cap] w fun e W' => ∃ v, e = .returned v ∧ W'.ownsRow w.heap.size 40 1 v (gathL I L).length ((gathL I L).map fun x : Nat => Value.int .u64 x) ∧ Below w.heap.size w W' := by
 have hn1 : 1 ≤ n := by omega
 refine callsIn_of_wp_marks Tryz.func94 rfl trivial ?_ rfl
 simp only [Tryz.ntmps94, List.size_toArray, List.length_cons, List.length_nil, Nat.reduceAdd, Nat.reduceSub, Array.replicate_succ, Array.replicate_zero, List.push_toArray, List.append_toArray, List.nil_append, List.cons_append]
 gi_wp2
 refine ⟨trivial, (places_in (n - 1) A N cap _).mono ?_⟩
 rintro e w' ⟨rfl, rfl⟩
 gi_wp2
 obtain ⟨i0, hi, hz0, hz1, hz2⟩ := info_parts infoU64
 have bI := ((Boxed.new w 25 (.slice AI NI capI)).alloc (.cells #[.slice none 0 0] 25)).alloc (.cells #[.slice A N cap] 49)
 have bO := (Boxed.new (w.alloc (.cells #[.slice AI NI capI] 25)) 25 (.slice none 0 0)).alloc (.cells #[.slice A N cap] 49)
 have bL := Boxed.new ((w.alloc (.cells #[.slice AI NI capI] 25)).alloc (.cells #[.slice none 0 0] 25)) 49 (.slice A N cap)
 have hB0 : Below w.heap.size w (((w.alloc (.cells #[.slice AI NI capI] 25)).alloc (.cells #[.slice none 0 0] 25)).alloc (.cells #[.slice A N cap] 49)) := ((bZ w _).alloc (by simp) _).alloc (by simp; omega) _
 have hsz : ((((w.alloc (.cells #[.slice AI NI capI] 25)).alloc (.cells #[.slice none 0 0] 25)).alloc (.cells #[.slice A N cap] 49))).heap.size = w.heap.size + 3 := by simp
 simp only [World.size_alloc] at bO bL
 obtain ⟨W0, hW0⟩ : ∃ W0, W0 = ((((w.alloc (.cells #[.slice AI NI capI] 25)).alloc (.cells #[.slice none 0 0] 25)).alloc (.cells #[.slice A N cap] 49)) : World) := ⟨_, rfl⟩
 rw [← hW0] at bO bL bI hB0 hsz ⊢
 clear hW0
 have hml : (placesL L).length ≤ 1000000 := by
  have h1 := (placesL_len L hL).1
  have h2 := totS_le L hL
  omega
 replace hCI := lh hCI
 refine wpIn_rangeFunc_ownG rfl hn1 (gf := 174) (lb := #[.pointer (some ⟨w.heap.size + 1 + 1, 0, none⟩)]) rfl trivial (enters_of Tryz.func174 (by kernel_rfl) rfl)
  (pl_stops (n - 1) (by omega) (w.heap.size + 1) (w.heap.size + 1) (w.heap.size + 1 + 1) w.heap.size N cap A L hL hlen hN W0 (by omega) (by omega) (ownLt_of bO (by simp [Value.ownBlock])) bL.cell (by omega) (by omega) (fun w1 i hb => hC w1 i (hB0.trans hb)))
  kp_t_pc (kp_b_pc (by omega) (by omega)) (Below.refl _ _) (fun _ => rfl)
  (fun pre W => ((∃ v, Boxed W (w.heap.size + 1) 25 v ∧ W.ownsRow w.heap.size 40 1 v (pre : List Int).length (pre.map fun y : Int => Value.int .u64 (imgAt I y : Nat)) ∧ True) ∧ Boxed W w.heap.size 25 (.slice AI NI capI)) ∧ Below w.heap.size w W)
  (fun _ _ _ => False)
  (OwnFrom.and (OwnFrom.and (Own.from (holdsRow_own w.heap.size (w.heap.size + 1) 25 40 1 (fun pre : List Int => pre.length) (fun pre => pre.map fun y : Int => Value.int .u64 (imgAt I y : Nat)) (fun pre v => True)) _) (Own.from (boxed_own w.heap.size 25 (fun (_ : List Int) => Value.slice AI NI capI)) _)) (ownFrom_below (Nat.le_refl _) (by omega)))
  (fun _ _ _ _ _ hs _ _ => hs)
  ⟨⟨⟨_, bO, World.ownsRow_nil _ _ _ _, trivial⟩, bI⟩, hB0⟩
  (fun y => { tmps := #[.slice AI NI capI, .slice A N cap, .pointer (some ⟨w.heap.size, 0, none⟩), undef, .slice none 0 0, .pointer (some ⟨w.heap.size + 1, 0, none⟩), .int .i64 y, undef, .slice A N cap, .func (.func 174) #[] #[.pointer (some ⟨w.heap.size + 1 + 1, 0, none⟩)], .int .i64 y, undef, undef, undef, undef, undef, undef, undef, undef, undef, undef, undef, undef, undef, undef, undef, undef, undef], defers := [] }) ?assign ?body ?done ?stop
 case assign =>
  intro l y W K hK
  gi_wp2
  simpa using hK
 case body =>
  rintro l pre y W ⟨⟨⟨v, hv, hrow, _⟩, hbI⟩, hB⟩ hlt
  have hc := hv.cell
  have hcI := hbI.cell
  have hpl : pre.length < 1000000 := by omega
  have hne := hv.not_row (e := 40) (by decide) hrow
  by_cases k1 : 0 ≤ y
  rotate_left
  ·have k2 : y < 0 := by omega
   have hadd := lh (show (pre ++ [y]).map (fun y : Int => Value.int .u64 (imgAt I y : Nat)) = pre.map (fun y : Int => Value.int .u64 (imgAt I y : Nat)) ++ [.int .u64 ((0 : Nat) : Int)] from by rw [List.map_append, List.map_singleton, imgAt_neg I y k2])
   obtain ⟨v', w1, hrun, hown', hgrow, hl2⟩ := appU (w := W.alloc (.cells #[.int .u64 (0 : Nat)] (40 : Nat))) (y := (0 : Nat)) (base := w.heap.size) (hrow.alloc _) (cell_new1 W _ _) (by have := hB.size; simp; omega) (by omega)
   obtain ⟨g', cap', rfl⟩ := ownsRow_succ hown'
   obtain ⟨hv1, hv2, hr2, hk2, hb2⟩ := hv.appended (by decide) hrow hB.size (by omega) hown' hgrow
   have hkp := kp_body_pc (n₀ := w.heap.size) (Bi := w.heap.size + 1) hv (by omega) (fun g q => (hrow.lt g q).1) hgrow hl2 hne (fun g q => (hown'.lt g q).2)
   have hbI2 := boxed_far hbI (show w.heap.size ≠ w.heap.size + 1 by omega) hv hrow hgrow (v' := .slice (some ⟨g', 0, none⟩) (pre.length + 1) cap')
   have hc1 := hv1.cell
   have hf1 := hv1.frozen
   clear hgrow hown'
   gi_wp2_with (gi_at_builtin; refine wpListIn_append_run rfl _ _ 25 rfl _ _ _ rfl rfl hrun ?_)
   have hr3 : World.ownsRow (w1.setCell ⟨w.heap.size + 1, 0, none⟩ (.slice (some ⟨g', 0, none⟩) (pre.length + 1) cap')) w.heap.size 40 1 (.slice (some ⟨g', 0, none⟩) (pre.length + 1) cap') (pre ++ [y]).length ((pre ++ [y]).map fun y : Int => Value.int .u64 (imgAt I y : Nat)) := by rw [hadd.out, List.length_append]; first | done | exact hr2
   first | exact ⟨hk2.from _, hkp, ⟨⟨_, hv2, hr3, trivial⟩, hbI2⟩, hB.trans hb2⟩ | exact ⟨hk2.from _, hkp, ⟨⟨_, hv2, hr3⟩, hbI2⟩, hB.trans hb2⟩
  obtain ⟨i, rfl⟩ := Int.eq_ofNat_of_zero_le k1
  by_cases k2 : i < NI
  ·obtain ⟨g, off, rfl, hcap, hg, c0⟩ := hCI.out W i hB k2
   have hadd := lh (show (pre ++ [(i : Int)]).map (fun y : Int => Value.int .u64 (imgAt I y : Nat)) = pre.map (fun y : Int => Value.int .u64 (imgAt I y : Nat)) ++ [.int .u64 (I.getD i 0 : Nat)] from by rw [List.map_append, List.map_singleton, imgAt_nat])
   generalize I.getD i 0 = x at *
   obtain ⟨v', w1, hrun, hown', hgrow, hl2⟩ := appU (w := W.alloc (.cells #[.int .u64 (x : Nat)] (40 : Nat))) (y := (x : Nat)) (base := w.heap.size) (hrow.alloc _) (cell_new1 W _ _) (by have := hB.size; simp; omega) (by omega)
   obtain ⟨g', cap', rfl⟩ := ownsRow_succ hown'
   obtain ⟨hv1, hv2, hr2, hk2, hb2⟩ := hv.appended (by decide) hrow hB.size (by omega) hown' hgrow
   have hkp := kp_body_pc (n₀ := w.heap.size) (Bi := w.heap.size + 1) hv (by omega) (fun g q => (hrow.lt g q).1) hgrow hl2 hne (fun g q => (hown'.lt g q).2)
   have hbI2 := boxed_far hbI (show w.heap.size ≠ w.heap.size + 1 by omega) hv hrow hgrow (v' := .slice (some ⟨g', 0, none⟩) (pre.length + 1) cap')
   have hc1 := hv1.cell
   have hf1 := hv1.frozen
   clear hgrow hown'
   gi_wp2_with (gi_at_builtin; refine wpListIn_append_run rfl _ _ 25 rfl _ _ _ rfl rfl hrun ?_)
   have hr3 : World.ownsRow (w1.setCell ⟨w.heap.size + 1, 0, none⟩ (.slice (some ⟨g', 0, none⟩) (pre.length + 1) cap')) w.heap.size 40 1 (.slice (some ⟨g', 0, none⟩) (pre.length + 1) cap') (pre ++ [(i : Int)]).length ((pre ++ [(i : Int)]).map fun y : Int => Value.int .u64 (imgAt I y : Nat)) := by rw [hadd.out, List.length_append]; first | done | exact hr2
   first | exact ⟨hk2.from _, hkp, ⟨⟨_, hv2, hr3, trivial⟩, hbI2⟩, hB.trans hb2⟩ | exact ⟨hk2.from _, hkp, ⟨⟨_, hv2, hr3⟩, hbI2⟩, hB.trans hb2⟩
  have k3 : (NI : Int) ≤ (i : Int) := by omega
  have hadd := lh (show (pre ++ [(i : Int)]).map (fun y : Int => Value.int .u64 (imgAt I y : Nat)) = pre.map (fun y : Int => Value.int .u64 (imgAt I y : Nat)) ++ [.int .u64 ((0 : Nat) : Int)] from by rw [List.map_append, List.map_singleton, imgAt_far I i (by omega)])
  obtain ⟨v', w1, hrun, hown', hgrow, hl2⟩ := appU (w := W.alloc (.cells #[.int .u64 (0 : Nat)] (40 : Nat))) (y := (0 : Nat)) (base := w.heap.size) (hrow.alloc _) (cell_new1 W _ _) (by have := hB.size; simp; omega) (by omega)
  obtain ⟨g', cap', rfl⟩ := ownsRow_succ hown'
  obtain ⟨hv1, hv2, hr2, hk2, hb2⟩ := hv.appended (by decide) hrow hB.size (by omega) hown' hgrow
  have hkp := kp_body_pc (n₀ := w.heap.size) (Bi := w.heap.size + 1) hv (by omega) (fun g q => (hrow.lt g q).1) hgrow hl2 hne (fun g q => (hown'.lt g q).2)
  have hbI2 := boxed_far hbI (show w.heap.size ≠ w.heap.size + 1 by omega) hv hrow hgrow (v' := .slice (some ⟨g', 0, none⟩) (pre.length + 1) cap')
  have hc1 := hv1.cell
  have hf1 := hv1.frozen
  clear hgrow hown'
  gi_wp2_with (gi_at_builtin; refine wpListIn_append_run rfl _ _ 25 rfl _ _ _ rfl rfl hrun ?_)
  have hr3 : World.ownsRow (w1.setCell ⟨w.heap.size + 1, 0, none⟩ (.slice (some ⟨g', 0, none⟩) (pre.length + 1) cap')) w.heap.size 40 1 (.slice (some ⟨g', 0, none⟩) (pre.length + 1) cap') (pre ++ [(i : Int)]).length ((pre ++ [(i : Int)]).map fun y : Int => Value.int .u64 (imgAt I y : Nat)) := by rw [hadd.out, List.length_append]; first | done | exact hr2
  first | exact ⟨hk2.from _, hkp, ⟨⟨_, hv2, hr3, trivial⟩, hbI2⟩, hB.trans hb2⟩ | exact ⟨hk2.from _, hkp, ⟨⟨_, hv2, hr3⟩, hbI2⟩, hB.trans hb2⟩
 case done =>
  rintro D ys W hD rfl ⟨⟨⟨v, hv, hrow, _⟩, hbI⟩, hB⟩ hK
  have hc := hv.cell
  gi_wp2
  refine ⟨by simp, .inl ⟨_, _, rfl, run_takeDeferred hK, ?_⟩⟩
  refine ⟨_, results_tmp rfl _ _ _, v, rfl, ?_, hB.trans (belowK_b (w := w) (Nat.le_refl _) W D _ _ (by omega) hK rfl rfl)⟩
  have := ownsRow_putObj hrow (.deferred none) hK rfl
  simpa [gathL, List.map_map, Function.comp_def] using this
 rintro D c pre W _ _ h _
 exact h.elim
theorem gather_any (v u : Value) (I : List Nat) (L : List Sp) (w : World) (hL : PBs L) (hlen : L.length ≤ 1000) (hv : KL .u64 w v I) (hu : PL w u L) :
 Calls Tryz.prog 94 #[v, u] w fun e w' => ∃ v', e = .returned v' ∧ OwnU w' w.heap.size v' (gathL I L) ∧ Below w.heap.size w w' := by
 obtain ⟨AI, capI, rfl, hCI⟩ := hv.form rfl
 obtain ⟨A, cap, rfl, hC⟩ := hu.form rfl
 exact callsIn_wide.1 (gather_any_in 3 (by omega) AI A I.length capI L.length cap I L w rfl hL rfl hlen hCI hC)
end Go.Proofs.YtkkbngcgphlikaaGreatDoor
end
section
namespace Go.Proofs.YtkkbngcgphlikaaGreatDoor
open Go.RowKit
def FB (x : Sp) : Prop := 0 ≤ x.1 ∧ x.1 ≤ 1099511627776 ∧ 0 ≤ x.2 ∧ x.2 ≤ 40
instance (x : Sp) : Decidable (FB x) := by unfold FB; infer_instance
theorem PL.lit (w : World) (l : List Sp) (hl : l.length ≤ 1000) : PL (w.alloc (.cells (spv l).toArray (70 : Nat))) (.slice (some ⟨w.heap.size, 0, none⟩) l.length l.length) l := by
 have := World.ownsRow_lit (base := w.heap.size) (e := 70) (size := 2) w (spv l).toArray l.length (Nat.le_refl _) (by unfold maxLen; omega) (by simp [spv_len])
 exact OwnSp.pl (base := w.heap.size) this
end Go.Proofs.YtkkbngcgphlikaaGreatDoor
end
section
namespace Go.Proofs.YtkkbngcgphlikaaGreatDoor
open Go.RowKit
theorem infoInt : (Tryz.prog.info? 3).map (fun i => (i.zero, i.size, i.bytes)) = some (some (.int .i64 0), 1, 8) := by kernel_rfl
def OwnI (w : World) (base : Nat) (v : Value) (l : List Int) : Prop := w.ownsRow base 3 1 v l.length (l.map fun x : Int => Value.int .i64 x)
theorem OwnI.keep {w w1 : World} {base : Nat} {v : Value} {l : List Int} (h : OwnI w base v l) (hb : Below w.heap.size w w1) : OwnI w1 base v l := by
 refine ⟨h.1, ?_⟩
 rcases h.2 with h2 | ⟨g, cap, cur, hv, hbg, hg, h1, h2, h3, h4⟩
 ·exact .inl h2
 exact .inr ⟨g, cap, cur, hv, hbg, by rw [hb.block g (Array.getElem?_eq_some_iff.1 hg).1]; exact hg, h1, h2, h3, h4⟩
theorem appI {w : World} {base g : Nat} {y : Int} {v : Value} {l : List Int} (hown : OwnI w base v l) (hx : w.cell? ⟨g, 0, none⟩ = some (.int .i64 y)) (hb : base ≤ w.heap.size) (hsm : l.length ≤ 2000000) :
 ∃ v' w', (Builtin.append_ #[84, 84] 84 #[v, .slice (some ⟨g, 0, none⟩) 1 1]).run Tryz.prog w = .ok v' w' ∧ OwnI w' base v' (l ++ [y]) ∧ Below base w w' := by
 obtain ⟨i0, hi, hz0, hz1, hz2⟩ := info_parts infoInt
 obtain ⟨v', w', hrun, h1, h2, _, h4⟩ := run_append_own_at (P := Tryz.prog) w base 84 84 3 i0 (.int .i64 0) 1 8 Tryz.underlying84 hi hz0 hz1 hz2 rfl (by decide) v l.length _ hown ⟨g, 0, none⟩ 1 1 [.int .i64 y] rfl
  (fun j u hj => by
    match j, hj with
    | 0, hj => simp only [List.getElem?_cons_zero] at hj; rw [← hj]; simpa [Addr.add] using hx
    | j + 1, hj => simp at hj) (by simp [Value.oneCell']) (by unfold maxLen; omega) (by omega) hb
 refine ⟨v', w', hrun, ?_, (Below.refl base w).grown h2 hb (fun j hj => (World.ownsRow.lt hown j hj).1)⟩
 unfold OwnI
 rw [List.length_append, List.map_append]
 exact h1
theorem placesL_tk (l : List Sp) (h : PBs l) (k : Nat) (hk : k ≤ l.length) : (placesL (l.take k)).length ≤ 1000 * k := by
 have hp : PBs (l.take k) := fun x hx => h x (List.mem_of_mem_take hx)
 have h1 := placesL_len (l.take k) hp
 have h2 := totS_le (l.take k) hp
 rw [List.length_take, Nat.min_eq_left hk] at h2
 omega
theorem refPlaces_any (v : Value) (l : List Sp) (w : World) (hl : PBs l) (hlen : l.length ≤ 1000) (hv : PL w v l) :
 Calls Tryz.prog 136 #[v] w fun e w' => ∃ v', e = .returned v' ∧ OwnI w' w.heap.size v' (placesL l) ∧ Below w.heap.size w w' := by
 obtain ⟨n, hn⟩ : ∃ n, l.length = n := ⟨_, rfl⟩
 obtain ⟨A, cap, rfl, hC⟩ := hv.form hn
 have hI := lh (fun i (hi : i < n) => hl.at i (by omega))
 have hT := lh (fun i (hi : i < n) => places_take l i (by omega))
 have hL := lh (fun i (hi : i ≤ n) => placesL_tk l hl i (by omega))
 have hE := lh (show placesL (l.take n) = placesL l from by rw [List.take_of_length_le (by omega)])
 replace hC := lh hC
 have hln : n ≤ 1000 := by omega
 clear hv hlen hl
 replace hn := lh hn
 go_enter Tryz.func136, Tryz.ntmps136
 go_wp2_with fail
 go_loopw [3, 4, 5] (fun o x z wr => ∃ (k : Nat) (L : List Int), k ≤ n ∧ x = .int .i64 k ∧ Hid (L = placesL (l.take k)) ∧ L.length ≤ 1000 * k ∧ OwnI wr w.heap.size o L ∧ Below w.heap.size w wr) (fun _ x _ _ => n + 1 - (intOf x).toNat)
 case atStart => exact ⟨0, [], Nat.zero_le _, rfl, rfl, by simp, World.ownsRow_nil _ _ _ _, Below.refl _ _⟩
 obtain ⟨k, L, hk, rfl, hLe, hLl, hown, hB⟩ := hrel
 by_cases hlt : k < n
 rotate_left
 ·obtain rfl : k = n := by omega
  have hR := lh (show L = placesL l from by rw [hLe.out, hE.out])
  go_wp2_with fail
  go_ret
  exact ⟨_, rfl, by rw [← hR.out]; exact hown, hB⟩
 have hlt' : (k : Int) < (n : Int) := by omega
 have hxi := hI.out k hlt
 have hT1 := lh (hT.out k hlt)
 have hL1 := hL.out (k + 1) (by omega)
 rw [← hLe.out] at hT1
 have hCk := lh (fun w1 (hb : Below w.heap.size w w1) => hC.out w1 k hb hlt)
 generalize l.getD k (0, 0) = x at *
 obtain ⟨b1, b2, b3, b4⟩ := id hxi
 obtain ⟨m, hm⟩ : ∃ m, m = x.2.toNat := ⟨_, rfl⟩
 have hmx : (m : Int) = x.2 := by omega
 rw [← hm] at hT1
 have hm9 : m ≤ 1000 := by omega
 replace hmx := lh hmx
 replace hm := lh hm
 go_wp2_with fail
 go_loopw [3, 5] (fun o z wq => ∃ (j : Nat) (L' : List Int), j ≤ m ∧ z = .int .i64 j ∧ Hid (L' = L ++ pwL x j) ∧ L'.length = L.length + j ∧ OwnI wq w.heap.size o L' ∧ Below w.heap.size w wq) (fun _ z _ => m + 1 - (intOf z).toNat)
 case atStart => exact ⟨0, L, Nat.zero_le _, rfl, by show L = _; simp [pwL], rfl, hown, hB⟩
 clear hown hB
 obtain ⟨j, L', hj, rfl, hL2, hl2, hownq, hBq⟩ := hrel
 obtain ⟨g, off, rfl, hcap, hg, c0, c1⟩ := hCk.out wr hBq
 by_cases hjl : j < m
 ·have q1 : (j : Int) < x.2 := by have := hmx.out; omega
  have hLn := lh (show L' ++ [x.1 + (j : Int)] = L ++ pwL x (j + 1) from by rw [hL2.out, pwL_succ, List.append_assoc])
  obtain ⟨v', w1, hrun, hown', hgr⟩ := appI (w := wr.alloc (.cells #[.int .i64 (x.1 + (j : Int))] (3 : Nat))) (y := x.1 + (j : Int)) (base := w.heap.size) (hownq.keep (bZ _ _)) (cell_new1 wr _ _) (by have := hBq.size; simp; omega) (by omega)
  have hB1 := (hBq.alloc hBq.size (.cells #[.int .i64 (x.1 + (j : Int))] (3 : Nat))).trans hgr
  clear hgr hownq hBq
  go_wp2_with (at_builtin; refine wpList_append_run rfl _ _ 84 rfl _ _ _ rfl rfl hrun ?_)
  go_roundw
  case rel => exact ⟨j + 1, _, by omega, by go_num, hLn, by rw [List.length_append, hl2]; rfl, hown', hB1⟩
  simp [intOf]; omega
 obtain rfl : j = m := by omega
 have q1 : x.2 ≤ (j : Int) := by have := hmx.out; omega
 have hfin := lh (show L' = placesL (l.take (k + 1)) from by rw [hL2.out, hT1.out])
 have hfl : L'.length ≤ 1000 * (k + 1) := by rw [hfin.out]; exact hL1
 go_wp2_with fail
 exact ⟨⟨k + 1, _, by omega, by go_num, hfin, hfl, hownq, hBq⟩, by simp [intOf]; omega⟩
end Go.Proofs.YtkkbngcgphlikaaGreatDoor
end
section
namespace Go.Proofs.YtkkbngcgphlikaaGreatDoor
open Go.RowKit
theorem ret_ii {a b c d : Int} (h : a = b) (h' : c = d) : Ending.returned (.tuple #[.int .i64 a, .int .i64 c]) = .returned (.tuple #[.int .i64 b, .int .i64 d]) := by rw [h, h']
theorem ret_g {a b c d : Int} (h : a = b) (h' : c = d) : Ending.returned (.agg #[.int .i64 a, .int .i64 c]) = .returned (.agg #[.int .i64 b, .int .i64 d]) := by rw [h, h']
theorem field1 (x y : Int) (w : World) : (Instr.field 70 (.agg #[.int .i64 x, .int .i64 y]) 1).run Tryz.prog w = .ok (.int .i64 y) w := by kernel_rfl
theorem field0 (x y : Int) (w : World) : (Instr.field 70 (.agg #[.int .i64 x, .int .i64 y]) 0).run Tryz.prog w = .ok (.int .i64 x) w := by kernel_rfl
theorem chunks_t (W L : Int) (w : World) (h : gOk W L = true) :
 Calls Tryz.prog 162 #[.agg #[.int .i64 W, .int .i64 L]] w fun e w' => e = .returned (.int .i64 (gN W L)) ∧ Below w.heap.size w w' := by
 have H := lh h
 clear h
 have hfd := field1
 go_enter Tryz.func162, Tryz.ntmps162
 go_wp2_with fail
 refine (table_t W L _ H.out).mono ?_
 rintro e w1 ⟨rfl, hb⟩
 go_wp2_with fail
 go_ret
 exact ⟨rfl, (bZ _ _).trans (hb.mono (by simp))⟩
def cFrom (W L i : Int) : Int := 10 + 73 * L + gN W L + i * 32
end Go.Proofs.YtkkbngcgphlikaaGreatDoor
end
section
namespace Go.Proofs.YtkkbngcgphlikaaGreatDoor
open Go.RowKit
def lOk (W L i : Int) : Bool := gOk W L && decide (0 ≤ i ∧ i < L)
theorem lOk_t {W L i : Int} (h : lOk W L i = true) : gOk W L = true ∧ 0 ≤ i ∧ i < L := by
 simp only [lOk, Bool.and_eq_true, decide_eq_true_eq] at h; exact h
def Cap (w : World) (b : Nat) (x : Value) : Prop := w.cell? ⟨b, 0, none⟩ = some x
end Go.Proofs.YtkkbngcgphlikaaGreatDoor
end
section
namespace Go.Proofs.YtkkbngcgphlikaaGreatDoor
open Go.RowKit
def pwI (i : Nat) : Int := ((2 ^ i : Nat) : Int)
theorem refPower10 (i : Nat) (w : World) (hi : i < 64) : Calls Tryz.prog 115 #[.int .i64 i] w fun e w' => e = .returned (.int .u64 (pwI i)) ∧ w = w' := by
 go_enter Tryz.func115, Tryz.ntmps115
 go_wp2
 go_loop [3, 4] (fun v k => ∃ j : Nat, j ≤ i ∧ k = .int .i64 j ∧ v = .int .u64 ((2 ^ j : Nat) : Int)) (fun _ k => 65 - (intOf k).toNat)
 case atStart => exact ⟨0, by omega, rfl, by simp⟩
 obtain ⟨j, hj, rfl, rfl⟩ := hrel
 have hp := pow_lt64 (k := j) (by omega)
 have hps : 2 * 2 ^ j = 2 ^ (j + 1) := by rw [Nat.pow_succ, Nat.mul_comm]
 by_cases hlt : (j : Int) < i
 ·have hp2 := pow_lt64 (k := j + 1) (by omega)
  rw [← hps] at hp2
  generalize hy : 2 ^ j = y at *
  have HD := lh hps
  clear hps hy
  go_wp2
  go_round
  case rel => exact ⟨j + 1, by omega, by go_num, by rw [← HD.out]; go_num⟩
  simp [intOf]; omega
 obtain rfl : j = i := by omega
 clear hps hp
 have HP : Hid (pwI j = ((2 ^ j : Nat) : Int)) := rfl
 generalize 2 ^ j = y at *
 go_wp2
 go_ret
 exact ⟨by rw [HP.out]; rfl, rfl⟩
end Go.Proofs.YtkkbngcgphlikaaGreatDoor
end
section
namespace Go.Proofs.YtkkbngcgphlikaaGreatDoor
open Go.RowKit Go.ChangeShapes Go.WideShapes Go.Deep
def inP (x : Pe) (n : Int) : Prop := 0 ≤ x.1 ∧ x.1 + (x.2.length : Int) ≤ n
instance (x : Pe) (n : Int) : Decidable (inP x n) := by unfold inP; infer_instance
end Go.Proofs.YtkkbngcgphlikaaGreatDoor
end
section
namespace Go.Proofs.YtkkbngcgphlikaaGreatDoor
open Go.RowKit Go.ChangeShapes Go.WideShapes Go.Deep
theorem refRight_any (a : Int) (A : Option Addr) (m cap : Nat) (w : World) : Calls Tryz.prog 135 #[.agg #[.int .i64 a, .slice A m cap]] w fun e w' => e = .returned (.bool (canB a m)) ∧ Below w.heap.size w w' := by
 unfold canB
 have hb0 : Below w.heap.size w (w.alloc (.cells #[.int .i64 a, .slice A m cap] (136 : Nat))) := bZ _ _
 by_cases k1 : 0 ≤ a
 rotate_left
 ·rw [decide_eq_false k1]
  replace k1 : a < 0 := by omega
  go_enter Tryz.func135, Tryz.ntmps135
  go_wp2_with fail
  go_ret
  exact ⟨ret_b (by simp; try omega), hb0⟩
 by_cases k2 : a < 65536
 rotate_left
 ·replace k2 : 65535 < a := by omega
  rw [decide_eq_true k1, decide_eq_false (show ¬ a < 65536 by omega)]
  go_enter Tryz.func135, Tryz.ntmps135
  go_wp2_with fail
  go_ret
  exact ⟨ret_b (by simp; try omega), hb0⟩
 replace k2 : a ≤ 65535 := by omega
 by_cases k3 : 0 < m
 rotate_left
 ·obtain rfl : m = 0 := by omega
  rw [decide_eq_true k1, decide_eq_true (show a < 65536 by omega), decide_eq_false (show ¬ (1 : Int) ≤ ((0 : Nat) : Int) by omega)]
  go_enter Tryz.func135, Tryz.ntmps135
  go_wp2_with fail
  go_ret
  exact ⟨ret_b (by simp; try omega), hb0⟩
 have k3' : (0 : Int) < (m : Int) := by omega
 by_cases k4 : m ≤ 4096
 ·have k4' : (m : Int) ≤ 4096 := by omega
  rw [decide_eq_true k1, decide_eq_true (show a < 65536 by omega), decide_eq_true (show (1 : Int) ≤ m by omega), decide_eq_true (show (m : Int) ≤ 4096 by omega)]
  go_enter Tryz.func135, Tryz.ntmps135
  go_wp2_with fail
  go_ret
  exact ⟨ret_b (by simp; try omega), hb0⟩
 have k4' : (4096 : Int) < (m : Int) := by omega
 rw [decide_eq_true k1, decide_eq_true (show a < 65536 by omega), decide_eq_true (show (1 : Int) ≤ m by omega), decide_eq_false (show ¬ (m : Int) ≤ 4096 by omega)]
 go_enter Tryz.func135, Tryz.ntmps135
 go_wp2_with fail
 go_ret
 exact ⟨ret_b (by simp; try omega), hb0⟩
theorem refEncode_no (gn : Int) (a : Int) (A : Option Addr) (m cap : Nat) (w : World) (hr : canB a m = false) :
 Calls Tryz.prog 80 #[.int .u64 gn, .agg #[.int .i64 a, .slice A m cap]] w fun e w' => e = .returned (.tuple #[.slice none 0 0, .int .i64 1]) ∧ Below w.heap.size w w' := by
 have hb0 : Below w.heap.size w (w.alloc (.cells #[.int .i64 a, .slice A m cap] (136 : Nat))) := bZ _ _
 have hC := lh (fun w => refRight_any a A m cap w)
 rw [hr] at hC
 clear hr
 go_enter Tryz.func80, Tryz.ntmps80
 go_wp2_with (go_at_call 135; refine (hC.out _).mono ?_; rintro e w1 ⟨rfl, hb⟩)
 go_ret2
 exact ⟨rfl, hb0.trans (hb.mono (by simp))⟩
theorem refEncode_yes (gn : Nat) (x : Ex) (w : World) (hg : gn < 18446744073709551616) (hx : KL .u64 w x.2.1 x.2.2) (hl : WL x.2.2) (hlen : x.2.2.length ≤ 800) (hr : rightB x = true) :
 Calls Tryz.prog 80 #[.int .u64 (gn : Nat), eV x] w fun e w' => ∃ v, e = .returned (.tuple #[v, .int .i64 0]) ∧ KL .u64 w' v (encW gn x.1.toNat x.2.2) ∧ Below w.heap.size w w' := by
 obtain ⟨a, v, l⟩ := x
 obtain ⟨A, cap, hv, _⟩ := hx.form rfl
 simp only [] at hv
 subst hv
 have hrr := canB_iff.1 hr
 simp only [] at hrr hlen hl
 obtain ⟨a, rfl⟩ := Int.eq_ofNat_of_zero_le hrr.1
 obtain ⟨i0, hi, hz0, hz1, hz2⟩ := info_parts infoU64
 have hb0 : Below w.heap.size w (w.alloc (.cells #[.int .i64 (a : Nat), .slice A l.length cap] (136 : Nat))) := bZ _ _
 have hC := refRight_any (a : Int) A l.length cap (w.alloc (.cells #[.int .i64 (a : Nat), .slice A l.length cap] (136 : Nat)))
 rw [show canB (a : Int) (l.length : Nat) = true from hr] at hC
 have kk := World.alloc_heap_new w (.cells #[.int .i64 (a : Nat), .slice A l.length cap] (136 : Nat))
 obtain ⟨n, hn⟩ : ∃ n, l.length = n := ⟨_, rfl⟩
 obtain ⟨f, hf⟩ : ∃ f, firstW gn a n = f := ⟨_, rfl⟩
 obtain ⟨q, hq⟩ : ∃ q, gn % 65536 = q := ⟨_, rfl⟩
 have hq2 : q < 65536 := by rw [← hq]; exact Nat.mod_lt _ (by decide)
 have hfl := firstW_lt gn a n (by omega) (by omega)
 have hE := lh (show encW gn ((a : Nat) : Int).toNat l = (f :: l) ++ [moreN 0 (f :: l)] from by unfold encW; rw [Int.toNat_natCast, hn, hf])
 have hWL : Hid (WL (f :: l)) := fun y hy => by
  rcases List.mem_cons.1 hy with rfl | hy
  ·rw [← hf]; exact hfl
  exact hl y hy
 have fa : IntKind.u64.wrap (a : Int) = (a : Int) := by rw [IntKind.wrap_u64]; omega
 have fn : IntKind.u64.wrap (n : Int) = (n : Int) := by rw [IntKind.wrap_u64]; omega
 have f1 : IntKind.u64.wrap (1048576 * (n : Int)) = 1048576 * (n : Int) := by rw [IntKind.wrap_u64]; omega
 have f2 : IntKind.u64.wrap ((a : Int) + 1048576 * (n : Int)) = (a : Int) + 1048576 * (n : Int) := by rw [IntKind.wrap_u64]; omega
 have fg : IntKind.u64.wrap (gn : Int) = (gn : Int) := by rw [IntKind.wrap_u64]; omega
 have f3 : (gn : Int) % 65536 = (q : Int) := by omega
 have f3' : (gn : Int).tmod 65536 = (q : Int) := by rw [Int.tmod_eq_emod_of_nonneg (by omega)]; omega
 have f4 : IntKind.u64.wrap (281474976710656 * (q : Int)) = 281474976710656 * (q : Int) := by rw [IntKind.wrap_u64]; omega
 have f5 : IntKind.u64.wrap ((a : Int) + 1048576 * (n : Int) + 281474976710656 * (q : Int)) = (f : Int) := by
  rw [IntKind.wrap_u64, ← hf]
  unfold firstW
  rw [hq]
  omega
 simp only [hn, eV, eE] at hC kk hb0 ⊢
 have hn800 : n ≤ 800 := by omega
 have hnh := lh hn
 have hxh : Hid (KL .u64 w (.slice A n cap) l) := by
  have q : KL .u64 w (.slice A l.length cap) l := hx
  rw [hn] at q
  exact q
 have hmn := moreN_lt 0 (f :: l)
 have fm : IntKind.u64.wrap ((moreN 0 (f :: l) : Nat) : Int) = ((moreN 0 (f :: l) : Nat) : Int) := by rw [IntKind.wrap_u64]; omega
 clear hx hr hrr hlen hl hn hf hfl hq
 go_enter Tryz.func80, Tryz.ntmps80
 go_wp2_with (first
  | (go_at_call 135; refine hC.mono ?_; rintro e w1 ⟨rfl, hb⟩; clear hC
     have hb1 := hb0.trans (hb.mono (by simp))
     have k0 : w1.heap[w.heap.size]? = some (.cells #[.int .i64 (a : Nat), .slice A n cap] (136 : Nat) (0, 0)) := (hb.block _ (by simp)).trans kk
     have hs1 : w.heap.size < w1.heap.size := (Array.getElem?_eq_some_iff.1 k0).1
     obtain ⟨p1, z1⟩ := row_cell k0 1
     obtain ⟨p0, z0⟩ := row_cell k0 0
     have hb2 : Below w1.heap.size w1 (w1.alloc (.cells #[.int .u64 (f : Nat)] (40 : Nat))) := bZ _ _
     have hO2 : OwnU (w1.alloc (.cells #[.int .u64 (f : Nat)] (40 : Nat))) w1.heap.size (.slice (some ⟨w1.heap.size, 0, none⟩) 1 1) [f] := World.ownsRow_lit (base := w1.heap.size) (e := 40) (size := 1) w1 #[.int .u64 (f : Nat)] 1 (Nat.le_refl _) (by unfold maxLen; omega) rfl
     obtain ⟨v4, w4, hr4, hO4, hb4⟩ := appW hO2 ((hxh.out.keep hb1).keep hb2) hb2.size (by simp) (by show l.length ≤ 1000000; rw [hnh.out]; omega)
     have hs1w : w.heap.size ≤ w1.heap.size := hb1.size
     have hb4w := lh (hb1.trans ((hb2.trans hb4).mono hb1.size))
     have hOf := refOf_any v4 (f :: l) w4 hWL.out (by rw [List.length_cons, hnh.out]; omega) hO4.kl.sl
     have hO4h := lh hO4
     have hs4 : w1.heap.size ≤ w4.heap.size := (hb2.trans hb4).size
     obtain ⟨A4, c4, hv4, _⟩ := hO4.form
     rw [show ([f] ++ l).length = n + 1 from by rw [List.length_append, hnh.out]; simp; omega] at hv4
     subst hv4
     clear hb hb0 kk hb1 hb2 hO2 hO4 hb4)
  | (at_builtin; refine wpList_append_run rfl _ _ 25 rfl _ _ _ rfl rfl hr4 ?_; clear hr4)
  | (go_at_call 87; refine hOf.mono ?_; rintro e w5 ⟨rfl, hb5⟩; clear hOf
     have hb6 : Below w5.heap.size w5 (w5.alloc (.cells #[.int .u64 ((moreN 0 (f :: l) : Nat) : Int)] (40 : Nat))) := bZ _ _
     obtain ⟨v7, w7, hr7, hO7, hb7⟩ := appW ((hO4h.out.keep hb5).keep hb6) (KL.one w5 (moreN 0 (f :: l)) 40) (Nat.le_trans hs4 (Nat.le_trans hb5.size hb6.size)) (by show ([f] ++ l).length ≤ 1000000; rw [List.length_append, hnh.out]; simp; omega) (by simp)
     have hK7 := lh hO7.kl
     have hb7w := lh (hb4w.out.trans ((hb5.mono hb4w.out.size).trans ((hb6.mono (Nat.le_trans hb4w.out.size hb5.size)).trans (hb7.mono hs1w))))
     obtain ⟨A7, c7, hv7, _⟩ := hO7.form
     rw [show ([f] ++ l ++ [moreN 0 (f :: l)]).length = n + 2 from by simp only [List.length_append, hnh.out, List.length_singleton]; omega] at hv7
     subst hv7
     clear hb5 hb6 hO7 hb7)
  | (at_builtin; refine wpList_append_run rfl _ _ 25 rfl _ _ _ rfl rfl hr7 ?_; clear hr7))
 go_ret2
 exact ⟨_, rfl, by rw [hE.out]; exact hK7.out, hb7w.out⟩
end Go.Proofs.YtkkbngcgphlikaaGreatDoor
end
section
namespace Go.Proofs.YtkkbngcgphlikaaGreatDoor
open Go.RowKit Go.ChangeShapes Go.WideShapes Go.Deep
theorem wp_append_run {P : Program} {w w' : World} {o : Oper} {a : Act} {K : Act → World → Prop} {Q : Exit → Act → World → Prop} (s x : Operand) (t u : TypeId)
 (hop : o.op = Op.call { callee := Callee.builtin Builtin.append, args := #[s, x], argTypes := #[t, u] }) (vs vx v : Value) (hs : a.eval s = vs) (hx : a.eval x = vx)
 (hrun : (Builtin.append_ #[t, u] o.type #[vs, vx]).run P w = .ok v w') (h : K (a.put o.dst v) w') : Oper.wp P o a w K Q := by
 unfold Oper.wp
 simp [execOp, hop, resolve, invoke, builtin, hs, hx, hrun, Result.andThen]
 exact h
theorem set_blk {w : World} {B o : Nat} {cs : Array Value} {t : TypeId} {v : Value} (h : w.heap[B]? = some (.cells cs t (0, 0))) : (w.setCell ⟨B, o, none⟩ v).heap[B]? = some (.cells (cs.setIfInBounds o v) t (0, 0)) := by
 obtain ⟨hlt, hk⟩ := Array.getElem?_eq_some_iff.1 h
 show (w.heap.modify B _)[B]? = _
 rw [Array.getElem?_eq_getElem (by rw [Array.size_modify]; exact hlt), Array.getElem_modify_self, hk]
 rfl
end Go.Proofs.YtkkbngcgphlikaaGreatDoor
end
