/-
  Part of the proof of JournalUndo.
-/
import Derived.Test.YtkkbngcgphlikaaGreatDoorJu14
import Derived.Test.YtkkbngcgphlikaaGreatDoorJu15
import Derived.Test.YtkkbngcgphlikaaGreatDoorJu0
set_option maxRecDepth 100000
set_option maxHeartbeats 4000000
set_option linter.unusedVariables false
set_option linter.unusedSimpArgs false
section
namespace Go.Proofs.YtkkbngcgphlikaaGreatDoor
open Go.RowKit Go.Shelf
attribute [local go_sem] Oper.semAt_some
def imgAt (I : List Nat) (y : Int) : Nat := if 0 ≤ y then I.getD y.toNat 0 else 0
def gathL (I : List Nat) (L : List Sp) : List Nat := (placesL L).map (imgAt I)
theorem imgAt_neg (I : List Nat) (y : Int) (h : y < 0) : imgAt I y = 0 := if_neg (by omega)
theorem imgAt_nat (I : List Nat) (i : Nat) : imgAt I (i : Int) = I.getD i 0 := by unfold imgAt; rw [if_pos (by omega)]; rfl
theorem imgAt_far (I : List Nat) (y : Int) (h : (I.length : Int) ≤ y) : imgAt I y = 0 := by
 unfold imgAt; rw [if_pos (by omega), List.getD_eq_getElem?_getD, List.getElem?_eq_none (by omega)]; rfl
theorem placesL_len : ∀ (L : List Sp), PBs L → (placesL L).length = (totS L).toNat ∧ 0 ≤ totS L
 | [], _ => by simp [placesL, totS_nil]
 | x :: l, h => by
   have hx := h x (by simp)
   obtain ⟨h1, h2⟩ := placesL_len l (fun y hy => h y (by simp [hy]))
   have e : placesL (x :: l) = pwL x x.2.toNat ++ placesL l := rfl
   have e2 : (pwL x x.2.toNat).length = x.2.toNat := by simp [pwL]
   obtain ⟨_, k1, _, _⟩ := hx
   rw [e, List.length_append, e2, h1, totS_cons]
   omega
theorem totS_le : ∀ (L : List Sp), PBs L → totS L ≤ 1000 * (L.length : Int)
 | [], _ => by simp [totS_nil]
 | x :: l, h => by
   obtain ⟨_, _, k3, _⟩ := h x (by simp)
   have := totS_le l (fun y hy => h y (by simp [hy]))
   rw [totS_cons, List.length_cons]; omega
theorem kp_body_pc {n₀ Bo Bi : Nat} {W w1 : World} {v v' : Value} {o : Obj} {t : TypeId} (hc : Boxed W Bo t v) (hn : n₀ ≤ Bo) (hb : ∀ g, v.ownBlock = some g → n₀ ≤ g) (hg : (W.alloc o).grownBy w1 v.ownBlock) (hl : v'.ownBlock = v.ownBlock ∨ v'.ownBlock = some (W.alloc o).heap.size) (hne : some Bo ≠ v.ownBlock)
 (hlt : ∀ g, v'.ownBlock = some g → g < w1.heap.size) : Kp_pc n₀ Bo Bi W (w1.setCell ⟨Bo, 0, none⟩ v') := by
 have hY : Boxed (w1.setCell ⟨Bo, 0, none⟩ v') Bo t v' := ((hc.alloc o).kept hg hne).set v'
 have hs := hg.size
 simp only [World.size_alloc] at hs
 have hcl := hc.lt
 refine ⟨(((Below.refl _ _).alloc (by omega) _).grown hg (by simp; omega) (fun j hj => hb j hj)).setCell hn _, fun b cs tt f hbk hbn _ ho => ?_, fun b hbl q => ?_, fun _ => ownLt_of hY (fun b q => by have := hlt b q; simpa using this)⟩
 ·have hbl := (Array.getElem?_eq_some_iff.1 hbk).1
  rw [Below.heap_setCell w1 ⟨Bo, 0, none⟩ v' b hbn, hg.block b (by simp; omega) (fun q => ho ((ownAt_iff hc).2 q.symm)), Below.heap_alloc W o b hbl]
 have q1 := (ownAt_iff hY).1 q
 rcases hl with hl | hl
 ·exact (ownAt_iff hc).2 (hl ▸ q1)
 rw [hl] at q1
 simp at q1; omega
theorem boxed_far {W w1 : World} {B B2 base e k size : Nat} {t t2 : TypeId} {u v v' : Value} {o : Obj} {xs : List Value} (h : Boxed W B2 t2 u) (hne : B2 ≠ B) (hv : Boxed W B t v) (hr : W.ownsRow base e size v k xs) (hg : (W.alloc o).grownBy w1 v.ownBlock) (hte : t2 ≠ e := by decide) : Boxed (w1.setCell ⟨B, 0, none⟩ v') B2 t2 u :=
 ((h.alloc o).kept hg (h.not_row hte hr)).other hne v'
theorem gather_any_in (n : Nat) (hn : 3 ≤ n) (AI A : Option Addr) (NI capI N cap : Nat) (I : List Nat) (L : List Sp) (w : World) (hI : I.length = NI) (hL : PBs L) (hlen : L.length = N) (hN : N ≤ 1000)
 (hCI : ∀ w1 i, Below w.heap.size w w1 → i < NI → ∃ g off, AI = some ⟨g, off, none⟩ ∧ NI ≤ capI ∧ g < w1.heap.size ∧ w1.cell? ⟨g, off + i, none⟩ = some (.int .u64 (I.getD i 0 : Nat)))
 (hC : ∀ w1 i, Below w.heap.size w w1 → i < N → ∃ g off, A = some ⟨g, off, none⟩ ∧ N ≤ cap ∧ g < w1.heap.size ∧ w1.cell? ⟨g, off + i * 2, none⟩ = some (.int .i64 (L.getD i (0, 0)).1) ∧ w1.cell? ⟨g, off + i * 2 + 1, none⟩ = some (.int .i64 (L.getD i (0, 0)).2)) :
 CallsIn Fence.wide n Tryz.prog 94 #[.slice AI NI capI, .slice A N cap] w fun e W' => ∃ v, e = .returned v ∧ W'.ownsRow w.heap.size 40 1 v (gathL I L).length ((gathL I L).map fun x : Nat => Value.int .u64 x) ∧ Below w.heap.size w W' := by
 have hn1 : 1 ≤ n := by omega
 refine callsIn_of_wp_marks Tryz.func94 rfl trivial ?_ rfl
 simp only [Tryz.ntmps94, List.size_toArray, List.length_cons, List.length_nil, Nat.reduceAdd, Nat.reduceSub, Array.replicate_succ, Array.replicate_zero, List.push_toArray, List.append_toArray, List.nil_append, List.cons_append]
 gi_wp2
 refine ⟨trivial, (places_in (n - 1) A N cap _).mono ?_⟩
 rintro e w' ⟨rfl, rfl⟩
 gi_wp2
 obtain ⟨i0, hi, hz0, hz1, hz2⟩ := info_parts infoU64
 have bI := ((Boxed.new w 25 (.slice AI NI capI)).alloc (.cells #[.slice none 0 0] 25)).alloc (.cells #[.slice A N cap] 49)
 have bO := (Boxed.new (w.alloc (.cells #[.slice AI NI capI] 25)) 25 (.slice none 0 0)).alloc (.cells #[.slice A N cap] 49)
 have bL := Boxed.new ((w.alloc (.cells #[.slice AI NI capI] 25)).alloc (.cells #[.slice none 0 0] 25)) 49 (.slice A N cap)
 have hB0 : Below w.heap.size w (((w.alloc (.cells #[.slice AI NI capI] 25)).alloc (.cells #[.slice none 0 0] 25)).alloc (.cells #[.slice A N cap] 49)) := ((bZ w _).alloc (by simp) _).alloc (by simp; omega) _
 have hsz : ((((w.alloc (.cells #[.slice AI NI capI] 25)).alloc (.cells #[.slice none 0 0] 25)).alloc (.cells #[.slice A N cap] 49))).heap.size = w.heap.size + 3 := by simp
 simp only [World.size_alloc] at bO bL
 obtain ⟨W0, hW0⟩ : ∃ W0, W0 = ((((w.alloc (.cells #[.slice AI NI capI] 25)).alloc (.cells #[.slice none 0 0] 25)).alloc (.cells #[.slice A N cap] 49)) : World) := ⟨_, rfl⟩
 rw [← hW0] at bO bL bI hB0 hsz ⊢
 clear hW0
 have hml : (placesL L).length ≤ 1000000 := by
  have h1 := (placesL_len L hL).1
  have h2 := totS_le L hL
  omega
 replace hCI := lh hCI
 refine wpIn_rangeFunc_ownG rfl hn1 (gf := 174) (lb := #[.pointer (some ⟨w.heap.size + 1 + 1, 0, none⟩)]) rfl trivial (enters_of Tryz.func174 (by kernel_rfl) rfl)
  (pl_stops (n - 1) (by omega) (w.heap.size + 1) (w.heap.size + 1) (w.heap.size + 1 + 1) w.heap.size N cap A L hL hlen hN W0 (by omega) (by omega) (ownLt_of bO (by simp [Value.ownBlock])) bL.cell (by omega) (by omega) (fun w1 i hb => hC w1 i (hB0.trans hb)))
  kp_t_pc (kp_b_pc (by omega) (by omega)) (Below.refl _ _) (fun _ => rfl)
  (fun pre W => ((∃ v, Boxed W (w.heap.size + 1) 25 v ∧ W.ownsRow w.heap.size 40 1 v (pre : List Int).length (pre.map fun y : Int => Value.int .u64 (imgAt I y : Nat)) ∧ True) ∧ Boxed W w.heap.size 25 (.slice AI NI capI)) ∧ Below w.heap.size w W)
  (fun _ _ _ => False)
  (OwnFrom.and (OwnFrom.and (Own.from (holdsRow_own w.heap.size (w.heap.size + 1) 25 40 1 (fun pre : List Int => pre.length) (fun pre => pre.map fun y : Int => Value.int .u64 (imgAt I y : Nat)) (fun pre v => True)) _) (Own.from (boxed_own w.heap.size 25 (fun (_ : List Int) => Value.slice AI NI capI)) _)) (ownFrom_below (Nat.le_refl _) (by omega)))
  (fun _ _ _ _ _ hs _ _ => hs)
  ⟨⟨⟨_, bO, World.ownsRow_nil _ _ _ _, trivial⟩, bI⟩, hB0⟩
  (fun y => { tmps := #[.slice AI NI capI, .slice A N cap, .pointer (some ⟨w.heap.size, 0, none⟩), undef, .slice none 0 0, .pointer (some ⟨w.heap.size + 1, 0, none⟩), .int .i64 y, undef, .slice A N cap, .func (.func 174) #[] #[.pointer (some ⟨w.heap.size + 1 + 1, 0, none⟩)], .int .i64 y, undef, undef, undef, undef, undef, undef, undef, undef, undef, undef, undef, undef, undef, undef, undef, undef, undef], defers := [] }) ?assign ?body ?done ?stop
 case assign =>
  intro l y W K hK
  gi_wp2
  simpa using hK
 case body =>
  rintro l pre y W ⟨⟨⟨v, hv, hrow, _⟩, hbI⟩, hB⟩ hlt
  have hc := hv.cell
  have hcI := hbI.cell
  have hpl : pre.length < 1000000 := by omega
  have hne := hv.not_row (e := 40) (by decide) hrow
  by_cases k1 : 0 ≤ y
  rotate_left
  ·have k2 : y < 0 := by omega
   have hadd := lh (show (pre ++ [y]).map (fun y : Int => Value.int .u64 (imgAt I y : Nat)) = pre.map (fun y : Int => Value.int .u64 (imgAt I y : Nat)) ++ [.int .u64 ((0 : Nat) : Int)] from by rw [List.map_append, List.map_singleton, imgAt_neg I y k2])
   obtain ⟨v', w1, hrun, hown', hgrow, hl2⟩ := appU (w := W.alloc (.cells #[.int .u64 (0 : Nat)] (40 : Nat))) (y := (0 : Nat)) (base := w.heap.size) (hrow.alloc _) (cell_new1 W _ _) (by have := hB.size; simp; omega) (by omega)
   obtain ⟨g', cap', rfl⟩ := ownsRow_succ hown'
   obtain ⟨hv1, hv2, hr2, hk2, hb2⟩ := hv.appended (by decide) hrow hB.size (by omega) hown' hgrow
   have hkp := kp_body_pc (n₀ := w.heap.size) (Bi := w.heap.size + 1) hv (by omega) (fun g q => (hrow.lt g q).1) hgrow hl2 hne (fun g q => (hown'.lt g q).2)
   have hbI2 := boxed_far hbI (show w.heap.size ≠ w.heap.size + 1 by omega) hv hrow hgrow (v' := .slice (some ⟨g', 0, none⟩) (pre.length + 1) cap')
   have hc1 := hv1.cell
   have hf1 := hv1.frozen
   clear hgrow hown'
   gi_wp2_with (gi_at_builtin; refine wpListIn_append_run rfl _ _ 25 rfl _ _ _ rfl rfl hrun ?_)
   have hr3 : World.ownsRow (w1.setCell ⟨w.heap.size + 1, 0, none⟩ (.slice (some ⟨g', 0, none⟩) (pre.length + 1) cap')) w.heap.size 40 1 (.slice (some ⟨g', 0, none⟩) (pre.length + 1) cap') (pre ++ [y]).length ((pre ++ [y]).map fun y : Int => Value.int .u64 (imgAt I y : Nat)) := by rw [hadd.out, List.length_append]; first | done | exact hr2
   first | exact ⟨hk2.from _, hkp, ⟨⟨_, hv2, hr3, trivial⟩, hbI2⟩, hB.trans hb2⟩ | exact ⟨hk2.from _, hkp, ⟨⟨_, hv2, hr3⟩, hbI2⟩, hB.trans hb2⟩
  obtain ⟨i, rfl⟩ := Int.eq_ofNat_of_zero_le k1
  by_cases k2 : i < NI
  ·obtain ⟨g, off, rfl, hcap, hg, c0⟩ := hCI.out W i hB k2
   have hadd := lh (show (pre ++ [(i : Int)]).map (fun y : Int => Value.int .u64 (imgAt I y : Nat)) = pre.map (fun y : Int => Value.int .u64 (imgAt I y : Nat)) ++ [.int .u64 (I.getD i 0 : Nat)] from by rw [List.map_append, List.map_singleton, imgAt_nat])
   generalize I.getD i 0 = x at *
   obtain ⟨v', w1, hrun, hown', hgrow, hl2⟩ := appU (w := W.alloc (.cells #[.int .u64 (x : Nat)] (40 : Nat))) (y := (x : Nat)) (base := w.heap.size) (hrow.alloc _) (cell_new1 W _ _) (by have := hB.size; simp; omega) (by omega)
   obtain ⟨g', cap', rfl⟩ := ownsRow_succ hown'
   obtain ⟨hv1, hv2, hr2, hk2, hb2⟩ := hv.appended (by decide) hrow hB.size (by omega) hown' hgrow
   have hkp := kp_body_pc (n₀ := w.heap.size) (Bi := w.heap.size + 1) hv (by omega) (fun g q => (hrow.lt g q).1) hgrow hl2 hne (fun g q => (hown'.lt g q).2)
   have hbI2 := boxed_far hbI (show w.heap.size ≠ w.heap.size + 1 by omega) hv hrow hgrow (v' := .slice (some ⟨g', 0, none⟩) (pre.length + 1) cap')
   have hc1 := hv1.cell
   have hf1 := hv1.frozen
   clear hgrow hown'
   gi_wp2_with (gi_at_builtin; refine wpListIn_append_run rfl _ _ 25 rfl _ _ _ rfl rfl hrun ?_)
   have hr3 : World.ownsRow (w1.setCell ⟨w.heap.size + 1, 0, none⟩ (.slice (some ⟨g', 0, none⟩) (pre.length + 1) cap')) w.heap.size 40 1 (.slice (some ⟨g', 0, none⟩) (pre.length + 1) cap') (pre ++ [(i : Int)]).length ((pre ++ [(i : Int)]).map fun y : Int => Value.int .u64 (imgAt I y : Nat)) := by rw [hadd.out, List.length_append]; first | done | exact hr2
   first | exact ⟨hk2.from _, hkp, ⟨⟨_, hv2, hr3, trivial⟩, hbI2⟩, hB.trans hb2⟩ | exact ⟨hk2.from _, hkp, ⟨⟨_, hv2, hr3⟩, hbI2⟩, hB.trans hb2⟩
  have k3 : (NI : Int) ≤ (i : Int) := by omega
  have hadd := lh (show (pre ++ [(i : Int)]).map (fun y : Int => Value.int .u64 (imgAt I y : Nat)) = pre.map (fun y : Int => Value.int .u64 (imgAt I y : Nat)) ++ [.int .u64 ((0 : Nat) : Int)] from by rw [List.map_append, List.map_singleton, imgAt_far I i (by omega)])
  obtain ⟨v', w1, hrun, hown', hgrow, hl2⟩ := appU (w := W.alloc (.cells #[.int .u64 (0 : Nat)] (40 : Nat))) (y := (0 : Nat)) (base := w.heap.size) (hrow.alloc _) (cell_new1 W _ _) (by have := hB.size; simp; omega) (by omega)
  obtain ⟨g', cap', rfl⟩ := ownsRow_succ hown'
  obtain ⟨hv1, hv2, hr2, hk2, hb2⟩ := hv.appended (by decide) hrow hB.size (by omega) hown' hgrow
  have hkp := kp_body_pc (n₀ := w.heap.size) (Bi := w.heap.size + 1) hv (by omega) (fun g q => (hrow.lt g q).1) hgrow hl2 hne (fun g q => (hown'.lt g q).2)
  have hbI2 := boxed_far hbI (show w.heap.size ≠ w.heap.size + 1 by omega) hv hrow hgrow (v' := .slice (some ⟨g', 0, none⟩) (pre.length + 1) cap')
  have hc1 := hv1.cell
  have hf1 := hv1.frozen
  clear hgrow hown'
  gi_wp2_with (gi_at_builtin; refine wpListIn_append_run rfl _ _ 25 rfl _ _ _ rfl rfl hrun ?_)
  have hr3 : World.ownsRow (w1.setCell ⟨w.heap.size + 1, 0, none⟩ (.slice (some ⟨g', 0, none⟩) (pre.length + 1) cap')) w.heap.size 40 1 (.slice (some ⟨g', 0, none⟩) (pre.length + 1) cap') (pre ++ [(i : Int)]).length ((pre ++ [(i : Int)]).map fun y : Int => Value.int .u64 (imgAt I y : Nat)) := by rw [hadd.out, List.length_append]; first | done | exact hr2
  first | exact ⟨hk2.from _, hkp, ⟨⟨_, hv2, hr3, trivial⟩, hbI2⟩, hB.trans hb2⟩ | exact ⟨hk2.from _, hkp, ⟨⟨_, hv2, hr3⟩, hbI2⟩, hB.trans hb2⟩
 case done =>
  rintro D ys W hD rfl ⟨⟨⟨v, hv, hrow, _⟩, hbI⟩, hB⟩ hK
  have hc := hv.cell
  gi_wp2
  refine ⟨by simp, .inl ⟨_, _, rfl, run_takeDeferred hK, ?_⟩⟩
  refine ⟨_, results_tmp rfl _ _ _, v, rfl, ?_, hB.trans (belowK_b (w := w) (Nat.le_refl _) W D _ _ (by omega) hK rfl rfl)⟩
  have := ownsRow_putObj hrow (.deferred none) hK rfl
  simpa [gathL, List.map_map, Function.comp_def] using this
 rintro D c pre W _ _ h _
 exact h.elim
theorem gather_any (v u : Value) (I : List Nat) (L : List Sp) (w : World) (hL : PBs L) (hlen : L.length ≤ 1000) (hv : KL .u64 w v I) (hu : PL w u L) :
 Calls Tryz.prog 94 #[v, u] w fun e w' => ∃ v', e = .returned v' ∧ OwnU w' w.heap.size v' (gathL I L) ∧ Below w.heap.size w w' := by
 obtain ⟨AI, capI, rfl, hCI⟩ := hv.form rfl
 obtain ⟨A, cap, rfl, hC⟩ := hu.form rfl
 exact callsIn_wide.1 (gather_any_in 3 (by omega) AI A I.length capI L.length cap I L w rfl hL rfl hlen hCI hC)
end Go.Proofs.YtkkbngcgphlikaaGreatDoor
end
section
namespace Go.Proofs.YtkkbngcgphlikaaGreatDoor
open Go.RowKit
def FB (x : Sp) : Prop := 0 ≤ x.1 ∧ x.1 ≤ 1099511627776 ∧ 0 ≤ x.2 ∧ x.2 ≤ 40
instance (x : Sp) : Decidable (FB x) := by unfold FB; infer_instance
theorem PL.lit (w : World) (l : List Sp) (hl : l.length ≤ 1000) : PL (w.alloc (.cells (spv l).toArray (70 : Nat))) (.slice (some ⟨w.heap.size, 0, none⟩) l.length l.length) l := by
 have := World.ownsRow_lit (base := w.heap.size) (e := 70) (size := 2) w (spv l).toArray l.length (Nat.le_refl _) (by unfold maxLen; omega) (by simp [spv_len])
 exact OwnSp.pl (base := w.heap.size) this
end Go.Proofs.YtkkbngcgphlikaaGreatDoor
end
section
namespace Go.Proofs.YtkkbngcgphlikaaGreatDoor
open Go.RowKit
theorem infoInt : (Tryz.prog.info? 3).map (fun i => (i.zero, i.size, i.bytes)) = some (some (.int .i64 0), 1, 8) := by kernel_rfl
end Go.Proofs.YtkkbngcgphlikaaGreatDoor
end
section
namespace Go.Proofs.YtkkbngcgphlikaaGreatDoor
open Go.RowKit
theorem ret_ii {a b c d : Int} (h : a = b) (h' : c = d) : Ending.returned (.tuple #[.int .i64 a, .int .i64 c]) = .returned (.tuple #[.int .i64 b, .int .i64 d]) := by rw [h, h']
theorem ret_g {a b c d : Int} (h : a = b) (h' : c = d) : Ending.returned (.agg #[.int .i64 a, .int .i64 c]) = .returned (.agg #[.int .i64 b, .int .i64 d]) := by rw [h, h']
theorem field1 (x y : Int) (w : World) : (Instr.field 70 (.agg #[.int .i64 x, .int .i64 y]) 1).run Tryz.prog w = .ok (.int .i64 y) w := by kernel_rfl
theorem chunks_t (W L : Int) (w : World) (h : gOk W L = true) :
 Calls Tryz.prog 162 #[.agg #[.int .i64 W, .int .i64 L]] w fun e w' => e = .returned (.int .i64 (gN W L)) ∧ Below w.heap.size w w' := by
 have H := lh h
 clear h
 have hfd := field1
 go_enter Tryz.func162, Tryz.ntmps162
 go_wp2_with fail
 refine (table_t W L _ H.out).mono ?_
 rintro e w1 ⟨rfl, hb⟩
 go_wp2_with fail
 go_ret
 exact ⟨rfl, (bZ _ _).trans (hb.mono (by simp))⟩
def cFrom (W L i : Int) : Int := 10 + 73 * L + gN W L + i * 32
end Go.Proofs.YtkkbngcgphlikaaGreatDoor
end
section
namespace Go.Proofs.YtkkbngcgphlikaaGreatDoor
open Go.RowKit
def pwI (i : Nat) : Int := ((2 ^ i : Nat) : Int)
theorem refPower10 (i : Nat) (w : World) (hi : i < 64) : Calls Tryz.prog 115 #[.int .i64 i] w fun e w' => e = .returned (.int .u64 (pwI i)) ∧ w = w' := by
 go_enter Tryz.func115, Tryz.ntmps115
 go_wp2
 go_loop [3, 4] (fun v k => ∃ j : Nat, j ≤ i ∧ k = .int .i64 j ∧ v = .int .u64 ((2 ^ j : Nat) : Int)) (fun _ k => 65 - (intOf k).toNat)
 case atStart => exact ⟨0, by omega, rfl, by simp⟩
 obtain ⟨j, hj, rfl, rfl⟩ := hrel
 have hp := pow_lt64 (k := j) (by omega)
 have hps : 2 * 2 ^ j = 2 ^ (j + 1) := by rw [Nat.pow_succ, Nat.mul_comm]
 by_cases hlt : (j : Int) < i
 ·have hp2 := pow_lt64 (k := j + 1) (by omega)
  rw [← hps] at hp2
  generalize hy : 2 ^ j = y at *
  have HD := lh hps
  clear hps hy
  go_wp2
  go_round
  case rel => exact ⟨j + 1, by omega, by go_num, by rw [← HD.out]; go_num⟩
  simp [intOf]; omega
 obtain rfl : j = i := by omega
 clear hps hp
 have HP : Hid (pwI j = ((2 ^ j : Nat) : Int)) := rfl
 generalize 2 ^ j = y at *
 go_wp2
 go_ret
 exact ⟨by rw [HP.out]; rfl, rfl⟩
end Go.Proofs.YtkkbngcgphlikaaGreatDoor
end
section
namespace Go.Proofs.YtkkbngcgphlikaaGreatDoor
open Go.RowKit Go.ChangeShapes Go.WideShapes Go.Deep Go.Shelf
attribute [local go_sem] Oper.semAt_some
theorem OwnU.walk {w w1 : World} {base : Nat} {v : Value} {l : List Nat} {row : Option Nat} (h : OwnU w base v l) (hg : w.grownBy w1 row) (hr : ∀ r, row = some r → ∃ o : Obj, w.heap[r]? = some o ∧ o.isCells = false) : OwnU w1 base v l := by
 refine World.ownsRow.kept h hg ?_
 rcases h.2 with ⟨rfl, _⟩ | ⟨g, cap, cur, rfl, _, hgb, _⟩
 ·exact .inl rfl
 refine .inr fun e' => ?_
 obtain ⟨o, ho, hc⟩ := hr g (by simpa [Value.ownBlock] using e'.symm)
 rw [hgb] at ho; cases ho; cases hc
end Go.Proofs.YtkkbngcgphlikaaGreatDoor
end
section
namespace Go.Proofs.YtkkbngcgphlikaaGreatDoor
open Go.RowKit Go.ChangeShapes Go.WideShapes Go.Deep
def inP (x : Pe) (n : Int) : Prop := 0 ≤ x.1 ∧ x.1 + (x.2.length : Int) ≤ n
instance (x : Pe) (n : Int) : Decidable (inP x n) := by unfold inP; infer_instance
end Go.Proofs.YtkkbngcgphlikaaGreatDoor
end
section
namespace Go.Proofs.YtkkbngcgphlikaaGreatDoor
open Go.RowKit Go.ChangeShapes Go.WideShapes Go.Deep
theorem wp_append_run {P : Program} {w w' : World} {o : Oper} {a : Act} {K : Act → World → Prop} {Q : Exit → Act → World → Prop} (s x : Operand) (t u : TypeId)
 (hop : o.op = Op.call { callee := Callee.builtin Builtin.append, args := #[s, x], argTypes := #[t, u] }) (vs vx v : Value) (hs : a.eval s = vs) (hx : a.eval x = vx)
 (hrun : (Builtin.append_ #[t, u] o.type #[vs, vx]).run P w = .ok v w') (h : K (a.put o.dst v) w') : Oper.wp P o a w K Q := by
 unfold Oper.wp
 simp [execOp, hop, resolve, invoke, builtin, hs, hx, hrun, Result.andThen]
 exact h
theorem set_blk {w : World} {B o : Nat} {cs : Array Value} {t : TypeId} {v : Value} (h : w.heap[B]? = some (.cells cs t (0, 0))) : (w.setCell ⟨B, o, none⟩ v).heap[B]? = some (.cells (cs.setIfInBounds o v) t (0, 0)) := by
 obtain ⟨hlt, hk⟩ := Array.getElem?_eq_some_iff.1 h
 show (w.heap.modify B _)[B]? = _
 rw [Array.getElem?_eq_getElem (by rw [Array.size_modify]; exact hlt), Array.getElem_modify_self, hk]
 rfl
theorem run_slice_mid {P : Program} {ty e : TypeId} {i0 : TypeInfo} {sz : Nat} (hu : P.underlying ty = some (.slice e)) (hi : P.info? e = some i0) (hs : i0.size = sz) (A : Option Addr) (n cap t u : Nat) (h : t ≤ u) (h2 : u ≤ cap) (w : World) :
 (Instr.slice ty (.slice A n cap) (some (.int .i64 (t : Int))) (some (.int .i64 (u : Int))) none).run P w = .ok (.slice (if cap = t then A else A.map (·.add (t * sz))) (u - t) (cap - t)) w := by
 subst hs
 have h1 : (t : Int) ≤ (u : Int) := by omega
 have h3 : (u : Int) ≤ (cap : Int) := by omega
 have h4 : (0 : Int) ≤ (t : Int) := by omega
 have h5 : (0 : Int) ≤ (u : Int) := by omega
 simp [Instr.slice, run_underlying hu, Instr.sliceBounds, Instr.sliceBound, asIntOf, sizeOf, typeInfo, hi, h4, h5, h3, h1, h, h2, go_sem]
end Go.Proofs.YtkkbngcgphlikaaGreatDoor
end
