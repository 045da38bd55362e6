/-
  What package piece's call Gather answers.
-/
import Derived.Test.YtddfhgdejlkdgaaPc6
set_option linter.unusedVariables false
namespace Go.Proofs.Ytddfhgdejlkdgaa
open Go.RowKit Go.Shelf
attribute [local go_sem] Oper.semAt_some

def imgAt (I : List Nat) (y : Int) : Nat := if 0 ≤ y then I.getD y.toNat 0 else 0
def gathL (I : List Nat) (L : List Sp) : List Nat := (placesL L).map (imgAt I)
theorem imgAt_neg (I : List Nat) (y : Int) (h : y < 0) : imgAt I y = 0 := if_neg (by omega)
theorem imgAt_nat (I : List Nat) (i : Nat) : imgAt I (i : Int) = I.getD i 0 := by unfold imgAt; rw [if_pos (by omega)]; rfl
theorem imgAt_far (I : List Nat) (y : Int) (h : (I.length : Int) ≤ y) : imgAt I y = 0 := by
  unfold imgAt; rw [if_pos (by omega), List.getD_eq_getElem?_getD, List.getElem?_eq_none (by omega)]; rfl
theorem placesL_len : ∀ (L : List Sp), PBs L → (placesL L).length = (totS L).toNat ∧ 0 ≤ totS L
  | [], _ => by simp [placesL, totS_nil]
  | x :: l, h => by
    have hx := h x (by simp)
    obtain ⟨h1, h2⟩ := placesL_len l (fun y hy => h y (by simp [hy]))
    have e : placesL (x :: l) = pwL x x.2.toNat ++ placesL l := rfl
    have e2 : (pwL x x.2.toNat).length = x.2.toNat := by simp [pwL]
    obtain ⟨_, k1, _, _⟩ := hx
    rw [e, List.length_append, e2, h1, totS_cons]
    omega
theorem totS_le : ∀ (L : List Sp), PBs L → totS L ≤ 1000 * (L.length : Int)
  | [], _ => by simp [totS_nil]
  | x :: l, h => by
    obtain ⟨_, _, k3, _⟩ := h x (by simp)
    have := totS_le l (fun y hy => h y (by simp [hy]))
    rw [totS_cons, List.length_cons]; omega
theorem ownLt_of {w : World} {Bo : Nat} {v : Value} {t : TypeId} (h : Boxed w Bo t v) (hv : ∀ b, v.ownBlock = some b → b < w.heap.size) : OwnLt w Bo := fun b ⟨u, hu, ho⟩ => by
  rw [h.cell] at hu; cases hu; exact hv b ho
theorem ownAt_iff {w : World} {Bo b : Nat} {v : Value} {t : TypeId} (h : Boxed w Bo t v) : OwnAt w Bo b ↔ v.ownBlock = some b :=
  ⟨fun ⟨u, hu, ho⟩ => by rw [h.cell] at hu; cases hu; exact ho, fun q => ⟨v, h.cell, q⟩⟩
theorem kp_body {n₀ Bo Bi : Nat} {W w1 : World} {v v' : Value} {o : Obj} {t : TypeId} (hc : Boxed W Bo t v) (hn : n₀ ≤ Bo) (hb : ∀ g, v.ownBlock = some g → n₀ ≤ g) (hg : (W.alloc o).grownBy w1 v.ownBlock) (hl : v'.ownBlock = v.ownBlock ∨ v'.ownBlock = some (W.alloc o).heap.size) (hne : some Bo ≠ v.ownBlock)
    (hlt : ∀ g, v'.ownBlock = some g → g < w1.heap.size) : Kp n₀ Bo Bi W (w1.setCell ⟨Bo, 0, none⟩ v') := by
  have hY : Boxed (w1.setCell ⟨Bo, 0, none⟩ v') Bo t v' := ((hc.alloc o).kept hg hne).set v'
  have hs := hg.size
  simp only [World.size_alloc] at hs
  have hcl := hc.lt
  refine ⟨(((Below.refl _ _).alloc (by omega) _).grown hg (by simp; omega) (fun j hj => hb j hj)).setCell hn _, fun b cs tt f hbk hbn _ ho => ?_, fun b hbl q => ?_, fun _ => ownLt_of hY (fun b q => by have := hlt b q; simpa using this)⟩
  · have hbl := (Array.getElem?_eq_some_iff.1 hbk).1
    rw [Below.heap_setCell w1 ⟨Bo, 0, none⟩ v' b hbn, hg.block b (by simp; omega) (fun q => ho ((ownAt_iff hc).2 q.symm)), Below.heap_alloc W o b hbl]
  · have q1 := (ownAt_iff hY).1 q
    rcases hl with hl | hl
    · exact (ownAt_iff hc).2 (hl ▸ q1)
    · rw [hl] at q1
      simp at q1; omega
/-- another variable, behind an append onto a row that a variable holds -/
theorem boxed_far {W w1 : World} {B B2 base e k size : Nat} {t t2 : TypeId} {u v v' : Value} {o : Obj} {xs : List Value} (h : Boxed W B2 t2 u) (hne : B2 ≠ B) (hv : Boxed W B t v) (hr : W.ownsRow base e size v k xs) (hg : (W.alloc o).grownBy w1 v.ownBlock) (hte : t2 ≠ e := by decide) : Boxed (w1.setCell ⟨B, 0, none⟩ v') B2 t2 u :=
  ((h.alloc o).kept hg (h.not_row hte hr)).other hne v'
theorem infoU64 : (Try.prog.info? 43).map (fun i => (i.zero, i.size, i.bytes)) = some (some (.int .u64 0), 1, 8) := by kernel_rfl

theorem cell_new1 (W : World) (v : Value) (t : TypeId) : (W.alloc (.cells #[v] t)).cell? ⟨W.heap.size, 0, none⟩ = some v := by simp [go_sem]
theorem appU {w : World} {base g k y : Nat} {v : Value} {xs : List Value} (hown : w.ownsRow base 43 1 v k xs) (hx : w.cell? ⟨g, 0, none⟩ = some (.int .u64 y)) (hb : base ≤ w.heap.size) (hsm : k ≤ 1000000) :
    ∃ v' w', (Builtin.append_ #[34, 34] 34 #[v, .slice (some ⟨g, 0, none⟩) 1 1]).run Try.prog w = .ok v' w' ∧ w'.ownsRow base 43 1 v' (k + 1) (xs ++ [.int .u64 y]) ∧ w.grownBy w' v.ownBlock ∧ (v'.ownBlock = v.ownBlock ∨ v'.ownBlock = some w.heap.size) := by
  obtain ⟨i0, hi, hz0, hz1, hz2⟩ := info_parts infoU64
  obtain ⟨v', w', hrun, h1, h2, _, h4⟩ := run_append_own_at (P := Try.prog) w base 34 34 43 i0 (.int .u64 0) 1 8 Try.underlying34 hi hz0 hz1 hz2 rfl (by decide) v k xs hown ⟨g, 0, none⟩ 1 1 [.int .u64 y] rfl
    (fun j u hj => by
      match j, hj with
      | 0, hj => simp only [List.getElem?_cons_zero] at hj; rw [← hj]; simpa [Addr.add] using hx
      | j + 1, hj => simp at hj) (by simp [Value.oneCell']) (by unfold maxLen; omega) (by omega) hb
  exact ⟨v', w', hrun, h1, h2, h4⟩
theorem wpListIn_append_run {F : Fence} {n : Nat} {P : Program} {w w' : World} {ops : Array Oper} {rest : List Oper} {o : Oper} {a : Act} {Q : Exit → Act → World → Prop} (hg : o.guard = none) (s x : Operand) (t : TypeId)
    (hop : o.op = Op.call { callee := Callee.builtin Builtin.append, args := #[s, x], argTypes := #[t, t] }) (vs vx v : Value) (hs : a.eval s = vs) (hx : a.eval x = vx)
    (hrun : (Builtin.append_ #[t, t] o.type #[vs, vx]).run P w = .ok v w') (h : wpListIn F n P ops Q rest (a.put o.dst v) w') : wpListIn F n P ops Q (o :: rest) a w := by
  refine wpListIn_plain hg fun K hK' => ?_
  unfold Oper.wpIn
  refine ⟨?_, ?_⟩
  · simp [Oper.about, hop, resolve, Target.leads, Sem.run_pure]
  · rw [Oper.semAt_plain F _ _ (by rw [hop]; intro c hc'; cases hc')]
    simp [execOp, hop, resolve, invoke, builtin, hs, hx, hrun, Result.andThen]
    exact hK' _ _ h

set_option maxRecDepth 100000 in
set_option maxHeartbeats 4000000 in
theorem gather_any_in (n : Nat) (hn : 3 ≤ n) (AI A : Option Addr) (NI capI N cap : Nat) (I : List Nat) (L : List Sp) (w : World) (hI : I.length = NI) (hL : PBs L) (hlen : L.length = N) (hN : N ≤ 1000)
    (hCI : ∀ w1 i, Below w.heap.size w w1 → i < NI → ∃ g off, AI = some ⟨g, off, none⟩ ∧ NI ≤ capI ∧ g < w1.heap.size ∧ w1.cell? ⟨g, off + i, none⟩ = some (.int .u64 (I.getD i 0 : Nat)))
    (hC : ∀ w1 i, Below w.heap.size w w1 → i < N → ∃ g off, A = some ⟨g, off, none⟩ ∧ N ≤ cap ∧ g < w1.heap.size ∧ w1.cell? ⟨g, off + i * 2, none⟩ = some (.int .i64 (L.getD i (0, 0)).1) ∧ w1.cell? ⟨g, off + i * 2 + 1, none⟩ = some (.int .i64 (L.getD i (0, 0)).2)) :
    CallsIn Fence.wide n Try.prog 18 #[.slice AI NI capI, .slice A N cap] w fun e W' => ∃ v, e = .returned v ∧ W'.ownsRow w.heap.size 43 1 v (gathL I L).length ((gathL I L).map fun x : Nat => Value.int .u64 x) ∧ Below w.heap.size w W' := by
  have hn1 : 1 ≤ n := by omega
  refine callsIn_of_wp_marks Try.func18 rfl trivial ?_ rfl
  simp only [Try.ntmps18, List.size_toArray, List.length_cons, List.length_nil, Nat.reduceAdd, Nat.reduceSub, Array.replicate_succ, Array.replicate_zero, List.push_toArray, List.append_toArray, List.nil_append, List.cons_append]
  gi_wp2
  refine ⟨trivial, (places_in (n - 1) A N cap _).mono ?_⟩
  rintro e w' ⟨rfl, rfl⟩
  gi_wp2
  obtain ⟨i0, hi, hz0, hz1, hz2⟩ := info_parts infoU64
  have bI := ((Boxed.new w 34 (.slice AI NI capI)).alloc (.cells #[.slice none 0 0] 34)).alloc (.cells #[.slice A N cap] 22)
  have bO := (Boxed.new (w.alloc (.cells #[.slice AI NI capI] 34)) 34 (.slice none 0 0)).alloc (.cells #[.slice A N cap] 22)
  have bL := Boxed.new ((w.alloc (.cells #[.slice AI NI capI] 34)).alloc (.cells #[.slice none 0 0] 34)) 22 (.slice A N cap)
  have hB0 : Below w.heap.size w (((w.alloc (.cells #[.slice AI NI capI] 34)).alloc (.cells #[.slice none 0 0] 34)).alloc (.cells #[.slice A N cap] 22)) := (((Below.refl _ w).alloc (Nat.le_refl _) _).alloc (by simp) _).alloc (by simp; omega) _
  have hsz : ((((w.alloc (.cells #[.slice AI NI capI] 34)).alloc (.cells #[.slice none 0 0] 34)).alloc (.cells #[.slice A N cap] 22))).heap.size = w.heap.size + 3 := by simp
  simp only [World.size_alloc] at bO bL
  obtain ⟨W0, hW0⟩ : ∃ W0, W0 = ((((w.alloc (.cells #[.slice AI NI capI] 34)).alloc (.cells #[.slice none 0 0] 34)).alloc (.cells #[.slice A N cap] 22)) : World) := ⟨_, rfl⟩
  rw [← hW0] at bO bL bI hB0 hsz ⊢
  clear hW0
  have hml : (placesL L).length ≤ 1000000 := by
    have h1 := (placesL_len L hL).1
    have h2 := totS_le L hL
    omega
  replace hCI := Lib.hid hCI
  refine wpIn_rangeFunc_ownG rfl hn1 (gf := 27) (lb := #[.pointer (some ⟨w.heap.size + 1 + 1, 0, none⟩)]) rfl trivial (enters_of Try.func27 (by kernel_rfl) rfl)
    (pl_stops (n - 1) (by omega) (w.heap.size + 1) (w.heap.size + 1) (w.heap.size + 1 + 1) w.heap.size N cap A L hL hlen hN W0 (by omega) (by omega) (ownLt_of bO (by simp [Value.ownBlock])) bL.cell (by omega) (by omega) (fun w1 i hb => hC w1 i (hB0.trans hb)))
    kp_t (kp_b (by omega) (by omega)) (Below.refl _ _) (fun _ => rfl)
    (fun pre W => ((∃ v, Boxed W (w.heap.size + 1) 34 v ∧ W.ownsRow w.heap.size 43 1 v (pre : List Int).length (pre.map fun y : Int => Value.int .u64 (imgAt I y : Nat)) ∧ True) ∧ Boxed W w.heap.size 34 (.slice AI NI capI)) ∧ Below w.heap.size w W)
    (fun _ _ _ => False)
    (OwnFrom.and (OwnFrom.and (Own.from (holdsRow_own w.heap.size (w.heap.size + 1) 34 43 1 (fun pre : List Int => pre.length) (fun pre => pre.map fun y : Int => Value.int .u64 (imgAt I y : Nat)) (fun pre v => True)) _) (Own.from (boxed_own w.heap.size 34 (fun (_ : List Int) => Value.slice AI NI capI)) _)) (ownFrom_below (Nat.le_refl _) (by omega)))
    (fun _ _ _ _ _ hs _ _ => hs)
    ⟨⟨⟨_, bO, World.ownsRow_nil _ _ _ _, trivial⟩, bI⟩, hB0⟩
    (fun y => { tmps := #[.slice AI NI capI, .slice A N cap, .pointer (some ⟨w.heap.size, 0, none⟩), undef, .slice none 0 0, .pointer (some ⟨w.heap.size + 1, 0, none⟩), .int .i64 y, undef, .slice A N cap, .func (.func 27) #[] #[.pointer (some ⟨w.heap.size + 1 + 1, 0, none⟩)], .int .i64 y, undef, undef, undef, undef, undef, undef, undef, undef, undef, undef, undef, undef, undef, undef, undef, undef, undef], defers := [] }) ?assign ?body ?done ?stop
  case assign =>
    intro l y W K hK
    gi_wp2
    simpa using hK
  case body =>
    rintro l pre y W ⟨⟨⟨v, hv, hrow, _⟩, hbI⟩, hB⟩ hlt
    have hc := hv.cell
    have hcI := hbI.cell
    have hpl : pre.length < 1000000 := by omega
    have hne := hv.not_row (e := 43) (by decide) hrow
    by_cases k1 : 0 ≤ y
    · obtain ⟨i, rfl⟩ := Int.eq_ofNat_of_zero_le k1
      by_cases k2 : i < NI
      · obtain ⟨g, off, rfl, hcap, hg, c0⟩ := hCI.out W i hB k2
        have hadd := Lib.hid (show (pre ++ [(i : Int)]).map (fun y : Int => Value.int .u64 (imgAt I y : Nat)) = pre.map (fun y : Int => Value.int .u64 (imgAt I y : Nat)) ++ [.int .u64 (I.getD i 0 : Nat)] from by rw [List.map_append, List.map_singleton, imgAt_nat])
        generalize I.getD i 0 = x at *
        obtain ⟨v', w1, hrun, hown', hgrow, hl2⟩ := appU (w := W.alloc (.cells #[.int .u64 (x : Nat)] (43 : Nat))) (y := (x : Nat)) (base := w.heap.size) (hrow.alloc _) (cell_new1 W _ _) (by have := hB.size; simp; omega) (by omega)
        obtain ⟨g', cap', rfl⟩ := ownsRow_succ hown'
        obtain ⟨hv1, hv2, hr2, hk2, hb2⟩ := hv.appended (by decide) hrow hB.size (by omega) hown' hgrow
        have hkp := kp_body (n₀ := w.heap.size) (Bi := w.heap.size + 1) hv (by omega) (fun g q => (hrow.lt g q).1) hgrow hl2 hne (fun g q => (hown'.lt g q).2)
        have hbI2 := boxed_far hbI (show w.heap.size ≠ w.heap.size + 1 by omega) hv hrow hgrow (v' := .slice (some ⟨g', 0, none⟩) (pre.length + 1) cap')
        have hc1 := hv1.cell
        have hf1 := hv1.frozen
        clear hgrow hown'
        gi_wp2_with (gi_at_builtin; refine wpListIn_append_run rfl _ _ 34 rfl _ _ _ rfl rfl hrun ?_)
        have hr3 : World.ownsRow (w1.setCell ⟨w.heap.size + 1, 0, none⟩ (.slice (some ⟨g', 0, none⟩) (pre.length + 1) cap')) w.heap.size 43 1 (.slice (some ⟨g', 0, none⟩) (pre.length + 1) cap') (pre ++ [(i : Int)]).length ((pre ++ [(i : Int)]).map fun y : Int => Value.int .u64 (imgAt I y : Nat)) := by rw [hadd.out, List.length_append]; first | done | exact hr2
        first | exact ⟨hk2.from _, hkp, ⟨⟨_, hv2, hr3, trivial⟩, hbI2⟩, hB.trans hb2⟩ | exact ⟨hk2.from _, hkp, ⟨⟨_, hv2, hr3⟩, hbI2⟩, hB.trans hb2⟩
      · have k3 : (NI : Int) ≤ (i : Int) := by omega
        have hadd := Lib.hid (show (pre ++ [(i : Int)]).map (fun y : Int => Value.int .u64 (imgAt I y : Nat)) = pre.map (fun y : Int => Value.int .u64 (imgAt I y : Nat)) ++ [.int .u64 ((0 : Nat) : Int)] from by rw [List.map_append, List.map_singleton, imgAt_far I i (by omega)])
        obtain ⟨v', w1, hrun, hown', hgrow, hl2⟩ := appU (w := W.alloc (.cells #[.int .u64 (0 : Nat)] (43 : Nat))) (y := (0 : Nat)) (base := w.heap.size) (hrow.alloc _) (cell_new1 W _ _) (by have := hB.size; simp; omega) (by omega)
        obtain ⟨g', cap', rfl⟩ := ownsRow_succ hown'
        obtain ⟨hv1, hv2, hr2, hk2, hb2⟩ := hv.appended (by decide) hrow hB.size (by omega) hown' hgrow
        have hkp := kp_body (n₀ := w.heap.size) (Bi := w.heap.size + 1) hv (by omega) (fun g q => (hrow.lt g q).1) hgrow hl2 hne (fun g q => (hown'.lt g q).2)
        have hbI2 := boxed_far hbI (show w.heap.size ≠ w.heap.size + 1 by omega) hv hrow hgrow (v' := .slice (some ⟨g', 0, none⟩) (pre.length + 1) cap')
        have hc1 := hv1.cell
        have hf1 := hv1.frozen
        clear hgrow hown'
        gi_wp2_with (gi_at_builtin; refine wpListIn_append_run rfl _ _ 34 rfl _ _ _ rfl rfl hrun ?_)
        have hr3 : World.ownsRow (w1.setCell ⟨w.heap.size + 1, 0, none⟩ (.slice (some ⟨g', 0, none⟩) (pre.length + 1) cap')) w.heap.size 43 1 (.slice (some ⟨g', 0, none⟩) (pre.length + 1) cap') (pre ++ [(i : Int)]).length ((pre ++ [(i : Int)]).map fun y : Int => Value.int .u64 (imgAt I y : Nat)) := by rw [hadd.out, List.length_append]; first | done | exact hr2
        first | exact ⟨hk2.from _, hkp, ⟨⟨_, hv2, hr3, trivial⟩, hbI2⟩, hB.trans hb2⟩ | exact ⟨hk2.from _, hkp, ⟨⟨_, hv2, hr3⟩, hbI2⟩, hB.trans hb2⟩
    · have k2 : y < 0 := by omega
      have hadd := Lib.hid (show (pre ++ [y]).map (fun y : Int => Value.int .u64 (imgAt I y : Nat)) = pre.map (fun y : Int => Value.int .u64 (imgAt I y : Nat)) ++ [.int .u64 ((0 : Nat) : Int)] from by rw [List.map_append, List.map_singleton, imgAt_neg I y k2])
      obtain ⟨v', w1, hrun, hown', hgrow, hl2⟩ := appU (w := W.alloc (.cells #[.int .u64 (0 : Nat)] (43 : Nat))) (y := (0 : Nat)) (base := w.heap.size) (hrow.alloc _) (cell_new1 W _ _) (by have := hB.size; simp; omega) (by omega)
      obtain ⟨g', cap', rfl⟩ := ownsRow_succ hown'
      obtain ⟨hv1, hv2, hr2, hk2, hb2⟩ := hv.appended (by decide) hrow hB.size (by omega) hown' hgrow
      have hkp := kp_body (n₀ := w.heap.size) (Bi := w.heap.size + 1) hv (by omega) (fun g q => (hrow.lt g q).1) hgrow hl2 hne (fun g q => (hown'.lt g q).2)
      have hbI2 := boxed_far hbI (show w.heap.size ≠ w.heap.size + 1 by omega) hv hrow hgrow (v' := .slice (some ⟨g', 0, none⟩) (pre.length + 1) cap')
      have hc1 := hv1.cell
      have hf1 := hv1.frozen
      clear hgrow hown'
      gi_wp2_with (gi_at_builtin; refine wpListIn_append_run rfl _ _ 34 rfl _ _ _ rfl rfl hrun ?_)
      have hr3 : World.ownsRow (w1.setCell ⟨w.heap.size + 1, 0, none⟩ (.slice (some ⟨g', 0, none⟩) (pre.length + 1) cap')) w.heap.size 43 1 (.slice (some ⟨g', 0, none⟩) (pre.length + 1) cap') (pre ++ [y]).length ((pre ++ [y]).map fun y : Int => Value.int .u64 (imgAt I y : Nat)) := by rw [hadd.out, List.length_append]; first | done | exact hr2
      first | exact ⟨hk2.from _, hkp, ⟨⟨_, hv2, hr3, trivial⟩, hbI2⟩, hB.trans hb2⟩ | exact ⟨hk2.from _, hkp, ⟨⟨_, hv2, hr3⟩, hbI2⟩, hB.trans hb2⟩
  case done =>
    rintro D ys W hD rfl ⟨⟨⟨v, hv, hrow, _⟩, hbI⟩, hB⟩ hK
    have hc := hv.cell
    gi_wp2
    refine ⟨by simp, .inl ⟨_, _, rfl, run_takeDeferred hK, ?_⟩⟩
    refine ⟨_, results_tmp rfl _ _ _, v, rfl, ?_, hB.trans (belowK_b (w := w) (Nat.le_refl _) W D _ _ (by omega) hK rfl rfl)⟩
    have := ownsRow_putObj hrow (.deferred none) hK rfl
    simpa [gathL, List.map_map, Function.comp_def] using this
  case stop =>
    rintro D c pre W _ _ h _
    exact h.elim
def OwnU (w : World) (base : Nat) (v : Value) (l : List Nat) : Prop := w.ownsRow base 43 1 v l.length (l.map fun x : Nat => Value.int .u64 x)
theorem OwnU.kl {w : World} {base : Nat} {v : Value} {l : List Nat} (h : OwnU w base v l) : KL .u64 w v l := by
  have h' := h
  rcases h.2 with ⟨hv, hn⟩ | ⟨g, cap, cur, hv, hb, hg, h1, h2, h3, h4⟩
  · have : l = [] := by simpa using hn
    subst this
    exact ⟨none, 0, hv, fun h => by simp at h⟩
  · subst hv
    refine ⟨some ⟨g, 0, none⟩, cap, rfl, fun _ => ⟨g, 0, rfl, (Array.getElem?_eq_some_iff.1 hg).1, h1, fun i hi => ?_⟩⟩
    rw [Nat.zero_add]
    rw [World.ownsRow.cellAt h' i (by omega)]
    simp [List.getD_eq_getElem?_getD, List.getElem?_eq_getElem hi]
theorem OwnU.mono {w : World} {base b2 : Nat} {v : Value} {l : List Nat} (h : OwnU w base v l) (hb : b2 ≤ base) : OwnU w b2 v l := by
  refine ⟨h.1, ?_⟩
  rcases h.2 with h2 | ⟨g, cap, cur, hv, hbg, hg, h1, h2, h3, h4⟩
  · exact .inl h2
  · exact .inr ⟨g, cap, cur, hv, by omega, hg, h1, h2, h3, h4⟩
theorem OwnU.keep {w w1 : World} {base : Nat} {v : Value} {l : List Nat} (h : OwnU w base v l) (hb : Below w.heap.size w w1) : OwnU w1 base v l := by
  refine ⟨h.1, ?_⟩
  rcases h.2 with h2 | ⟨g, cap, cur, hv, hbg, hg, h1, h2, h3, h4⟩
  · exact .inl h2
  · exact .inr ⟨g, cap, cur, hv, hbg, by rw [hb.block g (Array.getElem?_eq_some_iff.1 hg).1]; exact hg, h1, h2, h3, h4⟩
theorem gather_any (v u : Value) (I : List Nat) (L : List Sp) (w : World) (hL : PBs L) (hlen : L.length ≤ 1000) (hv : KL .u64 w v I) (hu : PL w u L) :
    Calls Try.prog 18 #[v, u] w fun e w' => ∃ v', e = .returned v' ∧ OwnU w' w.heap.size v' (gathL I L) ∧ Below w.heap.size w w' := by
  obtain ⟨AI, capI, rfl, hCI⟩ := hv.form rfl
  obtain ⟨A, cap, rfl, hC⟩ := hu.form rfl
  exact callsIn_wide.1 (gather_any_in 3 (by omega) AI A I.length capI L.length cap I L w rfl hL rfl hlen hCI hC)
end Go.Proofs.Ytddfhgdejlkdgaa
