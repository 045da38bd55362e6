/-
  What the calls of package span answer: Missing, Covers.
-/
import Derived.Test.YtcemiclbeocnjaaTSpan5
set_option linter.unusedVariables false
namespace Go.Proofs.Ytcemiclbeocnjaa
open Go.RowKit Go.Shelf
attribute [local go_sem] Oper.semAt_some

theorem wpListIn_append_run {F : Fence} {n : Nat} {P : Program} {w w' : World} {ops : Array Oper} {rest : List Oper} {o : Oper} {a : Act} {Q : Exit → Act → World → Prop} (hg : o.guard = none) (s x : Operand) (t : TypeId)
    (hop : o.op = Op.call { callee := Callee.builtin Builtin.append, args := #[s, x], argTypes := #[t, t] }) (vs vx v : Value) (hs : a.eval s = vs) (hx : a.eval x = vx)
    (hrun : (Builtin.append_ #[t, t] o.type #[vs, vx]).run P w = .ok v w') (h : wpListIn F n P ops Q rest (a.put o.dst v) w') : wpListIn F n P ops Q (o :: rest) a w := by
  refine wpListIn_plain hg fun K hK' => ?_
  unfold Oper.wpIn
  refine ⟨?_, ?_⟩
  · simp [Oper.about, hop, resolve, Target.leads, Sem.run_pure]
  · rw [Oper.semAt_plain F _ _ (by rw [hop]; intro c hc'; cases hc')]
    simp [execOp, hop, resolve, invoke, builtin, hs, hx, hrun, Result.andThen]
    exact hK' _ _ h
theorem own_form {w : World} {base : Nat} {v : Value} {l : List Sp} (h : OwnSp w base v l) (hp : 0 < l.length) : ∃ g cap, v = .slice (some ⟨g, 0, none⟩) l.length cap := by
  rcases h.2 with ⟨_, hn⟩ | ⟨g, cap, cur, hv, _⟩
  · have hl := spv_len l
    rw [hn] at hl
    simp at hl; omega
  · exact ⟨g, cap, hv⟩
theorem gap_len (f e : Int) : (gapL f e).length ≤ 1 := by unfold gapL; split <;> simp
theorem miss_len (e : Int) : ∀ (l : List Sp) (f : Int), (missL e f l).length ≤ l.length + 1
  | [], f => by unfold missL; have := gap_len f e; simpa using this
  | x :: l, f => by
    unfold missL
    split
    · have := gap_len f e; simp only [List.length_cons]; omega
    · have := gap_len f x.1
      have := miss_len e l (max f (x.1 + x.2))
      simp only [List.length_append, List.length_cons]; omega
theorem ownLt_of {w : World} {Bo : Nat} {v : Value} {t : TypeId} (h : Boxed w Bo t v) (hv : ∀ b, v.ownBlock = some b → b < w.heap.size) : OwnLt w Bo := fun b ⟨u, hu, ho⟩ => by
  rw [h.cell] at hu; cases hu; exact hv b ho
theorem ownAt_iff {w : World} {Bo b : Nat} {v : Value} {t : TypeId} (h : Boxed w Bo t v) : OwnAt w Bo b ↔ v.ownBlock = some b :=
  ⟨fun ⟨u, hu, ho⟩ => by rw [h.cell] at hu; cases hu; exact ho, fun q => ⟨v, h.cell, q⟩⟩
theorem kp_body {n₀ Bo : Nat} {W w1 : World} {v v' : Value} {o : Obj} {t : TypeId} (hc : Boxed W Bo t v) (hn : n₀ ≤ Bo) (hb : ∀ g, v.ownBlock = some g → n₀ ≤ g) (hg : (W.alloc o).grownBy w1 v.ownBlock) (hl : v'.ownBlock = v.ownBlock ∨ v'.ownBlock = some (W.alloc o).heap.size) (hne : some Bo ≠ v.ownBlock)
    (hlt : ∀ g, v'.ownBlock = some g → g < w1.heap.size) : Kp n₀ Bo W (w1.setCell ⟨Bo, 0, none⟩ v') := by
  have hY : Boxed (w1.setCell ⟨Bo, 0, none⟩ v') Bo t v' := ((hc.alloc o).kept hg hne).set v'
  have hs := hg.size
  simp only [World.size_alloc] at hs
  have hcl := hc.lt
  refine ⟨(((Below.refl _ _).alloc (by omega) _).grown hg (by simp; omega) (fun j hj => hb j hj)).setCell hn _, fun b cs tt f hbk hbn ho => ?_, fun b hbl q => ?_, fun _ => ownLt_of hY (fun b q => by have := hlt b q; simpa using this)⟩
  · have hbl := (Array.getElem?_eq_some_iff.1 hbk).1
    rw [Below.heap_setCell w1 ⟨Bo, 0, none⟩ v' b hbn, hg.block b (by simp; omega) (fun q => ho ((ownAt_iff hc).2 q.symm)), Below.heap_alloc W o b hbl]
  · have q1 := (ownAt_iff hY).1 q
    rcases hl with hl | hl
    · exact (ownAt_iff hc).2 (hl ▸ q1)
    · rw [hl] at q1
      simp at q1; omega

set_option maxRecDepth 100000 in
set_option maxHeartbeats 4000000 in
theorem missing_any_in (n : Nat) (hn : 3 ≤ n) (A : Option Addr) (N cap : Nat) (L : List Sp) (s : Sp) (w : World) (hL : SBs L) (hlen : L.length = N) (hN : N ≤ 1000) (hs : SB s)
    (hC : ∀ w1 i, Below w.heap.size w w1 → i < N → ∃ g off, A = some ⟨g, off, none⟩ ∧ N ≤ cap ∧ g < w1.heap.size ∧ w1.cell? ⟨g, off + i * 2, none⟩ = some (.int .i64 (L.getD i (0, 0)).1) ∧ w1.cell? ⟨g, off + i * 2 + 1, none⟩ = some (.int .i64 (L.getD i (0, 0)).2)) :
    CallsIn Fence.wide n Try.prog 93 #[.slice A N cap, .agg #[.int .i64 s.1, .int .i64 s.2]] w fun e W' => ∃ v, e = .returned v ∧ OwnSp W' w.heap.size v (missS L s) ∧ Below w.heap.size w W' := by
  have hn1 : 1 ≤ n := by omega
  refine callsIn_of_wp_marks Try.func93 rfl trivial ?_ rfl
  simp only [Try.ntmps93, List.size_toArray, List.length_cons, List.length_nil, Nat.reduceAdd, Nat.reduceSub, Array.replicate_succ, Array.replicate_zero, List.push_toArray, List.append_toArray, List.nil_append, List.cons_append]
  gi_wp2
  refine ⟨trivial, (missing_in (n - 1) A N cap s _).mono ?_⟩
  rintro e w' ⟨rfl, rfl⟩
  gi_wp2
  have bO := ((Boxed.new (w.alloc (.cells #[.int .i64 s.1, .int .i64 s.2] 63)) 57 (.slice none 0 0)).alloc (.cells #[.slice A N cap] 57)).alloc (.cells #[.int .i64 s.1, .int .i64 s.2] 63)
  have bL := (Boxed.new ((w.alloc (.cells #[.int .i64 s.1, .int .i64 s.2] 63)).alloc (.cells #[.slice none 0 0] 57)) 57 (.slice A N cap)).alloc (.cells #[.int .i64 s.1, .int .i64 s.2] 63)
  have bS := Bk.new (((w.alloc (.cells #[.int .i64 s.1, .int .i64 s.2] 63)).alloc (.cells #[.slice none 0 0] 57)).alloc (.cells #[.slice A N cap] 57)) (.int .i64 s.1) (.int .i64 s.2)
  have hB0 : Below w.heap.size w ((((w.alloc (.cells #[.int .i64 s.1, .int .i64 s.2] 63)).alloc (.cells #[.slice none 0 0] 57)).alloc (.cells #[.slice A N cap] 57)).alloc (.cells #[.int .i64 s.1, .int .i64 s.2] 63)) := ((((Below.refl _ w).alloc (Nat.le_refl _) _).alloc (by simp) _).alloc (by simp; omega) _).alloc (by simp; omega) _
  have hsz : ((((w.alloc (.cells #[.int .i64 s.1, .int .i64 s.2] 63)).alloc (.cells #[.slice none 0 0] 57)).alloc (.cells #[.slice A N cap] 57)).alloc (.cells #[.int .i64 s.1, .int .i64 s.2] 63)).heap.size = w.heap.size + 4 := by simp
  simp only [World.size_alloc] at bO bL bS
  obtain ⟨W0, hW0⟩ : ∃ W0, ((((w.alloc (.cells #[.int .i64 s.1, .int .i64 s.2] 63)).alloc (.cells #[.slice none 0 0] 57)).alloc (.cells #[.slice A N cap] 57)).alloc (.cells #[.int .i64 s.1, .int .i64 s.2] 63)) = W0 := ⟨_, rfl⟩
  rw [hW0] at bO bL bS hB0 hsz ⊢
  clear hW0
  have hml := miss_len (s.1 + s.2) L s.1
  refine wpIn_rangeFunc_ownH rfl hn1 (gf := 95) (lb := #[.pointer (some ⟨w.heap.size + 1 + 1 + 1, 0, none⟩), .pointer (some ⟨w.heap.size + 1 + 1, 0, none⟩)]) rfl trivial (enters_of Try.func95 (by kernel_rfl) rfl)
    (miss_stops (n - 1) (by omega) (w.heap.size + 1) (w.heap.size + 1 + 1 + 1) (w.heap.size + 1 + 1) w.heap.size N cap A L s hL hlen hN hs W0 bS (by omega) (by omega) (ownLt_of bO (by simp [Value.ownBlock])) (fun q => by have := (ownAt_iff bO).1 q; simp [Value.ownBlock] at this) bL.cell (by omega) (by omega) (fun w1 i hb => hC w1 i (hB0.trans hb)))
    kp_t (kp_b (by omega) (by omega)) (Below.refl _ _) (fun _ => rfl)
    (fun pre W => (∃ v, Boxed W (w.heap.size + 1) 57 v ∧ W.ownsRow w.heap.size 63 2 v (pre : List Sp).length (spv pre) ∧ True) ∧ Below w.heap.size w W)
    (fun _ _ _ => False)
    (OwnFrom.and (Own.from (holdsRow_own w.heap.size (w.heap.size + 1) 57 63 2 (fun pre : List Sp => pre.length) (fun pre => spv pre) (fun pre v => True)) _) (ownFrom_below (Nat.le_refl _) (by omega)))
    (fun _ _ _ _ _ hs _ _ => hs)
    ⟨⟨_, bO, World.ownsRow_nil _ _ _ _, trivial⟩, hB0⟩
    (fun y a' W => ∃ Bx, w.heap.size + 1 < Bx ∧ Bk W Bx (.int .i64 y.1) (.int .i64 y.2) ∧ a' = { tmps := #[.slice A N cap, .agg #[.int .i64 s.1, .int .i64 s.2], undef, .pointer (some ⟨w.heap.size, 0, none⟩), .slice none 0 0, .pointer (some ⟨w.heap.size + 1, 0, none⟩), .pointer (some ⟨Bx, 0, none⟩), .slice A N cap, .agg #[.int .i64 s.1, .int .i64 s.2], .func (.func 95) #[] #[.pointer (some ⟨w.heap.size + 1 + 1 + 1, 0, none⟩), .pointer (some ⟨w.heap.size + 1 + 1, 0, none⟩)], .agg #[.int .i64 y.1, .int .i64 y.2], undef, undef, undef, undef, undef], defers := [] })
    (fun y a' _ X Y row hs hg hr => by
      obtain ⟨Bx, h1, h2, h3⟩ := hs
      refine ⟨Bx, h1, (hg.block Bx h2.lt (fun e => ?_)).trans h2, h3⟩
      obtain ⟨_, o, ho, hc⟩ := hr Bx e.symm
      rw [show X.heap[Bx]? = _ from h2] at ho
      cases ho; simp [Obj.isCells] at hc)
    ?assign ?body ?done ?stop
  case assign =>
    rintro l pre y W K ⟨⟨v, hv, hrow, _⟩, hB⟩ hK
    gi_wp2
    exact hK _ _ ((KeepsOthers.alloc _ _).from _) (kp_of ((Below.refl _ _).alloc (Nat.le_refl _) _) hB.size hv.lt) ⟨⟨v, hv.alloc _, hrow.alloc _, trivial⟩, hB.alloc hB.size _⟩ ⟨W.heap.size, hv.lt, Bk.new W _ _, rfl⟩
  case body =>
    rintro l pre y a' W hl hr ⟨⟨v, hv, hrow, _⟩, hB⟩ ⟨Bx, hBx, bX, rfl⟩ hlt
    have hc := hv.cell
    obtain ⟨x0, x1⟩ := bX.c2
    have hpl : pre.length ≤ 1000000 := by
      have : (missS L s).length ≤ L.length + 1 := hml
      omega
    have hbs := hB.size
    have hne := hv.not_row (e := 63) (by decide) hrow
    obtain ⟨v', w1, hrun, ho, hg, hl2⟩ := app1 (w := W.alloc (.cells #[.int .i64 y.1, .int .i64 y.2] (63 : Nat))) (l := pre) (s := y) (base := w.heap.size) (hrow.alloc _) (C2.new W (.int .i64 y.1) (.int .i64 y.2) (63 : Nat)) (by simp; omega) hpl
    obtain ⟨g', cap', rfl⟩ := own_form ho (by simp)
    obtain ⟨hv1, hv2, hr2, hk2, hb2⟩ := hv.appended (by decide) hrow hB.size (by omega) ho hg
    have hkp := kp_body (n₀ := w.heap.size) hv (by omega) (fun g q => (hrow.lt g q).1) hg hl2 hne (fun g q => (ho.lt g q).2)
    have hlen1 : (pre ++ [y]).length = pre.length + 1 := by simp
    rw [hlen1] at hrun hv2 hk2 hb2 hkp hr2
    have hc1 := hv1.cell
    have hf1 := hv1.frozen
    replace hlen1 := Lib.hid hlen1
    clear hg ho
    gi_wp2_with (gi_at_builtin; refine wpListIn_append_run rfl _ _ 57 rfl _ _ _ rfl rfl hrun ?_)
    exact ⟨hk2.from _, hkp, ⟨_, hv2, by rw [hlen1.out]; exact hr2, trivial⟩, hB.trans hb2⟩
  case done =>
    rintro D ys W hD rfl ⟨⟨v, hv, hrow, _⟩, hB⟩ hK
    have hc := hv.cell
    gi_wp2
    refine ⟨by simp, .inl ⟨_, _, rfl, run_takeDeferred hK, ?_⟩⟩
    exact ⟨_, results_tmp rfl _ _ _, v, rfl, ownsRow_putObj hrow _ hK rfl, hB.trans (belowK_b (w := w) (Nat.le_refl _) W D _ _ (by omega) hK rfl rfl)⟩
  case stop =>
    rintro D c pre W _ _ h _
    exact h.elim
theorem missing_any (v : Value) (l : List Sp) (s : Sp) (w : World) (hl : SBs l) (hlen : l.length ≤ 1000) (hs : SB s) (hv : PL w v l) :
    Calls Try.prog 93 #[v, .agg #[.int .i64 s.1, .int .i64 s.2]] w fun e w' => ∃ v', e = .returned v' ∧ OwnSp w' w.heap.size v' (missS l s) ∧ Below w.heap.size w w' := by
  obtain ⟨A, cap, rfl, hC⟩ := hv.form rfl
  exact callsIn_wide.1 (missing_any_in 3 (by omega) A l.length cap l s w hl rfl hlen hs hC)

set_option maxRecDepth 100000 in
set_option maxHeartbeats 4000000 in
theorem covers_any_in (n : Nat) (hn : 3 ≤ n) (A : Option Addr) (N cap : Nat) (L : List Sp) (s : Sp) (w : World) (hL : SBs L) (hlen : L.length = N) (hN : N ≤ 1000) (hs : SB s)
    (hC : ∀ w1 i, Below w.heap.size w w1 → i < N → ∃ g off, A = some ⟨g, off, none⟩ ∧ N ≤ cap ∧ g < w1.heap.size ∧ w1.cell? ⟨g, off + i * 2, none⟩ = some (.int .i64 (L.getD i (0, 0)).1) ∧ w1.cell? ⟨g, off + i * 2 + 1, none⟩ = some (.int .i64 (L.getD i (0, 0)).2)) :
    CallsIn Fence.wide n Try.prog 39 #[.slice A N cap, .agg #[.int .i64 s.1, .int .i64 s.2]] w fun e W' => e = .returned (.bool (covS L s)) ∧ Below w.heap.size w W' := by
  have hn1 : 1 ≤ n := by omega
  refine callsIn_of_wp_marks Try.func39 rfl trivial ?_ rfl
  simp only [Try.ntmps39, List.size_toArray, List.length_cons, List.length_nil, Nat.reduceAdd, Nat.reduceSub, Array.replicate_succ, Array.replicate_zero, List.push_toArray, List.append_toArray, List.nil_append, List.cons_append]
  gi_wp2
  refine ⟨trivial, (missing_in (n - 1) A N cap s _).mono ?_⟩
  rintro e w' ⟨rfl, rfl⟩
  gi_wp2
  have bO := ((Boxed.new (w.alloc (.cells #[.int .i64 s.1, .int .i64 s.2] 63)) 4 (.bool false)).alloc (.cells #[.slice A N cap] 57)).alloc (.cells #[.int .i64 s.1, .int .i64 s.2] 63)
  have bL := (Boxed.new ((w.alloc (.cells #[.int .i64 s.1, .int .i64 s.2] 63)).alloc (.cells #[.bool false] 4)) 57 (.slice A N cap)).alloc (.cells #[.int .i64 s.1, .int .i64 s.2] 63)
  have bS := Bk.new (((w.alloc (.cells #[.int .i64 s.1, .int .i64 s.2] 63)).alloc (.cells #[.bool false] 4)).alloc (.cells #[.slice A N cap] 57)) (.int .i64 s.1) (.int .i64 s.2)
  have hB0 : Below w.heap.size w ((((w.alloc (.cells #[.int .i64 s.1, .int .i64 s.2] 63)).alloc (.cells #[.bool false] 4)).alloc (.cells #[.slice A N cap] 57)).alloc (.cells #[.int .i64 s.1, .int .i64 s.2] 63)) := ((((Below.refl _ w).alloc (Nat.le_refl _) _).alloc (by simp) _).alloc (by simp; omega) _).alloc (by simp; omega) _
  have hsz : ((((w.alloc (.cells #[.int .i64 s.1, .int .i64 s.2] 63)).alloc (.cells #[.bool false] 4)).alloc (.cells #[.slice A N cap] 57)).alloc (.cells #[.int .i64 s.1, .int .i64 s.2] 63)).heap.size = w.heap.size + 4 := by simp
  simp only [World.size_alloc] at bO bL bS
  obtain ⟨W0, hW0⟩ : ∃ W0, ((((w.alloc (.cells #[.int .i64 s.1, .int .i64 s.2] 63)).alloc (.cells #[.bool false] 4)).alloc (.cells #[.slice A N cap] 57)).alloc (.cells #[.int .i64 s.1, .int .i64 s.2] 63)) = W0 := ⟨_, rfl⟩
  rw [hW0] at bO bL bS hB0 hsz ⊢
  clear hW0
  refine wpIn_rangeFunc_ownF rfl hn1 (gf := 95) (lb := #[.pointer (some ⟨w.heap.size + 1 + 1 + 1, 0, none⟩), .pointer (some ⟨w.heap.size + 1 + 1, 0, none⟩)]) rfl trivial (enters_of Try.func95 (by kernel_rfl) rfl)
    (miss_stops (n - 1) (by omega) (w.heap.size + 1) (w.heap.size + 1 + 1 + 1) (w.heap.size + 1 + 1) w.heap.size N cap A L s hL hlen hN hs W0 bS (by omega) (by omega) (ownLt_of bO (by simp [Value.ownBlock])) (fun q => by have := (ownAt_iff bO).1 q; simp [Value.ownBlock] at this) bL.cell (by omega) (by omega) (fun w1 i hb => hC w1 i (hB0.trans hb)))
    kp_t (kp_b (by omega) (by omega)) (Below.refl _ _) (fun _ => rfl)
    (fun pre W => (pre = [] ∧ Boxed W (w.heap.size + 1) 4 (.bool false)) ∧ Below w.heap.size w W)
    (fun c pre W => (c = .ret ∧ pre ≠ [] ∧ Boxed W (w.heap.size + 1) 4 (.bool false)) ∧ Below w.heap.size w W)
    (OwnFrom.and (Own.from (fun s A B row hs hg hr => ⟨hs.1, boxed_own (w.heap.size + 1) 4 (fun (_ : Unit) => Value.bool false) () A B row hs.2 hg hr⟩) _) (ownFrom_below (Nat.le_refl _) (by omega)))
    (fun c => OwnFrom.and (Own.from (fun s A B row hs hg hr => ⟨hs.1, hs.2.1, boxed_own (w.heap.size + 1) 4 (fun (_ : Unit) => Value.bool false) () A B row hs.2.2 hg hr⟩) _) (ownFrom_below (Nat.le_refl _) (by omega)))
    ⟨⟨rfl, bO⟩, hB0⟩
    (fun y => { tmps := #[.slice A N cap, .agg #[.int .i64 s.1, .int .i64 s.2], undef, .pointer (some ⟨w.heap.size, 0, none⟩), .pointer (some ⟨w.heap.size + 1, 0, none⟩), .slice A N cap, .agg #[.int .i64 s.1, .int .i64 s.2], .func (.func 95) #[] #[.pointer (some ⟨w.heap.size + 1 + 1 + 1, 0, none⟩), .pointer (some ⟨w.heap.size + 1 + 1, 0, none⟩)], .agg #[.int .i64 y.1, .int .i64 y.2]], defers := [] }) ?assign ?body ?done ?stop
  case assign =>
    intro l y W K hK
    gi_wp2
    simpa using hK
  case body =>
    rintro l pre y W ⟨⟨rfl, hb⟩, hB⟩ hlt
    have hc := hb.cell
    have hf := hb.frozen
    gi_wp2
    exact ⟨KeepsOthers.setCell _ _ _, ⟨rfl, by simp, hb.set _⟩, hB.setCell (p := ⟨w.heap.size + 1, 0, none⟩) (by simp) _⟩
  case done =>
    rintro D ys W hD hys ⟨⟨rfl, hb⟩, hB⟩ hK
    have hcov := Lib.hid (show covS L s = true from by unfold covS; rw [← hys]; rfl)
    clear hys
    have hcr := hb.cell
    have hfr := hb.frozen
    gi_wp2
    have hK' := (KeepsOthers.setCell W ⟨w.heap.size + 1, 0, none⟩ (.bool true)).same D _ hK rfl
    refine ⟨by simp, .inl ⟨_, _, rfl, run_takeDeferred hK', ?_⟩⟩
    have hc5 := cell_kept (World.cell?_setCell_same' W ⟨w.heap.size + 1, 0, none⟩ (.bool true) (by rw [hcr]; rfl)) (grownBy_putObj' _ D (.deferred none)) (fun r e => by cases e; exact ⟨_, hK', rfl⟩)
    refine ⟨.bool true, ?_, by rw [hcov.out], (hB.setCell (p := ⟨w.heap.size + 1, 0, none⟩) (by simp) _).trans (belowK_b (w := w) (Nat.le_refl _) _ D _ _ (by omega) hK' rfl rfl)⟩
    simp [results, Try.f39, go_sem, hc5]
  case stop =>
    rintro D c pre W hD hpre ⟨⟨rfl, hpn, hb⟩, hB⟩ hK
    have hcov := Lib.hid (show covS L s = false from by
      unfold covS
      obtain ⟨q, hq⟩ := hpre
      rw [← hq]
      cases pre with
      | nil => exact absurd rfl hpn
      | cons a b => rfl)
    have hcr := hb.cell
    clear hpre
    gi_wp2
    refine ⟨by simp, .inl ⟨_, _, rfl, run_takeDeferred hK, ?_⟩⟩
    have hc5 := cell_kept hcr (grownBy_putObj' _ D (.deferred none)) (fun r e => by cases e; exact ⟨_, hK, rfl⟩)
    refine ⟨.bool false, ?_, by rw [hcov.out], hB.trans (belowK_b (w := w) (Nat.le_refl _) W D _ _ (by omega) hK rfl rfl)⟩
    simp [results, Try.f39, go_sem, hc5]
theorem covers_any (v : Value) (l : List Sp) (s : Sp) (w : World) (hl : SBs l) (hlen : l.length ≤ 1000) (hs : SB s) (hv : PL w v l) :
    Calls Try.prog 39 #[v, .agg #[.int .i64 s.1, .int .i64 s.2]] w fun e w' => e = .returned (.bool (covS l s)) ∧ Below w.heap.size w w' := by
  obtain ⟨A, cap, rfl, hC⟩ := hv.form rfl
  exact callsIn_wide.1 (covers_any_in 3 (by omega) A l.length cap l s w hl rfl hlen hs hC)
end Go.Proofs.Ytcemiclbeocnjaa
