/-
  Part of the proof of MendLanes.
-/
import Derived.Test.YtkdhdibjbabgfaaGreatDoorVl10
import Derived.Test.YtkdhdibjbabgfaaGreatDoorVl0
set_option maxRecDepth 10000
set_option maxHeartbeats 400000
set_option linter.unusedVariables false
set_option linter.unusedSimpArgs false
section
namespace Go.Proofs.YtkdhdibjbabgfaaGreatDoor
open Go.RowKit
theorem room_ok (W L : Int) (w : World) (h : gOk W L = true) :
 Calls Tryz.prog 93 #[.agg #[.int .i64 W, .int .i64 L]] w fun e w' => e = .returned (.int .i64 (gN W L)) ∧ Below w.heap.size w w' := by
 obtain ⟨h1, h2, h3, h4⟩ := gOk_t h
 have e : (W - (10 + 73 * L)).tdiv 33 = gN W L := by rw [Int.tdiv_eq_ediv_of_nonneg (by omega)]; rfl
 rw [← e]
 exact room_any W L w h1 h2 (by omega) h3
theorem table_t (W L : Int) (w : World) (h : gOk W L = true) :
 Calls Tryz.prog 67 #[.agg #[.int .i64 W, .int .i64 L]] w fun e w' => e = .returned (.agg #[.int .i64 (10 + 73 * L), .int .i64 (gN W L)]) ∧ Below w.heap.size w w' := by
 obtain ⟨h1, h2, _, _⟩ := gOk_t h
 have H := lh h
 clear h
 go_enter Tryz.func67, Tryz.ntmps67
 go_wp2_with fail
 refine (right_t W L _ H.out).mono ?_
 rintro e w1 ⟨rfl, hb1⟩
 have j1 := ((C2.new w (.int .i64 W) (.int .i64 L) 33).alloc (.cells #[.int .i64 0, .int .i64 0] 51)).keep hb1
 have k1 := (C2.new (w.alloc (.cells #[.int .i64 W, .int .i64 L] 33)) (.int .i64 0) (.int .i64 0) 51).keep hb1
 have f1 := (F2.new (w.alloc (.cells #[.int .i64 W, .int .i64 L] 33)) (.int .i64 0) (.int .i64 0) 51).keep (by simp) hb1
 simp only [World.size_alloc] at k1 f1
 have lt1 := j1.lt
 have lt2 := k1.lt
 obtain ⟨c0, c1⟩ := id k1
 obtain ⟨d0, d1⟩ := id j1
 obtain ⟨g0, g1⟩ := id f1
 have hB : Below w.heap.size w w1 := ((bZ _ _).alloc (by simp) _).trans (hb1.mono (by simp; omega))
 go_wp2_with fail
 go_region_with (first
  | (go_at_call 92; refine (table_any W L _ h1 h2).mono ?_; rintro e w6 ⟨rfl, hb⟩; have BB : Below w.heap.size w w6 := (by first | exact BB.trans (hb.mono (Nat.le_of_lt jj.lt)) | exact hB.drew.trans (hb.mono (Nat.le_of_lt j1.drew.lt)) | exact hB.trans (hb.mono (Nat.le_of_lt j1.lt))); have jj : C2 w6 w.heap.size (.int .i64 W) (.int .i64 L) := (by first | exact jj.keep hb | exact j1.drew.keep hb | exact j1.keep hb); have ff : F2 w6 (w.heap.size + 1) := (by first | exact ff.keep kk.lt hb | exact f1.drew.keep k1.drew.lt hb | exact f1.keep k1.lt hb); have kk : C2 w6 (w.heap.size + 1) (.int .i64 0) (.int .i64 0) := (by first | exact kk.keep hb | exact k1.drew.keep hb | exact k1.keep hb); obtain ⟨d0, d1⟩ := id jj; obtain ⟨c0, c1⟩ := id kk; obtain ⟨g0, g1⟩ := id ff)
  | (go_at_call 93; refine (room_ok W L _ H.out).mono ?_; rintro e w7 ⟨rfl, hb⟩; have BB : Below w.heap.size w w7 := (by first | exact BB.trans (hb.mono (Nat.le_of_lt jj.lt)) | exact hB.drew.trans (hb.mono (Nat.le_of_lt j1.drew.lt)) | exact hB.trans (hb.mono (Nat.le_of_lt j1.lt))); have jj : C2 w7 w.heap.size (.int .i64 W) (.int .i64 L) := (by first | exact jj.keep hb | exact j1.drew.keep hb | exact j1.keep hb); have ff : F2 w7 (w.heap.size + 1) := (by first | exact ff.keep kk.lt hb | exact f1.drew.keep k1.drew.lt hb | exact f1.keep k1.lt hb); have kk : C2 w7 (w.heap.size + 1) (.int .i64 0) (.int .i64 0) := (by first | exact kk.keep hb | exact k1.drew.keep hb | exact k1.keep hb); obtain ⟨d0, d1⟩ := id jj; obtain ⟨c0, c1⟩ := id kk; obtain ⟨g0, g1⟩ := id ff))
 all_goals
  go_wp2_with fail
  refine bodyPost_ret (v := .agg #[.int .i64 (10 + 73 * L), .int .i64 (gN W L)]) (by simp [results, Tryz.results67, go_sem, c0, c1]) rfl ⟨rfl, ?_⟩
  exact (BB.setCell (by simp) _).setCell (by simp) _
end Go.Proofs.YtkdhdibjbabgfaaGreatDoor
end
section
namespace Go.Proofs.YtkdhdibjbabgfaaGreatDoor
open Go.RowKit Go.ChangeShapes Go.WideShapes Go.Deep Go.Shelf
attribute [local go_sem] Oper.semAt_some
def slV : Value → Value
 | .slice a n c => .slice a n c
 | _ => .slice none 0 0
def eS (x : Ex) : List Value := [.int .i64 x.1, slV x.2.1]
theorem eS_len (x : Ex) : (eS x).length = 2 := rfl
theorem slV_one (v : Value) : (slV v).oneCell' = true := by unfold slV; split <;> rfl
theorem KL.slV {K : IntKind} {w : World} {v : Value} {l : List Nat} (h : KL K w v l) : slV v = v := by
 obtain ⟨A, cap, rfl, _⟩ := h
 rfl
theorem infoEn : (Tryz.prog.info? 64).map (fun i => (i.zero, i.size, i.bytes)) = some (some (.agg #[.int .i64 0, .slice none 0 0]), 2, 32) := by kernel_rfl
theorem enT : ElT Tryz.prog 60 64 2 32 eS where
 und := Tryz.underlying60
 info := by
  obtain ⟨i0, hi, hz0, hz1, hz2⟩ := info_parts infoEn
  exact ⟨i0, _, hi, hz0, hz1, hz2, by rfl⟩
 len := eS_len
 one := fun x u hu => by
  simp only [eS, List.mem_cons, List.not_mem_nil, or_false] at hu
  rcases hu with rfl | rfl
  ·rfl
  ·exact slV_one _
 pos := by decide
 small := by decide
def px (x : Ex) : Pe := (x.1, x.2.2)
def EN (w : World) (v : Value) (l : List Pe) : Prop := ∃ xs : List Ex, EL 2 eS w v xs ∧ (∀ x ∈ xs, KL .u64 w x.2.1 x.2.2) ∧ xs.map px = l
theorem EN.keep {w w1 : World} {v : Value} {l : List Pe} (h : EN w v l) (hb : Below w.heap.size w w1) : EN w1 v l := by
 obtain ⟨xs, h1, h2, h3⟩ := h
 exact ⟨xs, h1.keep hb, fun x hx => (h2 x hx).keep hb, h3⟩
theorem EN.nil (w : World) : EN w (.slice none 0 0) [] := ⟨[], EL.nil _ _ _ _ _, fun x hx => by simp at hx, rfl⟩
def decL (gn : Nat) (ws : List Nat) : Option (List Pe) := if none ∈ evs gn ws then none else some ((evs gn ws).filterMap id)
theorem KL.grown {K : IntKind} {w w1 : World} {v : Value} {l : List Nat} {row : Option Nat} (h : KL K w v l) (hg : w.grownBy w1 row) (hne : ∀ g o m c, v = .slice (some ⟨g, o, none⟩) m c → row ≠ some g) : KL K w1 v l := by
 obtain ⟨A, cap, hv, h⟩ := h
 refine ⟨A, cap, hv, fun hl => ?_⟩
 obtain ⟨g, off, rfl, hg1, hc, hi⟩ := h hl
 refine ⟨g, off, rfl, Nat.lt_of_lt_of_le hg1 hg.size, hc, fun i hil => ?_⟩
 rw [← hi i hil]
 exact World.cell?_of_block (hg.block g hg1 (fun e => hne g off _ _ hv e.symm))
theorem KL.walk {K : IntKind} {w w1 : World} {v : Value} {l : List Nat} {row : Option Nat} (h : KL K w v l) (hg : w.grownBy w1 row) (hr : ∀ r, row = some r → ∃ o : Obj, w.heap[r]? = some o ∧ o.isCells = false) : KL K w1 v l := by
 obtain ⟨A, cap, hv, h⟩ := h
 refine ⟨A, cap, hv, fun hl => ?_⟩
 obtain ⟨g, off, rfl, hg1, hc, hi⟩ := h hl
 exact ⟨g, off, rfl, Nat.lt_of_lt_of_le hg1 hg.size, hc, fun i hil => cell_kept (hi i hil) hg hr⟩
def Off (v : Value) (r : Option Nat) : Prop := ∀ g o m c, v = .slice (some ⟨g, o, none⟩) m c → r ≠ some g
def DI (n₀ Bo : Nat) (pre : List Ev) (W : World) : Prop := ∃ v, Boxed W Bo 60 v ∧ OwnE 64 2 eS W n₀ v (pre.map Prod.fst) ∧ ∀ y ∈ pre, y.2 = true ∧ 0 < y.1.2.2.length ∧ KL .u64 W y.1.2.1 y.1.2.2 ∧ Off y.1.2.1 v.ownBlock ∧ Off y.1.2.1 (some Bo)
theorem OwnE.walk {α : Type} {e : TypeId} {sz : Nat} {en : α → List Value} {w w1 : World} {base : Nat} {v : Value} {l : List α} {row : Option Nat} (h : OwnE e sz en w base v l) (hg : w.grownBy w1 row) (hr : ∀ r, row = some r → ∃ o : Obj, w.heap[r]? = some o ∧ o.isCells = false) : OwnE e sz en w1 base v l := by
 refine h.kept hg ?_
 rcases h.2 with ⟨rfl, _⟩ | ⟨g, cap, cur, rfl, _, hgb, _⟩
 ·exact .inl rfl
 ·refine .inr fun e' => ?_
  obtain ⟨o, ho, hc⟩ := hr g (by simpa [Value.ownBlock] using e'.symm)
  rw [hgb] at ho; cases ho; cases hc
theorem bx_walk {w w1 : World} {B : Nat} {t : TypeId} {v : Value} {row : Option Nat} (h : Boxed w B t v) (hg : w.grownBy w1 row) (hr : ∀ r, row = some r → ∃ o : Obj, w.heap[r]? = some o ∧ o.isCells = false) : Boxed w1 B t v :=
 h.kept hg (fun e' => by
  obtain ⟨o, ho, hc⟩ := hr B e'.symm
  rw [show w.heap[B]? = _ from h] at ho; cases ho; cases hc)
theorem DI.own (n₀ Bo : Nat) : Own (DI n₀ Bo) := by
 rintro s X Y row ⟨v, hv, hr, hk⟩ hg hrow
 exact ⟨v, bx_walk hv hg hrow, hr.walk hg hrow, fun y hy => by obtain ⟨k1, k0, k2, k3, k4⟩ := hk y hy; exact ⟨k1, k0, k2.walk hg hrow, k3, k4⟩⟩
def DA (Bo : Nat) (y : Ev) (W : World) : Prop := ∃ v, Boxed W Bo 60 v ∧ (y.2 = true → 0 < y.1.2.2.length ∧ KL .u64 W y.1.2.1 y.1.2.2 ∧ Off y.1.2.1 v.ownBlock ∧ Off y.1.2.1 (some Bo))
theorem DA.walk {Bo : Nat} {y : Ev} {X Y : World} {row : Option Nat} (h : DA Bo y X) (hg : X.grownBy Y row) (hrow : ∀ r, row = some r → ∃ o : Obj, X.heap[r]? = some o ∧ o.isCells = false) : DA Bo y Y := by
 obtain ⟨v, hv, hk⟩ := h
 exact ⟨v, bx_walk hv hg hrow, fun q => by obtain ⟨k0, k2, k3, k4⟩ := hk q; exact ⟨k0, k2.walk hg hrow, k3, k4⟩⟩
theorem DA.of {Bo n₀ : Nat} {y : Ev} {pre : List Ev} {W : World} (hI : DI n₀ Bo pre W) (hT : TE Bo y W) : DA Bo y W := by
 obtain ⟨v, hv, _, _⟩ := hI
 refine ⟨v, hv, fun q => ?_⟩
 obtain ⟨h0, h1, h2⟩ := hT.2 q
 refine ⟨h0, h1, fun g o m c e q2 => (h2 g o m c e).2 ⟨v, hv.cell, q2⟩, fun g o m c e q2 => (h2 g o m c e).1 ?_⟩
 simp only [Option.some.injEq] at q2
 exact q2.symm
theorem ownLt_of {w : World} {Bo : Nat} {v : Value} {t : TypeId} (h : Boxed w Bo t v) (hv : ∀ b, v.ownBlock = some b → b < w.heap.size) : OwnLt w Bo := fun b ⟨u, hu, ho⟩ => by
 rw [h.cell] at hu; cases hu; exact hv b ho
theorem ownAt_iff {w : World} {Bo b : Nat} {v : Value} {t : TypeId} (h : Boxed w Bo t v) : OwnAt w Bo b ↔ v.ownBlock = some b :=
 ⟨fun ⟨u, hu, ho⟩ => by rw [h.cell] at hu; cases hu; exact ho, fun q => ⟨v, h.cell, q⟩⟩
theorem kp_body {n₀ Bo : Nat} {W w1 : World} {v v' : Value} {o : Obj} {t : TypeId} (hc : Boxed W Bo t v) (hn : n₀ ≤ Bo) (hb : ∀ g, v.ownBlock = some g → n₀ ≤ g) (hg : (W.alloc o).grownBy w1 v.ownBlock) (hl : v'.ownBlock = v.ownBlock ∨ v'.ownBlock = some (W.alloc o).heap.size) (hne : some Bo ≠ v.ownBlock)
 (hlt : ∀ g, v'.ownBlock = some g → g < w1.heap.size) : Kp n₀ Bo W (w1.setCell ⟨Bo, 0, none⟩ v') := by
 have hY : Boxed (w1.setCell ⟨Bo, 0, none⟩ v') Bo t v' := ((hc.alloc o).kept hg hne).set v'
 have hs := hg.size
 simp only [World.size_alloc] at hs
 have hcl := hc.lt
 refine ⟨(((Below.refl _ _).alloc (by omega) _).grown hg (by simp; omega) (fun j hj => hb j hj)).setCell hn _, fun b cs tt f hbk hbn ho => ?_, fun b hbl q => ?_, fun _ => ownLt_of hY (fun b q => by have := hlt b q; simpa using this)⟩
 ·have hbl := (Array.getElem?_eq_some_iff.1 hbk).1
  rw [Below.heap_setCell w1 ⟨Bo, 0, none⟩ v' b hbn, hg.block b (by simp; omega) (fun q => ho ((ownAt_iff hc).2 q.symm)), Below.heap_alloc W o b hbl]
 ·have q1 := (ownAt_iff hY).1 q
  rcases hl with hl | hl
  ·exact (ownAt_iff hc).2 (hl ▸ q1)
  ·rw [hl] at q1
   simp at q1; omega
theorem wpListIn_append_run {F : Fence} {n : Nat} {P : Program} {w w' : World} {ops : Array Oper} {rest : List Oper} {o : Oper} {a : Act} {Q : Exit → Act → World → Prop} (hg : o.guard = none) (s x : Operand) (t : TypeId)
 (hop : o.op = Op.call { callee := Callee.builtin Builtin.append, args := #[s, x], argTypes := #[t, t] }) (vs vx v : Value) (hs : a.eval s = vs) (hx : a.eval x = vx)
 (hrun : (Builtin.append_ #[t, t] o.type #[vs, vx]).run P w = .ok v w') (h : wpListIn F n P ops Q rest (a.put o.dst v) w') : wpListIn F n P ops Q (o :: rest) a w := by
 refine wpListIn_plain hg fun K hK' => ?_
 unfold Oper.wpIn
 refine ⟨?_, ?_⟩
 ·simp [Oper.about, hop, resolve, Target.leads, Sem.run_pure]
 ·rw [Oper.semAt_plain F _ _ (by rw [hop]; intro c hc'; cases hc')]
  simp [execOp, hop, resolve, invoke, builtin, hs, hx, hrun, Result.andThen]
  exact hK' _ _ h
theorem DI.add {n₀ Bo : Nat} {pre : List Ev} {W : World} {a : Int} {A : Option Addr} {n c : Nat} {l : List Nat} (hI : DI n₀ Bo pre W) (hA : DA Bo ((a, .slice A n c, l), true) W) (hn : n₀ ≤ Bo) (hb : n₀ ≤ W.heap.size) (hlen : pre.length ≤ 1000) :
 ∃ v g' cap' w1, Boxed W Bo 60 v ∧ (Builtin.append_ #[60, 60] 60 #[v, .slice (some ⟨W.heap.size, 0, none⟩) 1 1]).run Tryz.prog (W.alloc (.cells #[.int .i64 a, .slice A n c] (64 : Nat))) = .ok (.slice (some ⟨g', 0, none⟩) (pre.length + 1) cap') w1 ∧
   Boxed w1 Bo 60 v ∧ Boxed (w1.setCell ⟨Bo, 0, none⟩ (.slice (some ⟨g', 0, none⟩) (pre.length + 1) cap')) Bo 60 (.slice (some ⟨g', 0, none⟩) (pre.length + 1) cap') ∧ KeepsOthers W (w1.setCell ⟨Bo, 0, none⟩ (.slice (some ⟨g', 0, none⟩) (pre.length + 1) cap')) ∧ Below n₀ W (w1.setCell ⟨Bo, 0, none⟩ (.slice (some ⟨g', 0, none⟩) (pre.length + 1) cap')) ∧
   Kp n₀ Bo W (w1.setCell ⟨Bo, 0, none⟩ (.slice (some ⟨g', 0, none⟩) (pre.length + 1) cap')) ∧ DI n₀ Bo (pre ++ [((a, .slice A n c, l), true)]) (w1.setCell ⟨Bo, 0, none⟩ (.slice (some ⟨g', 0, none⟩) (pre.length + 1) cap')) ∧
   (∀ {B2 : Nat} {t2 : TypeId} {u : Value}, Boxed W B2 t2 u → B2 ≠ Bo → t2 ≠ 64 → Boxed (w1.setCell ⟨Bo, 0, none⟩ (.slice (some ⟨g', 0, none⟩) (pre.length + 1) cap')) B2 t2 u) := by
 obtain ⟨v, hv, hrow, hk⟩ := hI
 obtain ⟨v2, hv2, hA⟩ := hA
 obtain rfl : v = v2 := by have := hv.cell.symm.trans hv2.cell; simpa using this
 obtain ⟨a0, a1, a2, a3⟩ := hA rfl
 have hne := hv.not_row (e := 64) (by decide) hrow
 have hB1 : Below W.heap.size W (W.alloc (.cells #[.int .i64 a, .slice A n c] (64 : Nat))) := bZ _ _
 have hlit : EL 2 eS (W.alloc (.cells #[.int .i64 a, .slice A n c] (64 : Nat))) (.slice (some ⟨W.heap.size, 0, none⟩) 1 1) [((a, .slice A n c, l) : Ex)] := (OwnE.lit 64 eS_len W [((a, .slice A n c, l) : Ex)] _ rfl (by simp)).el eS_len
 obtain ⟨v', w1, hrun, ho, hg, hl2, hnn⟩ := appE enT (hrow.alloc _) hlit (by simp; omega) (by simpa using (by omega : pre.length ≤ 1000000)) (by simp)
 have hlm : (pre.map Prod.fst ++ [((a, .slice A n c, l) : Ex)]).length = pre.length + 1 := by simp
 obtain ⟨g', cap', rfl⟩ : ∃ g cap, v' = .slice (some ⟨g, 0, none⟩) (pre.length + 1) cap := by
  obtain ⟨g, cap, h1, _⟩ := ho.form (by rw [hlm]; omega)
  exact ⟨g, cap, by rw [h1, hlm]⟩
 have ho' : w1.ownsRow n₀ 64 2 (.slice (some ⟨g', 0, none⟩) (pre.length + 1) cap') (pre.length + 1) ((pre.map Prod.fst ++ [((a, .slice A n c, l) : Ex)]).flatMap eS) := by
  have q := ho
  unfold OwnE at q
  rwa [hlm] at q
 have hrow' : W.ownsRow n₀ 64 2 v pre.length ((pre.map Prod.fst).flatMap eS) := by
  have q := hrow
  unfold OwnE at q
  rwa [List.length_map] at q
 obtain ⟨hv1, hv3, hr2, hk2, hb2⟩ := hv.appended (by decide) hrow' hb hn ho' hg
 have hkp := kp_body (n₀ := n₀) hv hn (fun g q => (hrow.lt g q).1) hg hl2 hne (fun g q => (ho.lt g q).2)
 have hkk : ∀ (v2 : Value) (l2 : List Nat), KL .u64 W v2 l2 → Off v2 v.ownBlock → Off v2 (some Bo) → KL .u64 (w1.setCell ⟨Bo, 0, none⟩ (.slice (some ⟨g', 0, none⟩) (pre.length + 1) cap')) v2 l2 := fun v2 l2 h1 h2 h3 =>
  ((h1.keep hB1).grown hg h2).grown (grownBy_setCell' _ _ _) h3
 have hoff : ∀ (v2 : Value) (l2 : List Nat), KL .u64 W v2 l2 → 0 < l2.length → Off v2 v.ownBlock → Off v2 (Value.slice (some ⟨g', 0, none⟩) (pre.length + 1) cap').ownBlock := fun v2 l2 h1 h0 h2 => by
  rcases hl2 with e | e
  ·rw [e]; exact h2
  ·rw [e]
   intro g o m c e2 q
   obtain ⟨A5, cap5, e5, h5⟩ := h1
   obtain ⟨g5, off5, e6, h6, _⟩ := h5 h0
   rw [e5, e6] at e2
   simp only [Value.slice.injEq, Option.some.injEq, Addr.mk.injEq, and_true] at e2
   obtain ⟨⟨rfl, rfl⟩, rfl, rfl⟩ := e2
   simp at q
   omega
 refine ⟨v, g', cap', w1, hv, hrun, hv1, hv3, hk2, hb2, hkp, ⟨_, hv3, ?_, ?_⟩, fun h h2 h3 => ((h.alloc _).kept hg (h.not_row h3 hrow')).other h2 _⟩
 ·unfold OwnE
  rw [List.map_append, List.map_singleton, hlm]
  exact hr2
 ·intro y hy
  rw [List.mem_append, List.mem_singleton] at hy
  rcases hy with hy | rfl
  ·obtain ⟨k1, k0, k2, k3, k4⟩ := hk y hy
   exact ⟨k1, k0, hkk _ _ k2 k3 k4, hoff _ _ k2 k0 k3, k4⟩
  ·exact ⟨rfl, a0, hkk _ _ a1 a2 a3, hoff _ _ a1 a0 a2, a3⟩
theorem kp_new {n₀ Bo : Nat} {W : World} {o : Obj} (hn : n₀ ≤ W.heap.size) (hB : Bo < W.heap.size) : Kp n₀ Bo W (W.alloc o) := kp_of (bZ _ _) hn hB
theorem en_of {n₀ Bo : Nat} {pre : List Ev} {W : World} (h : DI n₀ Bo pre W) : ∃ v, Boxed W Bo 60 v ∧ EN W v (pre.map fun y => px y.1) := by
 obtain ⟨v, hv, hrow, hk⟩ := h
 refine ⟨v, hv, pre.map Prod.fst, hrow.el eS_len, fun x hx => ?_, by rw [List.map_map]; rfl⟩
 obtain ⟨y, hy, rfl⟩ := List.mem_map.1 hx
 exact (hk y hy).2.2.1
theorem pl_true : ∀ (ys : List Ev), (∀ y ∈ ys, y.2 = true) → none ∉ ys.map pl ∧ (ys.map pl).filterMap id = ys.map fun y => px y.1
 | [], _ => ⟨by simp, rfl⟩
 | y :: ys, h => by
   obtain ⟨h1, h2⟩ := pl_true ys (fun z hz => h z (by simp [hz]))
   have hy := h y (by simp)
   have e : pl y = some (px y.1) := by unfold pl; rw [if_pos hy]; rfl
   refine ⟨?_, ?_⟩
   ·rw [List.map_cons, e]
    simp only [List.mem_cons, not_or]
    exact ⟨by simp, h1⟩
   ·rw [List.map_cons, List.map_cons, e, List.filterMap_cons]
    simp only [id_eq]
    rw [h2]
theorem decL_t {gn : Nat} {ws : List Nat} {ys : List Ev} (h : ys.map pl = evs gn ws) (hy : ∀ y ∈ ys, y.2 = true) : decL gn ws = some (ys.map fun y => px y.1) := by
 obtain ⟨h1, h2⟩ := pl_true ys hy
 unfold decL
 rw [← h, if_neg h1, h2]
theorem decL_f {gn : Nat} {ws : List Nat} {pre : List Ev} (h : pre.map pl <+: evs gn ws) (hy : ∃ y ∈ pre, y.2 = false) : decL gn ws = none := by
 unfold decL
 rw [if_pos]
 obtain ⟨y, h1, h2⟩ := hy
 refine h.subset (List.mem_map.2 ⟨y, h1, ?_⟩)
 unfold pl
 rw [h2]
 rfl
end Go.Proofs.YtkdhdibjbabgfaaGreatDoor
end
