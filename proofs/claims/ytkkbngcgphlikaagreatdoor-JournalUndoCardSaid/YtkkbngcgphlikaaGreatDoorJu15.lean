/-
  Part of the proof of JournalUndo.
-/
import Derived.Test.YtkkbngcgphlikaaGreatDoorJu13
import Derived.Test.YtkkbngcgphlikaaGreatDoorJu0
set_option maxRecDepth 100000
set_option maxHeartbeats 1000000
set_option linter.unusedVariables false
set_option linter.unusedSimpArgs false
section
namespace Go.Proofs.YtkkbngcgphlikaaGreatDoor
open Go.RowKit Go.ChangeShapes Go.WideShapes Go.Deep Go.Shelf
attribute [local go_sem] Oper.semAt_some
def slV : Value → Value
 | .slice a n c => .slice a n c
 | _ => .slice none 0 0
def eS (x : Ex) : List Value := [.int .i64 x.1, slV x.2.1]
theorem eS_len (x : Ex) : (eS x).length = 2 := rfl
theorem slV_one (v : Value) : (slV v).oneCell' = true := by unfold slV; split <;> rfl
theorem infoEn : (Tryz.prog.info? 136).map (fun i => (i.zero, i.size, i.bytes)) = some (some (.agg #[.int .i64 0, .slice none 0 0]), 2, 32) := by kernel_rfl
theorem enT : ElT Tryz.prog 131 136 2 32 eS where
 und := Tryz.underlying131
 info := by
  obtain ⟨i0, hi, hz0, hz1, hz2⟩ := info_parts infoEn
  exact ⟨i0, _, hi, hz0, hz1, hz2, by rfl⟩
 len := eS_len
 one := fun x u hu => by
  simp only [eS, List.mem_cons, List.not_mem_nil, or_false] at hu
  rcases hu with rfl | rfl
  ·rfl
  ·exact slV_one _
 pos := by decide
 small := by decide
def px (x : Ex) : Pe := (x.1, x.2.2)
def EN (w : World) (v : Value) (l : List Pe) : Prop := ∃ xs : List Ex, EL 2 eS w v xs ∧ (∀ x ∈ xs, KL .u64 w x.2.1 x.2.2) ∧ xs.map px = l
theorem EN.keep {w w1 : World} {v : Value} {l : List Pe} (h : EN w v l) (hb : Below w.heap.size w w1) : EN w1 v l := by
 obtain ⟨xs, h1, h2, h3⟩ := h
 exact ⟨xs, h1.keep hb, fun x hx => (h2 x hx).keep hb, h3⟩
theorem EN.nil (w : World) : EN w (.slice none 0 0) [] := ⟨[], EL.nil _ _ _ _ _, fun x hx => by simp at hx, rfl⟩
def decL (gn : Nat) (ws : List Nat) : Option (List Pe) := if none ∈ evs gn ws then none else some ((evs gn ws).filterMap id)
theorem KL.grown {K : IntKind} {w w1 : World} {v : Value} {l : List Nat} {row : Option Nat} (h : KL K w v l) (hg : w.grownBy w1 row) (hne : ∀ g o m c, v = .slice (some ⟨g, o, none⟩) m c → row ≠ some g) : KL K w1 v l := by
 obtain ⟨A, cap, hv, h⟩ := h
 refine ⟨A, cap, hv, fun hl => ?_⟩
 obtain ⟨g, off, rfl, hg1, hc, hi⟩ := h hl
 refine ⟨g, off, rfl, Nat.lt_of_lt_of_le hg1 hg.size, hc, fun i hil => ?_⟩
 rw [← hi i hil]
 exact World.cell?_of_block (hg.block g hg1 (fun e => hne g off _ _ hv e.symm))
theorem KL.walk {K : IntKind} {w w1 : World} {v : Value} {l : List Nat} {row : Option Nat} (h : KL K w v l) (hg : w.grownBy w1 row) (hr : ∀ r, row = some r → ∃ o : Obj, w.heap[r]? = some o ∧ o.isCells = false) : KL K w1 v l := by
 obtain ⟨A, cap, hv, h⟩ := h
 refine ⟨A, cap, hv, fun hl => ?_⟩
 obtain ⟨g, off, rfl, hg1, hc, hi⟩ := h hl
 exact ⟨g, off, rfl, Nat.lt_of_lt_of_le hg1 hg.size, hc, fun i hil => cell_kept (hi i hil) hg hr⟩
def Off (v : Value) (r : Option Nat) : Prop := ∀ g o m c, v = .slice (some ⟨g, o, none⟩) m c → r ≠ some g
def DI (n₀ Bo : Nat) (pre : List Ev) (W : World) : Prop := ∃ v, Boxed W Bo 131 v ∧ OwnE 136 2 eS W n₀ v (pre.map Prod.fst) ∧ ∀ y ∈ pre, y.2 = true ∧ 0 < y.1.2.2.length ∧ KL .u64 W y.1.2.1 y.1.2.2 ∧ Off y.1.2.1 v.ownBlock ∧ Off y.1.2.1 (some Bo)
theorem OwnE.walk {α : Type} {e : TypeId} {sz : Nat} {en : α → List Value} {w w1 : World} {base : Nat} {v : Value} {l : List α} {row : Option Nat} (h : OwnE e sz en w base v l) (hg : w.grownBy w1 row) (hr : ∀ r, row = some r → ∃ o : Obj, w.heap[r]? = some o ∧ o.isCells = false) : OwnE e sz en w1 base v l := by
 refine h.kept hg ?_
 rcases h.2 with ⟨rfl, _⟩ | ⟨g, cap, cur, rfl, _, hgb, _⟩
 ·exact .inl rfl
 refine .inr fun e' => ?_
 obtain ⟨o, ho, hc⟩ := hr g (by simpa [Value.ownBlock] using e'.symm)
 rw [hgb] at ho; cases ho; cases hc
theorem bx_walk {w w1 : World} {B : Nat} {t : TypeId} {v : Value} {row : Option Nat} (h : Boxed w B t v) (hg : w.grownBy w1 row) (hr : ∀ r, row = some r → ∃ o : Obj, w.heap[r]? = some o ∧ o.isCells = false) : Boxed w1 B t v :=
 h.kept hg (fun e' => by
  obtain ⟨o, ho, hc⟩ := hr B e'.symm
  rw [show w.heap[B]? = _ from h] at ho; cases ho; cases hc)
theorem DI.own (n₀ Bo : Nat) : Own (DI n₀ Bo) := by
 rintro s X Y row ⟨v, hv, hr, hk⟩ hg hrow
 exact ⟨v, bx_walk hv hg hrow, hr.walk hg hrow, fun y hy => by obtain ⟨k1, k0, k2, k3, k4⟩ := hk y hy; exact ⟨k1, k0, k2.walk hg hrow, k3, k4⟩⟩
def DA (Bo : Nat) (y : Ev) (W : World) : Prop := ∃ v, Boxed W Bo 131 v ∧ (y.2 = true → 0 < y.1.2.2.length ∧ KL .u64 W y.1.2.1 y.1.2.2 ∧ Off y.1.2.1 v.ownBlock ∧ Off y.1.2.1 (some Bo))
theorem DA.walk {Bo : Nat} {y : Ev} {X Y : World} {row : Option Nat} (h : DA Bo y X) (hg : X.grownBy Y row) (hrow : ∀ r, row = some r → ∃ o : Obj, X.heap[r]? = some o ∧ o.isCells = false) : DA Bo y Y := by
 obtain ⟨v, hv, hk⟩ := h
 exact ⟨v, bx_walk hv hg hrow, fun q => by obtain ⟨k0, k2, k3, k4⟩ := hk q; exact ⟨k0, k2.walk hg hrow, k3, k4⟩⟩
theorem DA.of {Bo n₀ : Nat} {y : Ev} {pre : List Ev} {W : World} (hI : DI n₀ Bo pre W) (hT : TE Bo y W) : DA Bo y W := by
 obtain ⟨v, hv, _, _⟩ := hI
 refine ⟨v, hv, fun q => ?_⟩
 obtain ⟨h0, h1, h2⟩ := hT.2 q
 refine ⟨h0, h1, fun g o m c e q2 => (h2 g o m c e).2 ⟨v, hv.cell, q2⟩, fun g o m c e q2 => (h2 g o m c e).1 ?_⟩
 simp only [Option.some.injEq] at q2
 exact q2.symm
theorem ownLt_of {w : World} {Bo : Nat} {v : Value} {t : TypeId} (h : Boxed w Bo t v) (hv : ∀ b, v.ownBlock = some b → b < w.heap.size) : OwnLt w Bo := fun b ⟨u, hu, ho⟩ => by
 rw [h.cell] at hu; cases hu; exact hv b ho
theorem ownAt_iff {w : World} {Bo b : Nat} {v : Value} {t : TypeId} (h : Boxed w Bo t v) : OwnAt w Bo b ↔ v.ownBlock = some b :=
 ⟨fun ⟨u, hu, ho⟩ => by rw [h.cell] at hu; cases hu; exact ho, fun q => ⟨v, h.cell, q⟩⟩
theorem kp_body {n₀ Bo : Nat} {W w1 : World} {v v' : Value} {o : Obj} {t : TypeId} (hc : Boxed W Bo t v) (hn : n₀ ≤ Bo) (hb : ∀ g, v.ownBlock = some g → n₀ ≤ g) (hg : (W.alloc o).grownBy w1 v.ownBlock) (hl : v'.ownBlock = v.ownBlock ∨ v'.ownBlock = some (W.alloc o).heap.size) (hne : some Bo ≠ v.ownBlock)
 (hlt : ∀ g, v'.ownBlock = some g → g < w1.heap.size) : Kp n₀ Bo W (w1.setCell ⟨Bo, 0, none⟩ v') := by
 have hY : Boxed (w1.setCell ⟨Bo, 0, none⟩ v') Bo t v' := ((hc.alloc o).kept hg hne).set v'
 have hs := hg.size
 simp only [World.size_alloc] at hs
 have hcl := hc.lt
 refine ⟨(((Below.refl _ _).alloc (by omega) _).grown hg (by simp; omega) (fun j hj => hb j hj)).setCell hn _, fun b cs tt f hbk hbn ho => ?_, fun b hbl q => ?_, fun _ => ownLt_of hY (fun b q => by have := hlt b q; simpa using this)⟩
 ·have hbl := (Array.getElem?_eq_some_iff.1 hbk).1
  rw [Below.heap_setCell w1 ⟨Bo, 0, none⟩ v' b hbn, hg.block b (by simp; omega) (fun q => ho ((ownAt_iff hc).2 q.symm)), Below.heap_alloc W o b hbl]
 have q1 := (ownAt_iff hY).1 q
 rcases hl with hl | hl
 ·exact (ownAt_iff hc).2 (hl ▸ q1)
 rw [hl] at q1
 simp at q1; omega
theorem wpListIn_append_run {F : Fence} {n : Nat} {P : Program} {w w' : World} {ops : Array Oper} {rest : List Oper} {o : Oper} {a : Act} {Q : Exit → Act → World → Prop} (hg : o.guard = none) (s x : Operand) (t : TypeId)
 (hop : o.op = Op.call { callee := Callee.builtin Builtin.append, args := #[s, x], argTypes := #[t, t] }) (vs vx v : Value) (hs : a.eval s = vs) (hx : a.eval x = vx)
 (hrun : (Builtin.append_ #[t, t] o.type #[vs, vx]).run P w = .ok v w') (h : wpListIn F n P ops Q rest (a.put o.dst v) w') : wpListIn F n P ops Q (o :: rest) a w := by
 refine wpListIn_plain hg fun K hK' => ?_
 unfold Oper.wpIn
 refine ⟨?_, ?_⟩
 ·simp [Oper.about, hop, resolve, Target.leads, Sem.run_pure]
 rw [Oper.semAt_plain F _ _ (by rw [hop]; intro c hc'; cases hc')]
 simp [execOp, hop, resolve, invoke, builtin, hs, hx, hrun, Result.andThen]
 exact hK' _ _ h
theorem DI.add {n₀ Bo : Nat} {pre : List Ev} {W : World} {a : Int} {A : Option Addr} {n c : Nat} {l : List Nat} (hI : DI n₀ Bo pre W) (hA : DA Bo ((a, .slice A n c, l), true) W) (hn : n₀ ≤ Bo) (hb : n₀ ≤ W.heap.size) (hlen : pre.length ≤ 1000) :
 ∃ v g' cap' w1, Boxed W Bo 131 v ∧ (Builtin.append_ #[131, 131] 131 #[v, .slice (some ⟨W.heap.size, 0, none⟩) 1 1]).run Tryz.prog (W.alloc (.cells #[.int .i64 a, .slice A n c] (136 : Nat))) = .ok (.slice (some ⟨g', 0, none⟩) (pre.length + 1) cap') w1 ∧
   Boxed w1 Bo 131 v ∧ Boxed (w1.setCell ⟨Bo, 0, none⟩ (.slice (some ⟨g', 0, none⟩) (pre.length + 1) cap')) Bo 131 (.slice (some ⟨g', 0, none⟩) (pre.length + 1) cap') ∧ KeepsOthers W (w1.setCell ⟨Bo, 0, none⟩ (.slice (some ⟨g', 0, none⟩) (pre.length + 1) cap')) ∧ Below n₀ W (w1.setCell ⟨Bo, 0, none⟩ (.slice (some ⟨g', 0, none⟩) (pre.length + 1) cap')) ∧
   Kp n₀ Bo W (w1.setCell ⟨Bo, 0, none⟩ (.slice (some ⟨g', 0, none⟩) (pre.length + 1) cap')) ∧ DI n₀ Bo (pre ++ [((a, .slice A n c, l), true)]) (w1.setCell ⟨Bo, 0, none⟩ (.slice (some ⟨g', 0, none⟩) (pre.length + 1) cap')) ∧
   (∀ {B2 : Nat} {t2 : TypeId} {u : Value}, Boxed W B2 t2 u → B2 ≠ Bo → t2 ≠ 136 → Boxed (w1.setCell ⟨Bo, 0, none⟩ (.slice (some ⟨g', 0, none⟩) (pre.length + 1) cap')) B2 t2 u) := by
 obtain ⟨v, hv, hrow, hk⟩ := hI
 obtain ⟨v2, hv2, hA⟩ := hA
 obtain rfl : v = v2 := by have := hv.cell.symm.trans hv2.cell; simpa using this
 obtain ⟨a0, a1, a2, a3⟩ := hA rfl
 have hne := hv.not_row (e := 136) (by decide) hrow
 have hB1 : Below W.heap.size W (W.alloc (.cells #[.int .i64 a, .slice A n c] (136 : Nat))) := bZ _ _
 have hlit : EL 2 eS (W.alloc (.cells #[.int .i64 a, .slice A n c] (136 : Nat))) (.slice (some ⟨W.heap.size, 0, none⟩) 1 1) [((a, .slice A n c, l) : Ex)] := (OwnE.lit 136 eS_len W [((a, .slice A n c, l) : Ex)] _ rfl (by simp)).el eS_len
 obtain ⟨v', w1, hrun, ho, hg, hl2, hnn⟩ := appE enT (hrow.alloc _) hlit (by simp; omega) (by simpa using (by omega : pre.length ≤ 1000000)) (by simp)
 have hlm : (pre.map Prod.fst ++ [((a, .slice A n c, l) : Ex)]).length = pre.length + 1 := by simp
 obtain ⟨g', cap', rfl⟩ : ∃ g cap, v' = .slice (some ⟨g, 0, none⟩) (pre.length + 1) cap := by
  obtain ⟨g, cap, h1, _⟩ := ho.form (by rw [hlm]; omega)
  exact ⟨g, cap, by rw [h1, hlm]⟩
 have ho' : w1.ownsRow n₀ 136 2 (.slice (some ⟨g', 0, none⟩) (pre.length + 1) cap') (pre.length + 1) ((pre.map Prod.fst ++ [((a, .slice A n c, l) : Ex)]).flatMap eS) := by
  have q := ho
  unfold OwnE at q
  rwa [hlm] at q
 have hrow' : W.ownsRow n₀ 136 2 v pre.length ((pre.map Prod.fst).flatMap eS) := by
  have q := hrow
  unfold OwnE at q
  rwa [List.length_map] at q
 obtain ⟨hv1, hv3, hr2, hk2, hb2⟩ := hv.appended (by decide) hrow' hb hn ho' hg
 have hkp := kp_body (n₀ := n₀) hv hn (fun g q => (hrow.lt g q).1) hg hl2 hne (fun g q => (ho.lt g q).2)
 have hkk : ∀ (v2 : Value) (l2 : List Nat), KL .u64 W v2 l2 → Off v2 v.ownBlock → Off v2 (some Bo) → KL .u64 (w1.setCell ⟨Bo, 0, none⟩ (.slice (some ⟨g', 0, none⟩) (pre.length + 1) cap')) v2 l2 := fun v2 l2 h1 h2 h3 =>
  ((h1.keep hB1).grown hg h2).grown (grownBy_setCell' _ _ _) h3
 have hoff : ∀ (v2 : Value) (l2 : List Nat), KL .u64 W v2 l2 → 0 < l2.length → Off v2 v.ownBlock → Off v2 (Value.slice (some ⟨g', 0, none⟩) (pre.length + 1) cap').ownBlock := fun v2 l2 h1 h0 h2 => by
  rcases hl2 with e | e
  ·rw [e]; exact h2
  rw [e]
  intro g o m c e2 q
  obtain ⟨A5, cap5, e5, h5⟩ := h1
  obtain ⟨g5, off5, e6, h6, _⟩ := h5 h0
  rw [e5, e6] at e2
  simp only [Value.slice.injEq, Option.some.injEq, Addr.mk.injEq, and_true] at e2
  obtain ⟨⟨rfl, rfl⟩, rfl, rfl⟩ := e2
  simp at q
  omega
 refine ⟨v, g', cap', w1, hv, hrun, hv1, hv3, hk2, hb2, hkp, ⟨_, hv3, ?_, ?_⟩, fun h h2 h3 => ((h.alloc _).kept hg (h.not_row h3 hrow')).other h2 _⟩
 ·unfold OwnE
  rw [List.map_append, List.map_singleton, hlm]
  exact hr2
 intro y hy
 rw [List.mem_append, List.mem_singleton] at hy
 rcases hy with hy | rfl
 ·obtain ⟨k1, k0, k2, k3, k4⟩ := hk y hy
  exact ⟨k1, k0, hkk _ _ k2 k3 k4, hoff _ _ k2 k0 k3, k4⟩
 exact ⟨rfl, a0, hkk _ _ a1 a2 a3, hoff _ _ a1 a0 a2, a3⟩
theorem kp_new {n₀ Bo : Nat} {W : World} {o : Obj} (hn : n₀ ≤ W.heap.size) (hB : Bo < W.heap.size) : Kp n₀ Bo W (W.alloc o) := kp_of (bZ _ _) hn hB
theorem en_of {n₀ Bo : Nat} {pre : List Ev} {W : World} (h : DI n₀ Bo pre W) : ∃ v, Boxed W Bo 131 v ∧ EN W v (pre.map fun y => px y.1) := by
 obtain ⟨v, hv, hrow, hk⟩ := h
 refine ⟨v, hv, pre.map Prod.fst, hrow.el eS_len, fun x hx => ?_, by rw [List.map_map]; rfl⟩
 obtain ⟨y, hy, rfl⟩ := List.mem_map.1 hx
 exact (hk y hy).2.2.1
theorem pl_true : ∀ (ys : List Ev), (∀ y ∈ ys, y.2 = true) → none ∉ ys.map pl ∧ (ys.map pl).filterMap id = ys.map fun y => px y.1
 | [], _ => ⟨by simp, rfl⟩
 | y :: ys, h => by
   obtain ⟨h1, h2⟩ := pl_true ys (fun z hz => h z (by simp [hz]))
   have hy := h y (by simp)
   have e : pl y = some (px y.1) := by unfold pl; rw [if_pos hy]; rfl
   refine ⟨?_, ?_⟩
   ·rw [List.map_cons, e]
    simp only [List.mem_cons, not_or]
    exact ⟨by simp, h1⟩
   ·rw [List.map_cons, List.map_cons, e, List.filterMap_cons]
    simp only [id_eq]
    rw [h2]
theorem decL_t {gn : Nat} {ws : List Nat} {ys : List Ev} (h : ys.map pl = evs gn ws) (hy : ∀ y ∈ ys, y.2 = true) : decL gn ws = some (ys.map fun y => px y.1) := by
 obtain ⟨h1, h2⟩ := pl_true ys hy
 unfold decL
 rw [← h, if_neg h1, h2]
theorem decL_f {gn : Nat} {ws : List Nat} {pre : List Ev} (h : pre.map pl <+: evs gn ws) (hy : ∃ y ∈ pre, y.2 = false) : decL gn ws = none := by
 unfold decL
 rw [if_pos]
 obtain ⟨y, h1, h2⟩ := hy
 refine h.subset (List.mem_map.2 ⟨y, h1, ?_⟩)
 unfold pl
 rw [h2]
 rfl
end Go.Proofs.YtkkbngcgphlikaaGreatDoor
end
section
namespace Go.Proofs.YtkkbngcgphlikaaGreatDoor
open Go.RowKit
theorem room_ok (W L : Int) (w : World) (h : gOk W L = true) :
 Calls Tryz.prog 133 #[.agg #[.int .i64 W, .int .i64 L]] w fun e w' => e = .returned (.int .i64 (gN W L)) ∧ Below w.heap.size w w' := by
 obtain ⟨h1, h2, h3, h4⟩ := gOk_t h
 have e : (W - (10 + 73 * L)).tdiv 33 = gN W L := by rw [Int.tdiv_eq_ediv_of_nonneg (by omega)]; rfl
 rw [← e]
 exact room_any W L w h1 h2 (by omega) h3
theorem table_t (W L : Int) (w : World) (h : gOk W L = true) :
 Calls Tryz.prog 74 #[.agg #[.int .i64 W, .int .i64 L]] w fun e w' => e = .returned (.agg #[.int .i64 (10 + 73 * L), .int .i64 (gN W L)]) ∧ Below w.heap.size w w' := by
 obtain ⟨h1, h2, _, _⟩ := gOk_t h
 have H := lh h
 clear h
 go_enter Tryz.func74, Tryz.ntmps74
 go_wp2_with fail
 refine (right_t W L _ H.out).mono ?_
 rintro e w1 ⟨rfl, hb1⟩
 have j1 := ((C2.new w (.int .i64 W) (.int .i64 L) 37).alloc (.cells #[.int .i64 0, .int .i64 0] 70)).keep hb1
 have k1 := (C2.new (w.alloc (.cells #[.int .i64 W, .int .i64 L] 37)) (.int .i64 0) (.int .i64 0) 70).keep hb1
 have f1 := (F2.new (w.alloc (.cells #[.int .i64 W, .int .i64 L] 37)) (.int .i64 0) (.int .i64 0) 70).keep (by simp) hb1
 simp only [World.size_alloc] at k1 f1
 have lt1 := j1.lt
 have lt2 := k1.lt
 obtain ⟨c0, c1⟩ := id k1
 obtain ⟨d0, d1⟩ := id j1
 obtain ⟨g0, g1⟩ := id f1
 have hB : Below w.heap.size w w1 := ((bZ _ _).alloc (by simp) _).trans (hb1.mono (by simp; omega))
 go_wp2_with fail
 go_region_with (first
  | (go_at_call 132; refine (table_any W L _ h1 h2).mono ?_; rintro e w6 ⟨rfl, hb⟩; have BB : Below w.heap.size w w6 := (by first | exact BB.trans (hb.mono (Nat.le_of_lt jj.lt)) | exact hB.drew.trans (hb.mono (Nat.le_of_lt j1.drew.lt)) | exact hB.trans (hb.mono (Nat.le_of_lt j1.lt))); have jj : C2 w6 w.heap.size (.int .i64 W) (.int .i64 L) := (by first | exact jj.keep hb | exact j1.drew.keep hb | exact j1.keep hb); have ff : F2 w6 (w.heap.size + 1) := (by first | exact ff.keep kk.lt hb | exact f1.drew.keep k1.drew.lt hb | exact f1.keep k1.lt hb); have kk : C2 w6 (w.heap.size + 1) (.int .i64 0) (.int .i64 0) := (by first | exact kk.keep hb | exact k1.drew.keep hb | exact k1.keep hb); obtain ⟨d0, d1⟩ := id jj; obtain ⟨c0, c1⟩ := id kk; obtain ⟨g0, g1⟩ := id ff)
  | (go_at_call 133; refine (room_ok W L _ H.out).mono ?_; rintro e w7 ⟨rfl, hb⟩; have BB : Below w.heap.size w w7 := (by first | exact BB.trans (hb.mono (Nat.le_of_lt jj.lt)) | exact hB.drew.trans (hb.mono (Nat.le_of_lt j1.drew.lt)) | exact hB.trans (hb.mono (Nat.le_of_lt j1.lt))); have jj : C2 w7 w.heap.size (.int .i64 W) (.int .i64 L) := (by first | exact jj.keep hb | exact j1.drew.keep hb | exact j1.keep hb); have ff : F2 w7 (w.heap.size + 1) := (by first | exact ff.keep kk.lt hb | exact f1.drew.keep k1.drew.lt hb | exact f1.keep k1.lt hb); have kk : C2 w7 (w.heap.size + 1) (.int .i64 0) (.int .i64 0) := (by first | exact kk.keep hb | exact k1.drew.keep hb | exact k1.keep hb); obtain ⟨d0, d1⟩ := id jj; obtain ⟨c0, c1⟩ := id kk; obtain ⟨g0, g1⟩ := id ff))
 all_goals
  go_wp2_with fail
  refine bodyPost_ret (v := .agg #[.int .i64 (10 + 73 * L), .int .i64 (gN W L)]) (by simp [results, Tryz.results74, go_sem, c0, c1]) rfl ⟨rfl, ?_⟩
  exact (BB.setCell (by simp) _).setCell (by simp) _
end Go.Proofs.YtkkbngcgphlikaaGreatDoor
end
section
namespace Go.Proofs.YtkkbngcgphlikaaGreatDoor
open Go.RowKit Go.ChangeShapes Go.WideShapes Go.Deep Go.Shelf
attribute [local go_sem] Oper.semAt_some
theorem EL.walk {α : Type} [Inhabited α] {sz : Nat} {en : α → List Value} (hen : ∀ x, (en x).length = sz) {w w1 : World} {v : Value} {l : List α} {row : Option Nat} (h : EL sz en w v l) (hg : w.grownBy w1 row) (hr : ∀ r, row = some r → ∃ o : Obj, w.heap[r]? = some o ∧ o.isCells = false) : EL sz en w1 v l := by
 obtain ⟨A, cap, hv, h⟩ := h
 refine ⟨A, cap, hv, fun hl => ?_⟩
 obtain ⟨g, off, rfl, hg1, hc, hi⟩ := h hl
 refine ⟨g, off, rfl, Nat.lt_of_lt_of_le hg1 hg.size, hc, fun i hil j hj => ?_⟩
 have q := hi i hil j hj
 rw [List.getElem?_eq_getElem (by rw [hen]; exact hj)] at q ⊢
 exact cell_kept q hg hr
theorem EN.walk {w w1 : World} {v : Value} {l : List Pe} {row : Option Nat} (h : EN w v l) (hg : w.grownBy w1 row) (hr : ∀ r, row = some r → ∃ o : Obj, w.heap[r]? = some o ∧ o.isCells = false) : EN w1 v l := by
 obtain ⟨xs, h1, h2, h3⟩ := h
 exact ⟨xs, h1.walk eS_len hg hr, fun x hx => (h2 x hx).walk hg hr, h3⟩
theorem evs_len (gn : Nat) : ∀ (f : Nat) (ws : List Nat), (evsF gn f ws).length ≤ ws.length
 | _, [] => by unfold evsF; simp
 | 0, _ :: _ => by unfold evsF; simp
 | f + 1, w :: ws => by
   unfold evsF
   split
   ·have := evs_len gn f ((w :: ws).drop (manyN (w :: ws) + 2))
    rw [List.length_drop, List.length_cons] at this
    rw [List.length_cons, List.length_cons]
    omega
   ·simp
theorem Decode_in (n : Nat) (hn : 3 ≤ n) (gn : Nat) (A : Option Addr) (N cap : Nat) (ws : List Nat) (w : World) (hgn : gn < 18446744073709551616) (hW : WL ws) (hlen : ws.length ≤ 800) (hN : ws.length = N) (hv : KL .u64 w (.slice A N cap) ws) :
 CallsIn Fence.wide n Tryz.prog 187 #[.int .u64 (gn : Nat), .slice A N cap] w fun e W' => ∃ v, e = .returned (.tuple #[v, .bool (decL gn ws).isSome]) ∧ EN W' v ((decL gn ws).getD []) ∧ Below w.heap.size w W' := by
 have hn1 : 1 ≤ n := by omega
 have hnE : (evs gn ws).length ≤ 1000 := Nat.le_trans (evs_len gn _ ws) (by omega)
 refine callsIn_of_wp_marks Tryz.func187 rfl trivial ?_ rfl
 simp only [Tryz.ntmps187, List.size_toArray, List.length_cons, List.length_nil, Nat.reduceAdd, Nat.reduceSub, Array.replicate_succ, Array.replicate_zero, List.push_toArray, List.append_toArray, List.nil_append, List.cons_append]
 gi_wp2
 refine wpIn_wide.2 (wp_scope_straight ((wpIn_wide (n := n)).1 ?_))
 gi_wp2
 refine wpIn_label ?_
 gi_wp2
 refine ⟨trivial, (entries_in (n - 1) gn A N cap _).mono ?_⟩
 rintro e w' ⟨rfl, rfl⟩
 gi_wp2
 have bO := (((Boxed.new w 131 (.slice none 0 0)).alloc (.cells #[.bool true] 4)).alloc (.cells #[.int .u64 (gn : Nat)] 40)).alloc (.cells #[.slice A N cap] 25)
 have bA := ((Boxed.new (w.alloc (.cells #[.slice none 0 0] 131)) 4 (.bool true)).alloc (.cells #[.int .u64 (gn : Nat)] 40)).alloc (.cells #[.slice A N cap] 25)
 have bG := (Boxed.new ((w.alloc (.cells #[.slice none 0 0] 131)).alloc (.cells #[.bool true] 4)) 40 (.int .u64 (gn : Nat))).alloc (.cells #[.slice A N cap] 25)
 have bW := Boxed.new (((w.alloc (.cells #[.slice none 0 0] 131)).alloc (.cells #[.bool true] 4)).alloc (.cells #[.int .u64 (gn : Nat)] 40)) 25 (.slice A N cap)
 have hB0 : Below w.heap.size w ((((w.alloc (.cells #[.slice none 0 0] 131)).alloc (.cells #[.bool true] 4)).alloc (.cells #[.int .u64 (gn : Nat)] 40)).alloc (.cells #[.slice A N cap] 25)) := (((bZ w _).alloc (by simp) _).alloc (by simp; omega) _).alloc (by simp; omega) _
 have hsz : ((((w.alloc (.cells #[.slice none 0 0] 131)).alloc (.cells #[.bool true] 4)).alloc (.cells #[.int .u64 (gn : Nat)] 40)).alloc (.cells #[.slice A N cap] 25)).heap.size = w.heap.size + 4 := by simp
 simp only [World.size_alloc] at bO bA bG bW
 obtain ⟨W0, hW0⟩ : ∃ W0, ((((w.alloc (.cells #[.slice none 0 0] 131)).alloc (.cells #[.bool true] 4)).alloc (.cells #[.int .u64 (gn : Nat)] 40)).alloc (.cells #[.slice A N cap] 25)) = W0 := ⟨_, rfl⟩
 rw [hW0] at bO bA bG bW hB0 hsz ⊢
 clear hW0
 refine wpIn_rangeFunc_told rfl hn1 (gf := 213) (lb := #[.pointer (some ⟨w.heap.size + 1 + 1 + 1, 0, none⟩), .pointer (some ⟨w.heap.size + 1 + 1, 0, none⟩)]) rfl trivial (enters_of Tryz.func213 (by kernel_rfl) rfl)
  (ents_told (n - 1) (by omega) w.heap.size (w.heap.size + 1 + 1) (w.heap.size + 1 + 1 + 1) w.heap.size gn (.slice A N cap) ws hW hlen hgn W0 (by omega) (ownLt_of bO (by simp [Value.ownBlock])) bG (by omega) (fun q => by have := (ownAt_iff bO).1 q; simp [Value.ownBlock] at this) bW.cell (by omega) (by omega) (fun w1 hb => hv.keep (hB0.trans hb)))
  kp_t (kp_b (by omega) (by omega)) (Below.refl _ _) (fun _ => rfl)
  (fun pre W => (DI w.heap.size w.heap.size pre W ∧ Boxed W (w.heap.size + 1) 4 (.bool true)) ∧ Below w.heap.size w W)
  (fun c pre W => (c = .exit 0 ∧ (∃ y ∈ pre, y.2 = false) ∧ Boxed W w.heap.size 131 (.slice none 0 0) ∧ Boxed W (w.heap.size + 1) 4 (.bool false)) ∧ Below w.heap.size w W)
  (OwnFrom.and (OwnFrom.and (Own.from (DI.own _ _) _) (Own.from (boxed_own (w.heap.size + 1) 4 (fun (_ : List Ev) => Value.bool true)) _)) (ownFrom_below (Nat.le_refl _) (by omega)))
  (fun c => OwnFrom.and (Own.from (fun s A B row hs hg hr => ⟨hs.1, hs.2.1, bx_walk hs.2.2.1 hg hr, bx_walk hs.2.2.2 hg hr⟩) _) (ownFrom_below (Nat.le_refl _) (by omega)))
  ⟨⟨⟨_, bO, OwnE.nil _ _ _ _ _, fun y hy => by simp at hy⟩, bA⟩, hB0⟩
  (fun y a' W => ∃ Bx, Bk W Bx (.int .i64 y.1.1) y.1.2.1 ∧ DA w.heap.size y W ∧ a' = { tmps := #[.int .u64 (gn : Nat), .slice A N cap, undef, undef, .slice none 0 0, .bool false, .pointer (some ⟨w.heap.size, 0, none⟩), .pointer (some ⟨w.heap.size + 1, 0, none⟩), .pointer (some ⟨Bx, 0, none⟩), .bool y.2, .int .u64 (gn : Nat), .slice A N cap, .func (.func 213) #[] #[.pointer (some ⟨w.heap.size + 1 + 1 + 1, 0, none⟩), .pointer (some ⟨w.heap.size + 1 + 1, 0, none⟩)], .agg #[.int .i64 y.1.1, y.1.2.1], .bool y.2, undef, undef, undef, undef, undef, undef, undef, undef], defers := [] })
  (fun y a' _ X Y row hs hg hr => by
    obtain ⟨Bx, h2, h4, h3⟩ := hs
    refine ⟨Bx, (hg.block Bx h2.lt (fun e => ?_)).trans h2, h4.walk hg (fun r e => (hr r e).2), h3⟩
    obtain ⟨_, o, ho, hc⟩ := hr Bx e.symm
    rw [show X.heap[Bx]? = _ from h2] at ho
    cases ho; simp [Obj.isCells] at hc)
  ?assign ?body ?done ?stop
 case assign =>
  rintro l pre y W K ⟨⟨hI, hA⟩, hB⟩ hT hK
  have hDA := DA.of hI hT
  have hbo : w.heap.size < W.heap.size := by obtain ⟨v, hv, _⟩ := hI; exact hv.lt
  have hIa : DI w.heap.size w.heap.size pre (W.alloc (.cells #[.int .i64 y.1.1, y.1.2.1] 136)) := DI.own _ _ _ _ _ none hI (World.grownBy_alloc W _ none) (fun r e => by cases e)
  have hDAa : DA w.heap.size y (W.alloc (.cells #[.int .i64 y.1.1, y.1.2.1] 136)) := hDA.walk (World.grownBy_alloc W _ none) (fun r e => by cases e)
  have hbx := Bk.new W (.int .i64 y.1.1) y.1.2.1
  have hBa := hB.alloc hB.size (.cells #[.int .i64 y.1.1, y.1.2.1] 136)
  have hAa := hA.alloc (.cells #[.int .i64 y.1.1, y.1.2.1] 136)
  obtain ⟨⟨ya, yv, yl⟩, yo⟩ := y
  obtain ⟨⟨A5, m5, c5, hyv⟩, hT2⟩ := hT
  simp only [] at hyv
  subst hyv
  dsimp only at *
  gi_wp2
  exact hK _ _ ((KeepsOthers.alloc _ _).from _) (kp_new hB.size hbo) ⟨⟨hIa, hAa⟩, hBa⟩ ⟨W.heap.size, hbx, hDAa, rfl⟩
 case body =>
  rintro l pre y a' W ⟨⟨hI, hA⟩, hB⟩ ⟨Bx, bX, hDA, rfl⟩ hlt
  obtain ⟨⟨ya, yv, yl⟩, yo⟩ := y
  obtain ⟨x0, x1⟩ := bX.c2
  dsimp only at *
  have hBs := hB.size
  cases yo with
  | true =>
    obtain ⟨A5, m5, c5, rfl⟩ : ∃ A m c, yv = .slice A m c := by
     obtain ⟨v, _, h⟩ := hDA
     obtain ⟨A, c, h, _⟩ := (h rfl).2.1
     exact ⟨A, _, c, h⟩
    obtain ⟨v, g', cap', w1, hv, hrun, hv1, hv2, hk2, hb2, hkp, hDI, hoth⟩ := hI.add hDA (Nat.le_refl _) hB.size (by omega)
    have hc := hv.cell
    have hc1 := hv1.cell
    have hf1 := hv1.frozen
    have hA2 := hoth hA (by omega) (by decide)
    clear hI hDA hoth
    gi_wp2_with (gi_at_builtin; refine wpListIn_append_run rfl _ _ 131 rfl _ _ _ rfl rfl hrun ?_)
    exact ⟨hk2.from _, hkp, ⟨hDI, hA2⟩, hB.trans hb2⟩
  | false =>
    obtain ⟨v, hv, _⟩ := hI
    have hc := hv.cell
    have hf := hv.frozen
    have hcA := hA.cell
    have hfA := hA.frozen
    have h1 := hv.set (.slice none 0 0)
    have h2 := h1.other (B' := w.heap.size + 1) (by omega) (.bool false)
    have h3 := (hA.other (B' := w.heap.size) (by omega) (.slice none 0 0)).set (.bool false)
    clear hDA
    gi_wp2
    exact ⟨((KeepsOthers.setCell _ _ _).trans (KeepsOthers.setCell _ _ _)).from _, ⟨rfl, ⟨_, List.mem_append_right _ (List.mem_singleton.2 rfl), rfl⟩, h2, h3⟩, (hB.setCell (p := ⟨w.heap.size, 0, none⟩) (by simp) _).setCell (p := ⟨w.heap.size + 1, 0, none⟩) (by simp) _⟩
 case done =>
  rintro D ys W hD hys ⟨⟨hI, hA⟩, hB⟩ hK
  have hall : ∀ y ∈ ys, y.2 = true := by
   obtain ⟨v, _, _, h⟩ := hI
   exact fun y hy => (h y hy).1
  have hd := lh (decL_t hys hall)
  obtain ⟨v, hv, hEN⟩ := en_of hI
  have hc := hv.cell
  have hcA := hA.cell
  clear hI hall hys
  gi_wp2
  refine wpIn_wide.2 ?_
  go_region
  all_goals gi_wp2
  rw [Exit.noGoto_ret]
  gi_wp2
  refine ⟨by simp, .inl ⟨_, _, rfl, run_takeDeferred (w := W.drew) hK, ?_⟩⟩
  refine ⟨.tuple #[v, .bool true], by simp [results, Tryz.f187, go_sem], ⟨v, ?_, ?_, hB.drew.trans (belowK_b (w := w) (Nat.le_refl _) W.drew D _ _ (by omega) hK rfl rfl)⟩⟩
  ·rw [hd.out]; rfl
  rw [hd.out]; exact EN.walk (w := W.drew) hEN (grownBy_putObj' _ D _) (fun r e => by cases e; exact ⟨_, hK, rfl⟩)
 rintro D c pre W hD hpre ⟨⟨rfl, hex, hv, hA⟩, hB⟩ hK
 have hd := lh (decL_f hpre hex)
 have hc := hv.cell
 have hcA := hA.cell
 clear hpre hex
 gi_wp2
 refine wpIn_wide.2 ?_
 go_region
 all_goals gi_wp2
 rw [Exit.noGoto_ret]
 gi_wp2
 refine ⟨by simp, .inl ⟨_, _, rfl, run_takeDeferred (w := W.drew) hK, ?_⟩⟩
 refine ⟨.tuple #[.slice none 0 0, .bool false], by simp [results, Tryz.f187, go_sem], ⟨.slice none 0 0, ?_, ?_, hB.drew.trans (belowK_b (w := w) (Nat.le_refl _) W.drew D _ _ (by omega) hK rfl rfl)⟩⟩
 ·rw [hd.out]; rfl
 rw [hd.out]; exact EN.nil _
theorem Decode_any (gn : Nat) (v : Value) (ws : List Nat) (w : World) (hgn : gn < 18446744073709551616) (hW : WL ws) (hlen : ws.length ≤ 800) (hv : KL .u64 w v ws) :
 Calls Tryz.prog 187 #[.int .u64 (gn : Nat), v] w fun e w' => ∃ v', e = .returned (.tuple #[v', .bool (decL gn ws).isSome]) ∧ EN w' v' ((decL gn ws).getD []) ∧ Below w.heap.size w w' := by
 obtain ⟨A, cap, rfl, _⟩ := hv.form rfl
 exact callsIn_wide.1 (Decode_in 3 (by omega) gn A ws.length cap ws w hgn hW hlen rfl hv)
end Go.Proofs.YtkkbngcgphlikaaGreatDoor
end
section
namespace Go.Proofs.YtkkbngcgphlikaaGreatDoor
open Go.RowKit Go.ChangeShapes Go.WideShapes Go.Deep Go.Shelf
attribute [local go_sem] Oper.semAt_some
abbrev Bv := Int × Ex
def bk (L : List Ex) (k : Nat) : List Bv := ((List.range' k (L.length - k)).map fun i : Nat => ((i : Int), L.getD i default)).reverse
theorem bk_nil (L : List Ex) : bk L L.length = [] := by unfold bk; simp
theorem bk_succ (L : List Ex) (k : Nat) (h : k < L.length) : bk L k = bk L (k + 1) ++ [((k : Int), L.getD k default)] := by
 unfold bk
 rw [show L.length - k = (L.length - (k + 1)) + 1 from by omega, List.range'_succ, List.map_cons, List.reverse_cons]
theorem bk_pre (L : List Ex) : ∀ k, k ≤ L.length → bk L k <+: bk L 0
 | 0, _ => List.prefix_refl _
 | k + 1, h => List.IsPrefix.trans (l₂ := bk L k) ⟨_, (bk_succ L k (by omega)).symm⟩ (bk_pre L k (by omega))
theorem bk_len (L : List Ex) (k : Nat) : (bk L k).length = L.length - k := by unfold bk; simp
structure Mb {α : Type} (n₀ Bo Bs : Nat) (t : TypeId) (u : Value) (W : World) (J : List α → World → Prop) (pre : List α) (w : World) : Prop where
 B : Below n₀ W w
 j : J pre w
 J : ∀ W1 W2, J pre W1 → Below W1.heap.size W1 W2 → J pre W2
 n : n₀ ≤ W.heap.size
 o : Bo < w.heap.size
 lt : OwnLt w Bo
 s : Boxed w Bs t u
 ne : Bs ≠ Bo
 no : ¬ OwnAt w Bo Bs
theorem Mb.kp {α : Type} {n₀ Bo Bs : Nat} {t : TypeId} {u : Value} {W w w1 : World} {J : List α → World → Prop} {pre pre' : List α} (h : Mb n₀ Bo Bs t u W J pre w) (hk : Kp n₀ Bo w w1) (hj : J pre' w1) (hJ : ∀ W1 W2, J pre' W1 → Below W1.heap.size W1 W2 → J pre' W2) : Mb n₀ Bo Bs t u W J pre' w1 :=
 ⟨h.B.trans hk.1, hj, hJ, h.n, Nat.lt_of_lt_of_le h.o hk.1.size, hk.2.2.2 h.lt, bx_kp h.s hk h.ne h.no, h.ne, fun q => h.no (hk.2.2.1 Bs h.s.lt q)⟩
theorem abides_below2 {α : Type} {J : List α → World → Prop} {B : Nat} (h : AbidesFrom B J) : ∀ pre W1 W2, J pre W1 → Below W1.heap.size W1 W2 → J pre W2 := fun pre W1 W2 hj hb =>
 h pre W1 W2 none hj ⟨hb.os, hb.tape, hb.output, hb.size, fun k hk _ => hb.block k hk⟩ (fun r e => by cases e)
theorem bwd1_in (n : Nat) (hn : 1 ≤ n) (l Bo Bl n₀ N cap : Nat) (A : Option Addr) (L : List Ex) (hlen : L.length = N) (hsl : ∀ x ∈ L, ∃ A n c, x.2.1 = .slice A n c) (hN : N ≤ 1000) (J Jx : List Bv → World → Prop)
 (hJ : ∀ pre W1 W2, J pre W1 → Below W1.heap.size W1 W2 → J pre W2)
 (hY : ∀ pre (y : Bv) W, J pre W → y.2 ∈ L → pre.length < N → YieldAt Fence.wide (n - 1) Tryz.prog l #[.int .i64 y.1, .agg #[.int .i64 y.2.1, y.2.2.1]] W fun e W' =>
   (e = .returned (.bool true) ∧ J (pre ++ [y]) W' ∧ Kp n₀ Bo W W') ∨ (e = .returned (.bool false) ∧ Jx (pre ++ [y]) W'))
 (W : World) (hBo : Bo < W.heap.size) (hOl : OwnLt W Bo) (hBl : Boxed W Bl 131 (.slice A N cap)) (hne : Bl ≠ Bo) (hno : ¬ OwnAt W Bo Bl) (hn₀ : n₀ ≤ W.heap.size)
 (hC : ∀ w1, Below n₀ W w1 → EL 2 eS w1 (.slice A N cap) L) (h0 : J [] W) :
 CallsIn Fence.wide n Tryz.prog 199 #[.func (.yield l) #[] #[], .pointer (some ⟨Bl, 0, none⟩)] W fun e W' => (∃ v, e = .returned v) ∧
  ((∃ ys, ys = bk L 0 ∧ J ys W') ∨ (∃ pre, pre <+: bk L 0 ∧ Jx pre W')) := by
 have hmk : Mb n₀ Bo Bl 131 (.slice A N cap) W J [] W := ⟨Below.refl _ _, h0, hJ [], hn₀, hBo, hOl, hBl, hne, hno⟩
 have hb0 : bk L N = [] := by rw [← hlen]; exact bk_nil L
 rw [← hb0] at hmk
 have hbs := lh (fun k (hk : k < N) => bk_succ L k (by omega))
 have hbp := lh (fun k (hk : k ≤ N) => bk_pre L k (by omega))
 have hbl := lh (fun k => bk_len L k)
 have hmem := lh (fun k (hk : k < N) => show L.getD k default ∈ L from by rw [List.getD_eq_getElem?_getD, List.getElem?_eq_getElem (by omega)]; exact List.getElem_mem _)
 have hcell := lh (fun w1 k (hb : Below n₀ W w1) (hk : k < N) => by
  obtain ⟨A', cap', e, h⟩ := EL.form (hC w1 hb) hlen
  obtain ⟨g, off, e2, h2, h3, h4, h5⟩ := h w1 k (Below.refl _ _) hk
  exact (show ∃ g off, A = some ⟨g, off, none⟩ ∧ N ≤ cap ∧ g < w1.heap.size ∧ w1.cell? ⟨g, off + k * 2, none⟩ = some (.int .i64 (L.getD k default).1) ∧ w1.cell? ⟨g, off + k * 2 + 1, none⟩ = some (slV (L.getD k default).2.1) from by
   cases e
   exact ⟨g, off, e2, h2, h4, h5 0 (by decide), h5 1 (by decide)⟩))
 replace hJ := lh hJ
 replace hY := lh hY
 replace hsl := lh hsl
 have hc0 := hBl.cell
 replace hlen := lh hlen
 clear h0 hC hb0
 refine callsIn_of_wp Tryz.func199 rfl trivial ?_ rfl
 simp only [Tryz.ntmps199, List.size_toArray, List.length_cons, List.length_nil, Nat.reduceAdd, Nat.reduceSub, Array.replicate_succ, Array.replicate_zero, List.push_toArray, List.append_toArray, List.nil_append, List.cons_append]
 gi_wp2
 gi_loopw [3] (fun x wr => ∃ k : Nat, k ≤ N ∧ x = .int .i64 ((k : Int) - 1) ∧ Mb n₀ Bo Bl 131 (.slice A N cap) W J (bk L k) wr)
  (fun x wr => (intOf x + 1).toNat)
 case atStart =>
  exact ⟨N, Nat.le_refl _, by go_num, hmk⟩
 obtain ⟨k, hk, rfl, hmr⟩ := hrel
 clear hmk hBl hOl hno
 cases k with
 | succ k =>
   have e1 : ((k + 1 : Nat) : Int) - 1 = (k : Int) := by omega
   rw [e1]
   obtain ⟨g, off, rfl, hcap, hg, c0, c1⟩ := hcell.out wr k hmr.B (by omega)
   have hm := hmem.out k (by omega)
   obtain ⟨A5, n5, c5, h5⟩ := hsl.out _ hm
   have hadd := lh (hbs.out k (by omega))
   have hpx := lh (hbp.out k (by omega))
   have hpl : (bk L (k + 1)).length < N := by rw [hbl.out, hlen.out]; omega
   generalize L.getD k default = x at *
   obtain ⟨xa, xv, xl⟩ := x
   simp only [] at h5
   subst h5
   simp only [slV] at c1
   have s0 := hmr.s.cell
   have k1 : (k : Int) < (N : Int) := by omega
   have k2 : (0 : Int) ≤ (k : Int) := by omega
   obtain ⟨fn, tmps, assign, body, hy, hR⟩ := hY.out (bk L (k + 1)) ((k : Int), (xa, .slice A5 n5 c5, xl)) _ hmr.j hm hpl
   dsimp only at hy
   clear hm hpl e1 hc0
   gi_wp2
   refine hR.mono ?_
   rintro e W3 (⟨rfl, hJ3, hk3⟩ | ⟨rfl, hJx3⟩)
   ·rw [← hadd.out] at hJ3
    have hM3 := hmr.kp hk3 hJ3 (hJ.out _)
    clear hmr s0 c0 c1 hk3 hJ3 hy hR
    gi_wp2
    go_roundw
    case rel => exact ⟨k, by omega, by go_num, hM3⟩
    first | (simp [intOf]; done) | (simp [intOf]; omega)
   gi_wp2
   refine bodyPost_ret (results_none rfl _ _ _) rfl ?_
   exact ⟨⟨_, rfl⟩, .inr ⟨_, by rw [← hadd.out]; exact hpx.out, hJx3⟩⟩
 | zero =>
   have e1 : ((0 : Nat) : Int) - 1 = -1 := by omega
   rw [e1]
   gi_wp2
   go_end0
   exact ⟨⟨_, rfl⟩, .inl ⟨_, rfl, hmr.j⟩⟩
theorem backward_in (n : Nat) (A : Option Addr) (N cap : Nat) (w : World) :
 CallsIn Fence.wide n Tryz.prog 188 #[.slice A N cap] w fun e w' => e = .returned (.func (.func 199) #[] #[.pointer (some ⟨w.heap.size, 0, none⟩)]) ∧ w.alloc (.cells #[.slice A N cap] 131) = w' := by
 refine callsIn_wide.2 ?_
 go_enter Tryz.func188, Tryz.ntmps188
 go_wp2
 go_ret
 exact ⟨rfl, rfl⟩
theorem bwd_told (n : Nat) (hn : 1 ≤ n) (Bo Bl n₀ N cap : Nat) (A : Option Addr) (L : List Ex) (hlen : L.length = N) (hsl : ∀ x ∈ L, ∃ A n c, x.2.1 = .slice A n c) (hN : N ≤ 1000)
 (w : World) (hBo : Bo < w.heap.size) (hOl : OwnLt w Bo) (hBl : Boxed w Bl 131 (.slice A N cap)) (hne : Bl ≠ Bo) (hno : ¬ OwnAt w Bo Bl) (hn₀ : n₀ ≤ w.heap.size)
 (hC : ∀ w1, Below n₀ w w1 → EL 2 eS w1 (.slice A N cap) L) :
 SeqTold Fence.wide n Tryz.prog 199 #[.pointer (some ⟨Bl, 0, none⟩)] (fun y : Bv => #[.int .i64 y.1, .agg #[.int .i64 y.2.1, y.2.2.1]]) (Kp n₀ Bo) (fun y _ => y.2 ∈ L) (fun ys => ys = bk L 0) (fun pre => pre <+: bk L 0) N w := fun l J Jx W hb hJ _ hY h0 =>
 bwd1_in n hn l Bo Bl n₀ N cap A L hlen hsl hN J Jx (abides_below2 hJ) hY W (Nat.lt_of_lt_of_le hBo hb.size) (fun b q => Nat.lt_of_lt_of_le (hOl b ((ownAt_keep hb hBo).1 q)) hb.size) (bx_keep hBl hb) hne (fun q => hno ((ownAt_keep hb hBo).1 q)) (Nat.le_trans hn₀ hb.size) (fun w1 hb1 => hC w1 ((hb.mono hn₀).trans hb1)) h0
end Go.Proofs.YtkkbngcgphlikaaGreatDoor
end
section
set_option maxRecDepth 100000
namespace Go.Proofs.YtkkbngcgphlikaaGreatDoor
open Go.RowKit
def decH (l : List Nat) : Option (Nat × Nat × Nat) := if l.length < 2 then none else
 if hdB (l.getD 0 0 % 65536 : Nat) (l.getD 0 0 / 65536 % 65536 : Nat) (l.getD 1 0 : Nat) && decide (l.getD 0 0 / 4294967296 = 4200005632) then some (l.getD 0 0 % 65536, l.getD 0 0 / 65536 % 65536, l.getD 1 0) else none
end Go.Proofs.YtkkbngcgphlikaaGreatDoor
end
section
set_option maxRecDepth 100000
namespace Go.Proofs.YtkkbngcgphlikaaGreatDoor
open Go.RowKit Go.Lib
theorem below1 (w : World) (o : Obj) : Below w.heap.size w (w.alloc o) := bZ _ _
end Go.Proofs.YtkkbngcgphlikaaGreatDoor
end
