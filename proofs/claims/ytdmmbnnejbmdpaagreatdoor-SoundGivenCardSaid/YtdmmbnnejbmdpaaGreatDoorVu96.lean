/-
  Part of the proof of SoundTells,SoundGiven.
-/
import Derived.Test.YtdmmbnnejbmdpaaGreatDoorVu91
import Derived.Test.YtdmmbnnejbmdpaaGreatDoorVu95
import Derived.Test.YtdmmbnnejbmdpaaGreatDoorRows
import Derived.Deep.RegionHeld3
import Derived.WalkLawsBesides
import Derived.WalkSpells
import Derived.Test.YtdmmbnnejbmdpaaGreatDoorVu90
set_option maxRecDepth 10000
set_option maxHeartbeats 400000
set_option linter.unusedVariables false
set_option linter.unusedSimpArgs false
section
namespace Go.Proofs.YtdmmbnnejbmdpaaGreatDoor
open Go.RowKit
def gOk (W L : Int) : Bool := decide (1 ≤ L ∧ L ≤ 64 ∧ W ≤ 65536 ∧ 43 + 73 * L ≤ W)
def gN (W L : Int) : Int := (W - (10 + 73 * L)) / 33
theorem gOk_t {W L : Int} (h : gOk W L = true) : 1 ≤ L ∧ L ≤ 64 ∧ W ≤ 65536 ∧ 43 + 73 * L ≤ W := of_decide_eq_true h
theorem gOk_f {W L : Int} (h : gOk W L = false) : ¬ (1 ≤ L ∧ L ≤ 64 ∧ W ≤ 65536 ∧ 43 + 73 * L ≤ W) := of_decide_eq_false h
theorem gN_bd {W L : Int} (h : gOk W L = true) : 1 ≤ gN W L ∧ gN W L ≤ 2000 ∧ 33 * gN W L ≤ W - (10 + 73 * L) ∧ W - (10 + 73 * L) ≤ 33 * gN W L + 32 := by
 have := gOk_t h
 unfold gN; omega
theorem tdiv33_bd (x : Int) (h0 : -100000 ≤ x) (h1 : x ≤ 100000) : -100000 ≤ x.tdiv 33 ∧ x.tdiv 33 ≤ 100000 ∧ (33 ≤ x → 1 ≤ x.tdiv 33) ∧ (x < 33 → x.tdiv 33 < 1) := by
 rcases Int.le_total 0 x with h | h
 ·rw [Int.tdiv_eq_ediv_of_nonneg h]; omega
 ·obtain ⟨y, rfl⟩ : ∃ y, x = -y := ⟨-x, by omega⟩
  rw [Int.neg_tdiv, Int.tdiv_eq_ediv_of_nonneg (by omega)]; omega
theorem lane_any (W L i : Int) (w : World) (h1 : 1 ≤ L) (h2 : L ≤ 64) (h3 : 0 ≤ i) (h4 : i ≤ 64) :
 Calls Tryz.prog 133 #[.agg #[.int .i64 W, .int .i64 L], .int .i64 i] w fun e w' => e = .returned (.int .i64 (10 + L + i * 72)) ∧ Below w.heap.size w w' := by
 go_enter Tryz.func133, Tryz.ntmps133
 go_wp2
 go_ret
 exact ⟨rfl, by go_grown⟩
theorem table_any (W L : Int) (w : World) (h1 : 1 ≤ L) (h2 : L ≤ 64) :
 Calls Tryz.prog 116 #[.agg #[.int .i64 W, .int .i64 L]] w fun e w' => e = .returned (.int .i64 (10 + 73 * L)) ∧ Below w.heap.size w w' := by
 go_enter Tryz.func116, Tryz.ntmps116
 go_wp2_with fail
 refine (lane_any W L L _ h1 h2 (by omega) (by omega)).mono ?_
 rintro e w1 ⟨rfl, hb⟩
 go_wp2_with fail
 go_ret
 exact ⟨ret_i (by omega), (bZ _ _).trans (hb.mono (by simp))⟩
theorem room_any (W L : Int) (w : World) (h1 : 1 ≤ L) (h2 : L ≤ 64) (h3 : 1 ≤ W) (h4 : W ≤ 65536) :
 Calls Tryz.prog 100 #[.agg #[.int .i64 W, .int .i64 L]] w fun e w' => e = .returned (.int .i64 ((W - (10 + 73 * L)).tdiv 33)) ∧ Below w.heap.size w w' := by
 go_enter Tryz.func100, Tryz.ntmps100
 go_wp2
 go_region_held3 (fun w' => w'.cell? ⟨w.heap.size, 0, none⟩ = some (.int .i64 W) ∧ w'.cell? ⟨w.heap.size, 1, none⟩ = some (.int .i64 L) ∧ w.heap.size < w'.heap.size ∧ Below w.heap.size w w')
  (((try go_split_ands); refine ⟨?_, ?_, ?_, ?_⟩ <;> first
    | (rw [hb.cell (by assumption)]; assumption) | assumption | (have := hb.size; omega) | (exact Below.trans (by assumption) (hb.mono (Nat.le_of_lt (by assumption))))
    | (go_keep; done) | (go_grown; done)))
  ((go_at_call 116; refine (table_any W L _ h1 h2).mono ?_; rintro e w6 ⟨rfl, hb⟩))
 go_wp2
 go_ret
 go_split_ands
 refine ⟨ret_i ?_, by assumption⟩
 have hb := tdiv33_bd (W - (10 + 73 * L)) (by omega) (by omega)
 rw [IntWalk.i64_in (W - (10 + 73 * L)) ⟨by omega, by omega⟩, IntWalk.i64_in _ ⟨by omega, by omega⟩]
theorem right_t (W L : Int) (w : World) (h : gOk W L = true) :
 Calls Tryz.prog 69 #[.agg #[.int .i64 W, .int .i64 L]] w fun e w' => e = .returned (.bool true) ∧ Below w.heap.size w w' := by
 obtain ⟨h1, h2, h3, h4⟩ := gOk_t h
 clear h
 have hd : 1 ≤ (W - (10 + 73 * L)).tdiv 33 := (tdiv33_bd (W - (10 + 73 * L)) (by omega) (by omega)).2.2.1 (by omega)
 go_enter Tryz.func69, Tryz.ntmps69
 go_wp2_with fail
 refine (room_any W L _ h1 h2 (by omega) h3).mono ?_
 rintro e w1 ⟨rfl, hb⟩
 go_wp2_with fail
 go_ret
 exact ⟨rfl, (bZ _ _).trans (hb.mono (by simp))⟩
theorem right_f (W L : Int) (w : World) (h : gOk W L = false) :
 Calls Tryz.prog 69 #[.agg #[.int .i64 W, .int .i64 L]] w fun e w' => e = .returned (.bool false) ∧ Below w.heap.size w w' := by
 have h1 := gOk_f h
 clear h
 by_cases a1 : L < 1
 ·clear h1
  go_enter Tryz.func69, Tryz.ntmps69
  go_wp2
  go_ret
  exact ⟨rfl, by go_grown⟩
 by_cases a2 : 64 < L
 ·clear h1
  go_enter Tryz.func69, Tryz.ntmps69
  go_wp2
  go_ret
  exact ⟨rfl, by go_grown⟩
 by_cases a3 : W < 1
 ·clear h1
  go_enter Tryz.func69, Tryz.ntmps69
  go_wp2
  go_ret
  exact ⟨rfl, by go_grown⟩
 by_cases a4 : 65536 < W
 ·clear h1
  go_enter Tryz.func69, Tryz.ntmps69
  go_wp2
  go_ret
  exact ⟨rfl, by go_grown⟩
 have hd : (W - (10 + 73 * L)).tdiv 33 < 1 := (tdiv33_bd (W - (10 + 73 * L)) (by omega) (by omega)).2.2.2 (by omega)
 clear h1
 go_enter Tryz.func69, Tryz.ntmps69
 go_wp2_with fail
 refine (room_any W L _ (by omega) (by omega) (by omega) (by omega)).mono ?_
 rintro e w1 ⟨rfl, hb⟩
 go_wp2_with fail
 go_ret
 exact ⟨ret_b (by simp; omega), (bZ _ _).trans (hb.mono (by simp))⟩
end Go.Proofs.YtdmmbnnejbmdpaaGreatDoor
end
section
namespace Go.Proofs.YtdmmbnnejbmdpaaGreatDoor
open Go.RowKit Go.ChangeShapes Go.WideShapes Go.Deep Go.Shelf
attribute [local go_sem] Oper.semAt_some
def slV : Value → Value
 | .slice a n c => .slice a n c
 | _ => .slice none 0 0
def eS (x : Ex) : List Value := [.int .i64 x.1, slV x.2.1]
theorem KL.slV {K : IntKind} {w : World} {v : Value} {l : List Nat} (h : KL K w v l) : slV v = v := by
 obtain ⟨A, cap, rfl, _⟩ := h
 rfl
def px (x : Ex) : Pe := (x.1, x.2.2)
def EN (w : World) (v : Value) (l : List Pe) : Prop := ∃ xs : List Ex, EL 2 eS w v xs ∧ (∀ x ∈ xs, KL .u64 w x.2.1 x.2.2) ∧ xs.map px = l
theorem EN.keep {w w1 : World} {v : Value} {l : List Pe} (h : EN w v l) (hb : Below w.heap.size w w1) : EN w1 v l := by
 obtain ⟨xs, h1, h2, h3⟩ := h
 exact ⟨xs, h1.keep hb, fun x hx => (h2 x hx).keep hb, h3⟩
theorem EN.nil (w : World) : EN w (.slice none 0 0) [] := ⟨[], EL.nil _ _ _ _ _, fun x hx => by simp at hx, rfl⟩
theorem KL.grown {K : IntKind} {w w1 : World} {v : Value} {l : List Nat} {row : Option Nat} (h : KL K w v l) (hg : w.grownBy w1 row) (hne : ∀ g o m c, v = .slice (some ⟨g, o, none⟩) m c → row ≠ some g) : KL K w1 v l := by
 obtain ⟨A, cap, hv, h⟩ := h
 refine ⟨A, cap, hv, fun hl => ?_⟩
 obtain ⟨g, off, rfl, hg1, hc, hi⟩ := h hl
 refine ⟨g, off, rfl, Nat.lt_of_lt_of_le hg1 hg.size, hc, fun i hil => ?_⟩
 rw [← hi i hil]
 exact World.cell?_of_block (hg.block g hg1 (fun e => hne g off _ _ hv e.symm))
theorem ownLt_of {w : World} {Bo : Nat} {v : Value} {t : TypeId} (h : Boxed w Bo t v) (hv : ∀ b, v.ownBlock = some b → b < w.heap.size) : OwnLt w Bo := fun b ⟨u, hu, ho⟩ => by
 rw [h.cell] at hu; cases hu; exact hv b ho
theorem ownAt_iff {w : World} {Bo b : Nat} {v : Value} {t : TypeId} (h : Boxed w Bo t v) : OwnAt w Bo b ↔ v.ownBlock = some b :=
 ⟨fun ⟨u, hu, ho⟩ => by rw [h.cell] at hu; cases hu; exact ho, fun q => ⟨v, h.cell, q⟩⟩
theorem kp_body {n₀ Bo : Nat} {W w1 : World} {v v' : Value} {o : Obj} {t : TypeId} (hc : Boxed W Bo t v) (hn : n₀ ≤ Bo) (hb : ∀ g, v.ownBlock = some g → n₀ ≤ g) (hg : (W.alloc o).grownBy w1 v.ownBlock) (hl : v'.ownBlock = v.ownBlock ∨ v'.ownBlock = some (W.alloc o).heap.size) (hne : some Bo ≠ v.ownBlock)
 (hlt : ∀ g, v'.ownBlock = some g → g < w1.heap.size) : Kp n₀ Bo W (w1.setCell ⟨Bo, 0, none⟩ v') := by
 have hY : Boxed (w1.setCell ⟨Bo, 0, none⟩ v') Bo t v' := ((hc.alloc o).kept hg hne).set v'
 have hs := hg.size
 simp only [World.size_alloc] at hs
 have hcl := hc.lt
 refine ⟨(((Below.refl _ _).alloc (by omega) _).grown hg (by simp; omega) (fun j hj => hb j hj)).setCell hn _, fun b cs tt f hbk hbn ho => ?_, fun b hbl q => ?_, fun _ => ownLt_of hY (fun b q => by have := hlt b q; simpa using this)⟩
 ·have hbl := (Array.getElem?_eq_some_iff.1 hbk).1
  rw [Below.heap_setCell w1 ⟨Bo, 0, none⟩ v' b hbn, hg.block b (by simp; omega) (fun q => ho ((ownAt_iff hc).2 q.symm)), Below.heap_alloc W o b hbl]
 ·have q1 := (ownAt_iff hY).1 q
  rcases hl with hl | hl
  ·exact (ownAt_iff hc).2 (hl ▸ q1)
  ·rw [hl] at q1
   simp at q1; omega
theorem wpListIn_append_run {F : Fence} {n : Nat} {P : Program} {w w' : World} {ops : Array Oper} {rest : List Oper} {o : Oper} {a : Act} {Q : Exit → Act → World → Prop} (hg : o.guard = none) (s x : Operand) (t : TypeId)
 (hop : o.op = Op.call { callee := Callee.builtin Builtin.append, args := #[s, x], argTypes := #[t, t] }) (vs vx v : Value) (hs : a.eval s = vs) (hx : a.eval x = vx)
 (hrun : (Builtin.append_ #[t, t] o.type #[vs, vx]).run P w = .ok v w') (h : wpListIn F n P ops Q rest (a.put o.dst v) w') : wpListIn F n P ops Q (o :: rest) a w := by
 refine wpListIn_plain hg fun K hK' => ?_
 unfold Oper.wpIn
 refine ⟨?_, ?_⟩
 ·simp [Oper.about, hop, resolve, Target.leads, Sem.run_pure]
 ·rw [Oper.semAt_plain F _ _ (by rw [hop]; intro c hc'; cases hc')]
  simp [execOp, hop, resolve, invoke, builtin, hs, hx, hrun, Result.andThen]
  exact hK' _ _ h
end Go.Proofs.YtdmmbnnejbmdpaaGreatDoor
end
