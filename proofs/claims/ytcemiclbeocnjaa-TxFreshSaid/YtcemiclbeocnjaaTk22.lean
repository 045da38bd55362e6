/-
  Layer 20 (tx): a list of what is done, and one more, in a list of the call's own; a fresh object's words (plain).
-/
import Derived.Test.YtcemiclbeocnjaaTk20
import Derived.Test.YtcemiclbeocnjaaLkR
set_option linter.unusedVariables false
set_option linter.unusedSimpArgs false
namespace Go.Proofs.Ytcemiclbeocnjaa
open Go.RowKit Go.ChangeShapes Go.WideShapes Go.Deep Go.Maps

theorem wp_append_run {P : Program} {w w' : World} {o : Oper} {a : Act} {K : Act → World → Prop} {Q : Exit → Act → World → Prop} (s x : Operand) (t u : TypeId)
    (hop : o.op = Op.call { callee := Callee.builtin Builtin.append, args := #[s, x], argTypes := #[t, u] }) (vs vx v : Value) (hs : a.eval s = vs) (hx : a.eval x = vx)
    (hrun : (Builtin.append_ #[t, u] o.type #[vs, vx]).run P w = .ok v w') (h : K (a.put o.dst v) w') : Oper.wp P o a w K Q := by
  unfold Oper.wp
  simp [execOp, hop, resolve, invoke, builtin, hs, hx, hrun, Result.andThen]
  exact h
theorem appX {α : Type} [Inhabited α] {P : Program} {S e : TypeId} {sz by_ : Nat} {en : α → List Value} (T : ElT P S e sz by_ en) {w : World} {base : Nat} {v u : Value} {l m : List α} (hown : OwnE e sz en w base v l) (ha : EL sz en w u m) (hb : base ≤ w.heap.size) (h1 : l.length + m.length ≤ 2000000000000) (h2 : (l.length + m.length) * by_ ≤ 140737488355328) :
    ∃ v' w', (Builtin.append_ #[S, S] S #[v, u]).run P w = .ok v' w' ∧ OwnE e sz en w' base v' (l ++ m) ∧ w.grownBy w' v.ownBlock ∧ (v'.ownBlock = v.ownBlock ∨ v'.ownBlock = some w.heap.size) := by
  obtain ⟨i0, z, hi, hz0, hz1, hz2, hz3⟩ := T.info
  have ht := T.und
  obtain ⟨A, cap, rfl, h⟩ := ha
  cases m with
  | nil =>
    refine ⟨v, w, ?_, by simpa using hown, ⟨rfl, rfl, rfl, Nat.le_refl _, fun _ _ _ => rfl⟩, .inl rfl⟩
    rcases hown.2 with ⟨rfl, _⟩ | ⟨g, cap', cur, rfl, _, _, hnc, _⟩
    · cases A <;> simp [Builtin.append_, run_underlying ht, sizeOf, typeInfo, hi, Builtin.lenOf, Builtin.firstCells, loadCells, loadCellsFrom, storeCells]
    · cases A <;> simp [Builtin.append_, run_underlying ht, sizeOf, typeInfo, hi, Builtin.lenOf, Builtin.firstCells, hnc, loadCells, loadCellsFrom, storeCells]
  | cons x m =>
    obtain ⟨g, off, rfl, hg, hc, hcell⟩ := h (by simp)
    obtain ⟨v', w', hrun, k1, k2, k3, k4⟩ := run_append_own_at (P := P) w base S S e i0 z sz by_ ht hi hz0 hz1 hz2 hz3 T.pos v l.length _ hown ⟨g, off, none⟩ (x :: m).length cap ((x :: m).flatMap en) (fm_len T.len _)
      (fun j u hj => by
        have hj2 : j < (x :: m).length * sz := by rw [← fm_len T.len]; exact (List.getElem?_eq_some_iff.1 hj).1
        have hp := T.pos
        have hd : j / sz < (x :: m).length := (Nat.div_lt_iff_lt_mul hp).2 hj2
        have hm := Nat.mod_lt j hp
        have e1 : j / sz * sz + j % sz = j := by rw [Nat.mul_comm]; exact Nat.div_add_mod j sz
        have c0 := hcell (j / sz) hd (j % sz) hm
        have q0 := fm_at T.len (x :: m) (j / sz) (j % sz) hd hm
        rw [e1, hj] at q0
        rw [← q0, Nat.add_assoc, e1] at c0
        rw [add_plain]; exact c0) (by intro u hu; obtain ⟨y, _, hy⟩ := List.mem_flatMap.1 hu; exact T.one y u hy) (by unfold maxLen; omega) (by omega) hb
    refine ⟨v', w', hrun, ?_, k2, k4⟩
    unfold OwnE
    rw [List.length_append, List.flatMap_append]
    exact k1
theorem infoOp : (Try.prog.info? 71).map (fun i => (i.zero, i.size, i.bytes)) = some (some (.agg #[.int .u8 0, .int .i64 0, .int .i64 0, .int .i64 0, .int .i64 0, .int .i64 0, .int .i64 0, .bool false, .int .i64 0, .int .i64 0, .int .i64 0, .int .u64 0]), 12, 96) := by kernel_rfl
theorem oT : ElT Try.prog 52 71 12 96 oE :=
  ⟨Try.underlying52, by obtain ⟨i0, h1, h2, h3, h4⟩ := info_parts infoOp; exact ⟨i0, _, h1, h2, h3, h4, rfl⟩, oE_len, fun x u hu => by simp only [oE, fE, List.mem_cons, List.not_mem_nil, or_false] at hu; rcases hu with rfl | rfl | rfl | rfl | rfl | rfl | rfl | rfl | rfl | rfl | rfl | rfl <;> rfl, by decide, by decide⟩
/-- a copy of l (A: 0 not begun, 1 an empty list, 2 there), and a list of one (Bq: there), in whatever order they come -/
structure R2 (w1 wc : World) (l : List Ox) (o : Ox) (vv u5 : Value) (A : Nat) (Bq : Bool) : Prop where
  bel : Below w1.heap.size w1 wc
  own : OwnE 71 12 oE wc w1.heap.size vv (if A = 2 then l else [])
  one : Bq = true → OwnE 71 12 oE wc w1.heap.size u5 [o]
  ne : Bq = true → ∀ k, vv.ownBlock = some k → ¬ u5.ownBlock = some k
theorem R2.start (w1 : World) (l : List Ox) (o : Ox) : R2 w1 w1.drew l o (.slice none 0 0) (.slice none 0 0) 0 false :=
  ⟨(Below.refl _ _).drew, OwnE.nil _ _ _ _ _, fun h => (by cases h), fun h => (by cases h)⟩
theorem R2.s0 {w1 wc : World} {l : List Ox} {o : Ox} {vv u5 : Value} {Bq : Bool} (h : R2 w1 wc l o vv u5 0 Bq) : R2 w1 (wc.alloc (.cells #[] (71 : Nat))) l o (.slice (some ⟨wc.heap.size, 0, none⟩) 0 0) u5 1 Bq :=
  ⟨h.bel.alloc h.bel.size _, (OwnE.lit 71 oE_len wc [] #[] rfl (by simp)).mono h.bel.size, fun q => (h.one q).alloc _, fun q k e e2 => (by
    have := ((h.one q).lt k e2).2
    cases e
    exact absurd this (Nat.lt_irrefl _))⟩
theorem R2.s5 {w1 wc : World} {l : List Ox} {o : Ox} {vv u5 : Value} {A : Nat} (h : R2 w1 wc l o vv u5 A false) : R2 w1 (wc.alloc (.cells (oE o).toArray (71 : Nat))) l o vv (.slice (some ⟨wc.heap.size, 0, none⟩) 1 1) A true :=
  ⟨h.bel.alloc h.bel.size _, h.own.alloc _, fun q => (OwnE.lit 71 oE_len wc [o] (oE o).toArray (by simp) (by simp)).mono h.bel.size, fun q k e e2 => (by
    have := (h.own.lt k e).2
    cases e2
    exact absurd this (Nat.lt_irrefl _))⟩
theorem R2.s2 {w1 wc : World} {l : List Ox} {o : Ox} {vv u5 v : Value} {Bq : Bool} (h : R2 w1 wc l o vv u5 1 Bq) (hv : OPL w1 v l) (hz : l.length * 96 ≤ 140737488351232) :
    ∃ v' w', (Builtin.append_ #[52, 52] 52 #[vv, v]).run Try.prog wc = .ok v' w' ∧ R2 w1 w' l o v' u5 2 Bq := by
  have how := h.own
  simp only [show ¬ (1 = 2) by decide, if_false] at how
  obtain ⟨v', w', hrun, ho, hg, hn⟩ := appX oT how (hv.keep h.bel) h.bel.size (by simp; omega) (by simp; omega)
  refine ⟨v', w', hrun, h.bel.grown hg h.bel.size (fun j hj => (how.lt j hj).1), ?_, fun q => ?_, fun q k e e2 => ?_⟩
  · rw [if_pos rfl]; simpa using ho
  · refine (h.one q).kept hg ?_
    cases hc : u5.ownBlock with
    | none => exact .inl rfl
    | some j => exact .inr (fun e => h.ne q j e.symm hc)
  · rcases hn with z | z
    · rw [z] at e; exact h.ne q k e e2
    · rw [z] at e; cases e; have := ((h.one q).lt _ e2).2; omega
theorem R2.last {w1 wc : World} {l : List Ox} {o : Ox} {vv u5 : Value} (h : R2 w1 wc l o vv u5 2 true) (hz : l.length * 96 ≤ 140737488351232) :
    ∃ v' w', (Builtin.append_ #[52, 52] 52 #[vv, u5]).run Try.prog wc = .ok v' w' ∧ OwnE 71 12 oE w' w1.heap.size v' (l ++ [o]) ∧ Below w1.heap.size w1 w' := by
  have how := h.own
  rw [if_pos rfl] at how
  obtain ⟨v', w', hrun, ho, hg, hn⟩ := appX oT how ((h.one rfl).el oE_len) h.bel.size (by simp; omega) (by simp; omega)
  exact ⟨v', w', hrun, ho, h.bel.grown hg h.bel.size (fun j hj => (how.lt j hj).1)⟩

/-- a fresh object's words may be stored to; made no more they may, if they are noted -/
theorem Rel.fresh_may {s : St} {r : Rf} {k : Nat} (h : Rel s r k) {f : Fx} (hf : GoodF f) :
    (covS (mayL { s with fresh := putF s.fresh f.2.1 f, n := s.n + 1 }) (objS f) = true ∧ missS (mayL { s with fresh := putF s.fresh f.2.1 f, n := s.n + 1 }) (objS f) = []) ∧ (putF s.fresh f.2.1 f) f.2.1 = some f ∧ (delF (putF s.fresh f.2.1 f) f.2.1) f.2.1 = none ∧
    covS (mayL { s with fresh := delF (delF (putF s.fresh f.2.1 f) f.2.1) f.2.1, n := s.n + 1 }) (objS f) = covS s.noted (objS f) := by
  have h1 := h.make hf
  have hall : ∀ z, SIn (objS f) z → SHas (mayL { s with fresh := putF s.fresh f.2.1 f, n := s.n + 1 }) z := fun z hz =>
    (allS_has _ _ h1.ok (made_good h1.keys h1.fr) z).2 (.inr ⟨f, (made_mem h1.keys h1.fr).2 (by simp [putF]), hz⟩)
  have h2 := (h1.unmake f.2.1).1
  have h3 := (h2.unmake f.2.1).1
  refine ⟨⟨(covS_iff h1.mayOk.right).2 hall, ?_⟩, by simp [putF], by simp [delF], ?_⟩
  · rw [(missS_right h1.mayOk.right).empty]
    intro z hz
    have := (missS_has h1.mayOk.right z).1 hz
    exact this.2 (hall z this.1)
  · rw [Bool.eq_iff_iff, covS_iff h3.mayOk.right, covS_iff h.ok.right]
    have key : ∀ z, SIn (objS f) z → (SHas (mayL { s with fresh := delF (delF (putF s.fresh f.2.1 f) f.2.1) f.2.1, n := s.n + 1 }) z ↔ SHas s.noted z) := fun z hz => by
      have hm := allS_has _ _ h3.ok (made_good h3.keys h3.fr) z
      show SHas (allS s.noted (madeL (delF (delF (putF s.fresh f.2.1 f) f.2.1) f.2.1))) z ↔ _
      constructor
      · intro q
        rcases hm.1 q with q | ⟨g, hg, q⟩
        · exact q
        · exfalso
          have hg2 := (made_mem h3.keys h3.fr).1 hg
          have hg3 := (h3.fr _ _ hg2).1
          have hne : g.2.1 ≠ f.2.1 := fun e => by
            have hg4 : delF (delF (putF s.fresh f.2.1 f) f.2.1) f.2.1 g.2.1 = some g := hg2
            rw [e] at hg4
            simp [delF] at hg4
          obtain ⟨a1, a2, a3, a4, a5⟩ := hg3
          obtain ⟨b1, b2, b3, b4, b5⟩ := hf
          unfold SIn objS at q hz
          simp only [] at q hz
          omega
      · exact fun q => hm.2 (.inl q)
    exact ⟨fun q z hz => (key z hz).1 (q z hz), fun q z hz => (key z hz).2 (q z hz)⟩
end Go.Proofs.Ytcemiclbeocnjaa
