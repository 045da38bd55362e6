/-
  Rows of spans that are the call's own; append onto them.
-/
import Derived.Test.YtddfhgdejlkdgaaPc1
import Derived.Maps.AppendAt
import Derived.Laws.OwnMore
import Derived.OwnWalk
set_option linter.unusedVariables false
namespace Go.Proofs.Ytddfhgdejlkdgaa
open Go.RowKit

theorem infoSp : (Try.prog.info? 24).map (fun i => (i.zero, i.size, i.bytes)) = some (some (.agg #[.int .i64 0, .int .i64 0]), 2, 16) := by kernel_rfl
def spv : List Sp → List Value
  | [] => []
  | x :: l => .int .i64 x.1 :: .int .i64 x.2 :: spv l
theorem spv_app (l m : List Sp) : spv (l ++ m) = spv l ++ spv m := by
  induction l with
  | nil => rfl
  | cons x l ih => simp [spv, ih]
theorem spv_len (l : List Sp) : (spv l).length = l.length * 2 := by
  induction l with
  | nil => rfl
  | cons x l ih => simp [spv, ih]; omega
theorem spv_at : ∀ (l : List Sp) (i : Nat), i < l.length → (spv l)[i * 2]? = some (.int .i64 (l.getD i (0, 0)).1) ∧ (spv l)[i * 2 + 1]? = some (.int .i64 (l.getD i (0, 0)).2)
  | x :: l, 0, _ => by simp [spv]
  | x :: l, i + 1, h => by
    have := spv_at l i (by simpa using h)
    rw [show (i + 1) * 2 = i * 2 + 1 + 1 by omega]
    simpa [spv] using this
theorem spv_one (l : List Sp) : ∀ u ∈ spv l, u.oneCell' = true := by
  induction l with
  | nil => intro u hu; simp [spv] at hu
  | cons x l ih =>
    intro u hu
    simp only [spv, List.mem_cons] at hu
    rcases hu with rfl | rfl | hu
    · rfl
    · rfl
    · exact ih u hu
def OwnSp (w : World) (base : Nat) (v : Value) (l : List Sp) : Prop := w.ownsRow base 24 2 v l.length (spv l)
theorem OwnSp.keep {w w1 : World} {base : Nat} {v : Value} {l : List Sp} (h : OwnSp w base v l) (hb : Below w.heap.size w w1) : OwnSp w1 base v l := by
  refine ⟨h.1, ?_⟩
  rcases h.2 with h2 | ⟨g, cap, cur, hv, hbg, hg, h1, h2, h3, h4⟩
  · exact .inl h2
  · exact .inr ⟨g, cap, cur, hv, hbg, by rw [hb.block g (Array.getElem?_eq_some_iff.1 hg).1]; exact hg, h1, h2, h3, h4⟩
theorem OwnSp.mono {w : World} {base b2 : Nat} {v : Value} {l : List Sp} (h : OwnSp w base v l) (hb : b2 ≤ base) : OwnSp w b2 v l := by
  refine ⟨h.1, ?_⟩
  rcases h.2 with h2 | ⟨g, cap, cur, hv, hbg, hg, h1, h2, h3, h4⟩
  · exact .inl h2
  · exact .inr ⟨g, cap, cur, hv, by omega, hg, h1, h2, h3, h4⟩
theorem OwnSp.pl {w : World} {base : Nat} {v : Value} {l : List Sp} (h : OwnSp w base v l) : PL w v l := by
  have h' := h
  rcases h.2 with ⟨hv, hn⟩ | ⟨g, cap, cur, hv, hb, hg, h1, h2, h3, h4⟩
  · have : l = [] := by
      have hl := spv_len l
      rw [hn] at hl
      exact List.length_eq_zero_iff.1 (by simp at hl; omega)
    subst this
    exact ⟨none, 0, hv, fun h => by simp at h⟩
  · subst hv
    refine ⟨some ⟨g, 0, none⟩, cap, rfl, fun _ => ⟨g, 0, rfl, (Array.getElem?_eq_some_iff.1 hg).1, h1, fun i hi => ?_⟩⟩
    rw [Nat.zero_add]
    constructor
    · rw [World.ownsRow.cellAt h' (i * 2) (by omega)]; exact (spv_at l i hi).1
    · rw [World.ownsRow.cellAt h' (i * 2 + 1) (by omega)]; exact (spv_at l i hi).2
theorem OwnSp.nil (w : World) (base : Nat) : OwnSp w base (.slice none 0 0) [] := World.ownsRow_nil _ _ _ _
theorem OwnSp.lt {w : World} {base : Nat} {v : Value} {l : List Sp} (h : OwnSp w base v l) : ∀ k, v.ownBlock = some k → base ≤ k ∧ k < w.heap.size := World.ownsRow.lt h
theorem OwnSp.kept {w w1 : World} {base : Nat} {v : Value} {l : List Sp} {row : Option Nat} (h : OwnSp w base v l) (hg : w.grownBy w1 row) (hne : v.ownBlock = none ∨ v.ownBlock ≠ row) : OwnSp w1 base v l := World.ownsRow.kept h hg hne
theorem wpList_append_run {P : Program} {w w' : World} {ops : Array Oper} {rest : List Oper} {o : Oper} {a : Act} {Q : Exit → Act → World → Prop} (hg : o.guard = none) (s x : Operand) (t : TypeId)
    (hop : o.op = Op.call { callee := Callee.builtin Builtin.append, args := #[s, x], argTypes := #[t, t] }) (vs vx v : Value) (hs : a.eval s = vs) (hx : a.eval x = vx)
    (hrun : (Builtin.append_ #[t, t] o.type #[vs, vx]).run P w = .ok v w') (h : wpList P ops Q rest (a.put o.dst v) w') : wpList P ops Q (o :: rest) a w := by
  refine wpList_plain hg fun K hK => ?_
  unfold Oper.wp
  simp [execOp, hop, resolve, invoke, builtin, hs, hx, hrun, Result.andThen]
  exact hK _ _ h
/-- append of one span -/
theorem app1 {w : World} {base g : Nat} {v : Value} {l : List Sp} {s : Sp} (hown : OwnSp w base v l) (hx : C2 w g (.int .i64 s.1) (.int .i64 s.2)) (hb : base ≤ w.heap.size) (hsm : l.length ≤ 1000000) :
    ∃ v' w', (Builtin.append_ #[22, 22] 22 #[v, .slice (some ⟨g, 0, none⟩) 1 1]).run Try.prog w = .ok v' w' ∧ OwnSp w' base v' (l ++ [s]) ∧ w.grownBy w' v.ownBlock ∧ (v'.ownBlock = v.ownBlock ∨ v'.ownBlock = some w.heap.size) := by
  obtain ⟨i0, hi, hz0, hz1, hz2⟩ := info_parts infoSp
  obtain ⟨v', w', hrun, h1, h2, _, h4⟩ := run_append_own_at (P := Try.prog) w base 22 22 24 i0 (.agg #[.int .i64 0, .int .i64 0]) 2 16 Try.underlying22 hi hz0 hz1 hz2 rfl (by decide) v l.length (spv l) hown ⟨g, 0, none⟩ 1 1 (spv [s]) rfl
    (fun j u hj => by
      match j, hj with
      | 0, hj => simp only [spv, List.getElem?_cons_zero] at hj; rw [← hj]; simpa [Addr.add] using hx.1
      | 1, hj => simp only [spv, List.getElem?_cons_succ, List.getElem?_cons_zero] at hj; rw [← hj]; simpa [Addr.add] using hx.2
      | j + 2, hj => simp [spv] at hj) (spv_one [s]) (by unfold maxLen; omega) (by omega) hb
  refine ⟨v', w', hrun, ?_, h2, h4⟩
  unfold OwnSp
  rw [List.length_append, spv_app]
  exact h1
/-- append of spans -/
theorem app2 {w : World} {base b2 : Nat} {v u : Value} {l m : List Sp} (hown : OwnSp w base v l) (ha : OwnSp w b2 u m) (hb : base ≤ w.heap.size) (hsm : l.length ≤ 1000000) (hsm2 : m.length ≤ 1000000) :
    ∃ v' w', (Builtin.append_ #[22, 22] 22 #[v, u]).run Try.prog w = .ok v' w' ∧ OwnSp w' base v' (l ++ m) ∧ w.grownBy w' v.ownBlock ∧ (v'.ownBlock = v.ownBlock ∨ v'.ownBlock = some w.heap.size) := by
  obtain ⟨i0, hi, hz0, hz1, hz2⟩ := info_parts infoSp
  have ht : Try.prog.underlying 22 = some (.slice 24) := Try.underlying22
  rcases ha.2 with ⟨rfl, hn⟩ | ⟨g, cap, cur, rfl, hbg, hg, h1, h2, h3, h4⟩
  · have : m = [] := by
      have hl := spv_len m
      rw [hn] at hl
      exact List.length_eq_zero_iff.1 (by simp at hl; omega)
    subst this
    refine ⟨v, w, ?_, by simpa using hown, World.grownBy.refl w _, .inl rfl⟩
    rcases hown.2 with ⟨rfl, _⟩ | ⟨g, cap, cur, rfl, _, _, hnc, _⟩
    · simp [Builtin.append_, run_underlying ht, sizeOf, typeInfo, hi, Builtin.lenOf, Builtin.firstCells]
    · simp [Builtin.append_, run_underlying ht, sizeOf, typeInfo, hi, Builtin.lenOf, Builtin.firstCells, hnc, storeCells]
  · obtain ⟨v', w', hrun, k1, k2, _, k4⟩ := run_append_own_at (P := Try.prog) w base 22 22 24 i0 (.agg #[.int .i64 0, .int .i64 0]) 2 16 Try.underlying22 hi hz0 hz1 hz2 rfl (by decide) v l.length (spv l) hown ⟨g, 0, none⟩ m.length cap (spv m) (spv_len m) (World.ownsRow.cells ha (g := g) rfl) (spv_one m) (by unfold maxLen; omega) (by omega) hb
    refine ⟨v', w', hrun, ?_, k2, k4⟩
    unfold OwnSp
    rw [List.length_append, spv_app]
    exact k1

theorem grown_c2 {w w1 : World} {g : Nat} {x y : Value} {row : Option Nat} (h : C2 w g x y) (hg : w.grownBy w1 row) (hne : some g ≠ row) : C2 w1 g x y := ⟨hg.cell h.1 hne, hg.cell h.2 hne⟩
theorem grown_f2 {w w1 : World} {g : Nat} {row : Option Nat} (h : F2 w g) (hl : g < w.heap.size) (hg : w.grownBy w1 row) (hne : some g ≠ row) : F2 w1 g :=
  ⟨(World.frozen?_of_block (a := ⟨g, 0, none⟩) (hg.block g hl hne)).trans h.1, (World.frozen?_of_block (a := ⟨g, 1, none⟩) (hg.block g hl hne)).trans h.2⟩
theorem own_form {w : World} {base : Nat} {v : Value} {l : List Sp} (h : OwnSp w base v l) (hp : 0 < l.length) : ∃ g cap, v = .slice (some ⟨g, 0, none⟩) l.length cap := by
  rcases h.2 with ⟨_, hn⟩ | ⟨g, cap, cur, hv, _⟩
  · have hl := spv_len l
    rw [hn] at hl
    simp at hl; omega
  · exact ⟨g, cap, hv⟩
end Go.Proofs.Ytddfhgdejlkdgaa
