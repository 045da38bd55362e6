/-
  Part of the proof of MendTouches.
-/
import Derived.Test.YtkdhdibjbabgfaaGreatDoorVt10
import Derived.Test.YtkdhdibjbabgfaaGreatDoorVt4
import Derived.Test.YtkdhdibjbabgfaaGreatDoorVt0
set_option linter.unusedVariables false
set_option linter.unusedSimpArgs false
section
namespace Go.Proofs.YtkdhdibjbabgfaaGreatDoor
open Go.RowKit
def FB (x : Sp) : Prop := 0 ≤ x.1 ∧ x.1 ≤ 1099511627776 ∧ 0 ≤ x.2 ∧ x.2 ≤ 40
instance (x : Sp) : Decidable (FB x) := by unfold FB; infer_instance
theorem PL.lit (w : World) (l : List Sp) (hl : l.length ≤ 1000) : PL (w.alloc (.cells (spv l).toArray (51 : Nat))) (.slice (some ⟨w.heap.size, 0, none⟩) l.length l.length) l := by
 have := World.ownsRow_lit (base := w.heap.size) (e := 51) (size := 2) w (spv l).toArray l.length (Nat.le_refl _) (by unfold maxLen; omega) (by simp [spv_len])
 exact OwnSp.pl (base := w.heap.size) this
end Go.Proofs.YtkdhdibjbabgfaaGreatDoor
end
section
namespace Go.Proofs.YtkdhdibjbabgfaaGreatDoor
open Go.RowKit Go.ChangeShapes Go.WideShapes Go.Deep
theorem wp_append_run {P : Program} {w w' : World} {o : Oper} {a : Act} {K : Act → World → Prop} {Q : Exit → Act → World → Prop} (s x : Operand) (t u : TypeId)
 (hop : o.op = Op.call { callee := Callee.builtin Builtin.append, args := #[s, x], argTypes := #[t, u] }) (vs vx v : Value) (hs : a.eval s = vs) (hx : a.eval x = vx)
 (hrun : (Builtin.append_ #[t, u] o.type #[vs, vx]).run P w = .ok v w') (h : K (a.put o.dst v) w') : Oper.wp P o a w K Q := by
 unfold Oper.wp
 simp [execOp, hop, resolve, invoke, builtin, hs, hx, hrun, Result.andThen]
 exact h
theorem set_blk {w : World} {B o : Nat} {cs : Array Value} {t : TypeId} {v : Value} (h : w.heap[B]? = some (.cells cs t (0, 0))) : (w.setCell ⟨B, o, none⟩ v).heap[B]? = some (.cells (cs.setIfInBounds o v) t (0, 0)) := by
 obtain ⟨hlt, hk⟩ := Array.getElem?_eq_some_iff.1 h
 show (w.heap.modify B _)[B]? = _
 rw [Array.getElem?_eq_getElem (by rw [Array.size_modify]; exact hlt), Array.getElem_modify_self, hk]
 rfl
theorem KL.mid {w : World} {A : Option Addr} {n cap : Nat} {l : List Nat} (h : KL .u64 w (.slice A n cap) l) (t m : Nat) (ht : t + m ≤ n) : KL .u64 w (.slice (if cap = t then A else A.map (·.add (t * 1))) (t + m - t) (cap - t)) ((l.drop t).take m) := by
 have hl : l.length = n := by obtain ⟨A', c', hv, _⟩ := h; cases hv; rfl
 rw [Nat.add_sub_cancel_left]
 exact (h.drop t (by omega)).take m (by rw [List.length_drop]; omega)
structure Q7 (W : World) (rv : Option (Value × List Nat)) (b : Option Nat) (w : World) : Prop where
 bel : Below W.heap.size W w
 row : ∀ v l, rv = some (v, l) → OwnU w W.heap.size v l
 blk : ∀ g, b = some g → W.heap.size ≤ g ∧ Bk w g (.int .i64 0) (.slice none 0 0)
theorem Q7.start (W : World) : Q7 W none none W.drew := ⟨(Below.refl _ _).drew, fun _ _ h => (by cases h), fun _ h => (by cases h)⟩
theorem grownBy_set (W : World) (b o : Nat) (v : Value) : W.grownBy (W.setCell ⟨b, o, none⟩ v) (some b) :=
 ⟨rfl, rfl, rfl, (KeepsWalks.setCell W ⟨b, o, none⟩ v).size, fun k _ hk => Below.heap_setCell W ⟨b, o, none⟩ v k (fun e => hk (by rw [e]))⟩
theorem Q7.last {W w : World} {A : Option Addr} {m c : Nat} {os : List Nat} {g : Nat} (h : Q7 W (some (.slice A m c, os)) (some g) w) (a : Int) :
 C2 w g (.int .i64 0) (.slice none 0 0) ∧ (w.frozen? ⟨g, 0, none⟩ = false ∧ w.frozen? ⟨g, 1, none⟩ = false) ∧ ∃ w', w' = (w.setCell ⟨g, 0, none⟩ (.int .i64 a)).setCell ⟨g, 1, none⟩ (.slice A m c) ∧ Bk w' g (.int .i64 a) (.slice A m c) ∧ OwnU w' W.heap.size (.slice A m c) os ∧ Below W.heap.size W w' := by
 obtain ⟨hg, hk⟩ := h.blk _ rfl
 have hr := h.row _ _ rfl
 have hne : ∀ k, (Value.slice A m c).ownBlock = some k → g ≠ k := fun k q e => by
  subst e
  rcases hr.2 with ⟨e2, _⟩ | ⟨g2, cap, cur, e2, _, hgb, _⟩
  ·rw [e2] at q; simp [Value.ownBlock] at q
  ·rw [e2] at q
   simp only [Value.ownBlock, Option.some.injEq] at q
   subst q
   have := (show w.heap[g2]? = _ from hk).symm.trans hgb
   simp at this
 refine ⟨hk.c2, ⟨(row_cell hk 0).2, (row_cell hk 1).2⟩, _, rfl, ?_, ?_, (h.bel.setCell (p := ⟨g, 0, none⟩) hg _).setCell (p := ⟨g, 1, none⟩) hg _⟩
 ·exact set_blk (set_blk (show w.heap[g]? = some (.cells #[.int .i64 0, .slice none 0 0] 64 (0, 0)) from hk))
 ·refine World.ownsRow.kept (World.ownsRow.kept hr (grownBy_set w g 0 _) ?_) (grownBy_set _ g 1 _) ?_
  ·exact .inr (fun e => hne g e rfl)
  ·exact .inr (fun e => hne g e rfl)
end Go.Proofs.YtkdhdibjbabgfaaGreatDoor
end
