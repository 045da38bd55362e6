/-
  Part of the proof of MendPart.
-/
import Derived.Test.YtkdhdibjbabgfaaGreatDoorVp10
import Derived.Test.YtkdhdibjbabgfaaGreatDoorVp4
import Derived.Test.YtkdhdibjbabgfaaGreatDoorVp0
set_option linter.unusedVariables false
set_option linter.unusedSimpArgs false
section
namespace Go.Proofs.YtkdhdibjbabgfaaGreatDoor
open Go.RowKit
def FB (x : Sp) : Prop := 0 ≤ x.1 ∧ x.1 ≤ 1099511627776 ∧ 0 ≤ x.2 ∧ x.2 ≤ 40
instance (x : Sp) : Decidable (FB x) := by unfold FB; infer_instance
theorem PL.lit (w : World) (l : List Sp) (hl : l.length ≤ 1000) : PL (w.alloc (.cells (spv l).toArray (51 : Nat))) (.slice (some ⟨w.heap.size, 0, none⟩) l.length l.length) l := by
 have := World.ownsRow_lit (base := w.heap.size) (e := 51) (size := 2) w (spv l).toArray l.length (Nat.le_refl _) (by unfold maxLen; omega) (by simp [spv_len])
 exact OwnSp.pl (base := w.heap.size) this
end Go.Proofs.YtkdhdibjbabgfaaGreatDoor
end
section
namespace Go.Proofs.YtkdhdibjbabgfaaGreatDoor
open Go.RowKit Go.ChangeShapes Go.WideShapes Go.Deep
theorem wp_append_run {P : Program} {w w' : World} {o : Oper} {a : Act} {K : Act → World → Prop} {Q : Exit → Act → World → Prop} (s x : Operand) (t u : TypeId)
 (hop : o.op = Op.call { callee := Callee.builtin Builtin.append, args := #[s, x], argTypes := #[t, u] }) (vs vx v : Value) (hs : a.eval s = vs) (hx : a.eval x = vx)
 (hrun : (Builtin.append_ #[t, u] o.type #[vs, vx]).run P w = .ok v w') (h : K (a.put o.dst v) w') : Oper.wp P o a w K Q := by
 unfold Oper.wp
 simp [execOp, hop, resolve, invoke, builtin, hs, hx, hrun, Result.andThen]
 exact h
theorem KL.mid {w : World} {A : Option Addr} {n cap : Nat} {l : List Nat} (h : KL .u64 w (.slice A n cap) l) (t m : Nat) (ht : t + m ≤ n) : KL .u64 w (.slice (if cap = t then A else A.map (·.add (t * 1))) (t + m - t) (cap - t)) ((l.drop t).take m) := by
 have hl : l.length = n := by obtain ⟨A', c', hv, _⟩ := h; cases hv; rfl
 rw [Nat.add_sub_cancel_left]
 exact (h.drop t (by omega)).take m (by rw [List.length_drop]; omega)
end Go.Proofs.YtkdhdibjbabgfaaGreatDoor
end
