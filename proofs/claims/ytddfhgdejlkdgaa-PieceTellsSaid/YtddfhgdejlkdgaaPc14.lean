/-
  What slices.Clone answers of a list of words.
-/
import Derived.Test.YtddfhgdejlkdgaaPc13
import Derived.Lib.SliceRun
set_option linter.unusedVariables false
namespace Go.Proofs.Ytddfhgdejlkdgaa
open Go.RowKit

/-- one list behind a new empty row -/
theorem newW {w : World} {u : Value} {l : List Nat} (h1 : KL .u64 w u l) (l1 : l.length ≤ 100000) :
    ∃ v1 w1, (Builtin.append_ #[34, 34] 34 #[.slice (some ⟨w.heap.size, 0, none⟩) 0 0, u]).run Try.prog (w.alloc (.cells #[] (43 : Nat))) = .ok v1 w1 ∧ OwnU w1 w.heap.size v1 l ∧ Below w.heap.size w w1 := by
  have hO : OwnU (w.alloc (.cells #[] (43 : Nat))) w.heap.size (.slice (some ⟨w.heap.size, 0, none⟩) 0 0) [] := World.ownsRow_lit (base := w.heap.size) (e := 43) (size := 1) w #[] 0 (Nat.le_refl _) (by unfold maxLen; omega) rfl
  have hB : Below w.heap.size w (w.alloc (.cells #[] (43 : Nat))) := (Below.refl _ _).alloc (Nat.le_refl _) _
  obtain ⟨v1, w1, r1, o1, b1⟩ := appW hO (h1.keep hB) hB.size (by simp) (by omega)
  exact ⟨v1, w1, r1, by simpa using o1, hB.trans b1⟩
set_option maxHeartbeats 500000 in
theorem clone_any (v : Value) (l : List Nat) (w : World) (hlen : l.length ≤ 100000) (hv : KL .u64 w v l) :
    Calls Try.prog 25 #[v] w fun e w' => ∃ v', e = .returned v' ∧ OwnU w' w.heap.size v' l ∧ Below w.heap.size w w' := by
  obtain ⟨v1, w1, hrun, ho, hb⟩ := newW hv hlen
  obtain ⟨A, cap, rfl, h⟩ := hv
  cases A with
  | none =>
    have hl0 : l = [] := by
      cases l with
      | nil => rfl
      | cons x l => obtain ⟨g, off, h0, _⟩ := h (by simp); cases h0
    subst hl0
    clear h hrun ho hb
    have qT : ∀ (w : World) (a : Option Addr) (n c n' c' : Nat), (binOp .eql 34 (.slice a n c) (.slice none n' c')).run Try.prog w = .ok (.bool a.isNone) w := fun w a n c n' c' => Lib.run_eql_slice_nil w _ _ a n c n' c' Try.underlying34
    go_enter Try.func25, Try.ntmps25
    go_wp2_with fail
    go_ret
    exact ⟨_, rfl, World.ownsRow_nil _ _ _ _, Below.refl _ _⟩
  | some a =>
    obtain ⟨g, off, s⟩ := a
    generalize l.length = n at *
    clear h
    have qT : ∀ (w : World) (a : Option Addr) (n c n' c' : Nat), (binOp .eql 34 (.slice a n c) (.slice none n' c')).run Try.prog w = .ok (.bool a.isNone) w := fun w a n c n' c' => Lib.run_eql_slice_nil w _ _ a n c n' c' Try.underlying34
    go_enter Try.func25, Try.ntmps25
    go_wp2_with (at_builtin; refine wpList_append_run rfl _ _ 34 rfl _ _ _ rfl rfl hrun ?_)
    go_ret
    exact ⟨_, rfl, ho, hb⟩
end Go.Proofs.Ytddfhgdejlkdgaa
