/-
  Part of the proof of MendWhole.
-/
import Derived.Test.YtkdhdibjbabgfaaGreatDoorVw22
import Derived.Test.YtkdhdibjbabgfaaGreatDoorVw29
import Derived.Test.YtkdhdibjbabgfaaGreatDoorVw3
import Derived.Test.YtkdhdibjbabgfaaGreatDoorVw30
import Derived.Test.YtkdhdibjbabgfaaGreatDoorVw33
import Derived.Test.YtkdhdibjbabgfaaGreatDoorVw34
import Derived.Test.YtkdhdibjbabgfaaGreatDoorVw4
import Derived.Test.YtkdhdibjbabgfaaGreatDoorVw9
import Derived.LoopIn
import Derived.LoopNIn
import Derived.Maps.AppendAt
import Derived.OwnWalkIn
import Derived.RangeFuncBound
import Derived.RangeFuncBox
import Derived.RangeFuncCalls
import Derived.RangeFuncFrom
import Derived.RangeFuncLeaves
import Derived.RangeFuncNested
import Derived.RangeFuncWrites
import Derived.Scope
import Derived.Shelf.Abstract
import Derived.Shelf.RegionOpen
import Derived.TacticsInMore
import Derived.WalkKit
import Derived.Test.YtkdhdibjbabgfaaGreatDoorVw0
set_option maxRecDepth 10000
set_option maxHeartbeats 1000000
set_option linter.unusedVariables false
set_option linter.unusedSimpArgs false
section
namespace Go.Proofs.YtkdhdibjbabgfaaGreatDoor
open Go.RowKit
def isHead (l : List Nat) (N k : Nat) : Prop := gOk N k = true ∧ l.take 8 = headW N k (gNat N k)
theorem sOk_of {l : List Nat} {N k : Nat} (hn : l.length = N) (h : isHead l N k) : sOk l = true ∧ l.getD 3 0 = k := by
 obtain ⟨h1, h2⟩ := h
 have h4 := gOk_t h1
 have h3 : l.getD 3 0 = k := by
  have : (l.take 8).getD 3 0 = k := by rw [h2]; simp [headW, headL]
  rw [List.getD_eq_getElem?_getD, List.getElem?_take, if_pos (by omega)] at this
  rwa [List.getD_eq_getElem?_getD]
 refine ⟨?_, h3⟩
 unfold sOk
 rw [hn, h3, h1, h2]
 simp; omega
theorem sOk_none {l : List Nat} {N : Nat} (hn : l.length = N) (h : ∀ j, 1 ≤ j → j < 65 → ¬ isHead l N j) : sOk l = false := by
 cases hs : sOk l with
 | false => rfl
 | true =>
   unfold sOk at hs
   rw [hn] at hs
   simp only [Bool.and_eq_true, decide_eq_true_eq] at hs
   have h4 := gOk_t hs.2.1
   exact absurd ⟨hs.2.1, hs.2.2⟩ (h (l.getD 3 0) (by omega) (by omega))
theorem sOk_short {l : List Nat} (h : l.length < 8) : sOk l = false := by
 unfold sOk
 rw [decide_eq_false (by omega)]
 rfl
theorem rdec_short (v : Value) (l : List Nat) (N : Nat) (w : World) (hn : l.length = N) (h8 : N < 8) (hv : SL w v l) :
 Calls Tryz.prog 24 #[v] w fun e w' => e = .returned (.tuple #[.agg #[.int .i64 0, .int .i64 0], .int .i64 7]) ∧ Below w.heap.size w w' := by
 obtain ⟨sp, cap, rfl⟩ := hv.form
 rw [hn]
 have f2 : (N : Int) < 8 := by omega
 clear hn hv
 have kk := C2.new w (.int .i64 0) (.int .i64 0) 33
 have ff := F2.new w (.int .i64 0) (.int .i64 0) 33
 go_enter Tryz.func24, Tryz.ntmps24
 go_wp2_with fail
 go_loopw [4] (fun k wr => k = .int .i64 1 ∧ C2 wr w.heap.size (.int .i64 0) (.int .i64 0) ∧ F2 wr w.heap.size ∧ Below w.heap.size w wr) (fun _ _ => 0)
 case atStart => exact ⟨rfl, kk, ff, bZ _ _⟩
 case round =>
  obtain ⟨rfl, kk, ff, hB⟩ := hrel
  obtain ⟨k0, k1⟩ := id kk
  obtain ⟨f0, f1⟩ := id ff
  go_wp2_with fail
  (try simp only [Exit.inBlock, Exit.then])
  obtain ⟨w7, hw7, hC7, hb7⟩ := st2_ex kk (.int .i64 0) (.int .i64 0)
  rw [← hw7]
  refine bodyPost_ret (v := .tuple #[.agg #[.int .i64 0, .int .i64 0], .int .i64 7]) ?_ rfl ⟨rfl, hB.trans hb7⟩
  rw [results_cell_tmp rfl]
  obtain ⟨t0, t1⟩ := hC7
  clear hw7 hb7 kk ff k0 k1 f0 f1
  go_simp
end Go.Proofs.YtkdhdibjbabgfaaGreatDoor
end
section
namespace Go.Proofs.YtkdhdibjbabgfaaGreatDoor
open Go.RowKit Go.ChangeShapes Go.WideShapes Go.Deep Go.Shelf
attribute [local go_sem] Oper.semAt_some
theorem ChunksP.some {w w1 : World} {t : List Nat} {e : Ending} (h : ChunksP w t e w1) : ∃ v1 b t1, e = .returned (.tuple #[v1, .bool b]) ∧ CKL w1 v1 t1 ∧ t1.all okN = true ∧ blksT t = blksFrom 0 t1 ∧ t1.length ≤ t.length ∧ (t.all okN = true → t1 = t) ∧ (t.all okN = false → t1 = []) := by
 rcases h with ⟨hok, v', rfl, ho⟩ | ⟨hok, rfl⟩
 ·exact ⟨v', true, t, rfl, ho.el eC_len, hok, by unfold blksT; rw [if_pos hok], Nat.le_refl _, fun _ => rfl, (fun h => by rw [hok] at h; cases h)⟩
 ·exact ⟨_, false, [], rfl, EL.nil _ _ _ _ _, rfl, by unfold blksT; rw [if_neg (by rw [hok]; simp)]; rfl, by simp, (fun h => by rw [hok] at h; cases h), fun _ => rfl⟩
end Go.Proofs.YtkdhdibjbabgfaaGreatDoor
end
