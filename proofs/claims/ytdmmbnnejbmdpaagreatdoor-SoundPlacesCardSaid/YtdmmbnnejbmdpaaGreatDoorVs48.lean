/-
  Part of the proof of SoundPlaces.
-/
import Derived.Test.YtdmmbnnejbmdpaaGreatDoorVs1
import Derived.Test.YtdmmbnnejbmdpaaGreatDoorVs10
import Derived.Test.YtdmmbnnejbmdpaaGreatDoorVs11
import Derived.Test.YtdmmbnnejbmdpaaGreatDoorVs12
import Derived.Test.YtdmmbnnejbmdpaaGreatDoorVs13
import Derived.Test.YtdmmbnnejbmdpaaGreatDoorVs14
import Derived.Test.YtdmmbnnejbmdpaaGreatDoorVs15
import Derived.Test.YtdmmbnnejbmdpaaGreatDoorVs17
import Derived.Test.YtdmmbnnejbmdpaaGreatDoorVs2
import Derived.Test.YtdmmbnnejbmdpaaGreatDoorVs3
import Derived.Test.YtdmmbnnejbmdpaaGreatDoorVs4
import Derived.Test.YtdmmbnnejbmdpaaGreatDoorVs40
import Derived.Test.YtdmmbnnejbmdpaaGreatDoorVs5
import Derived.Test.YtdmmbnnejbmdpaaGreatDoorVs6
import Derived.Test.YtdmmbnnejbmdpaaGreatDoorVs7
import Derived.Test.YtdmmbnnejbmdpaaGreatDoorVs8
import Derived.Test.YtdmmbnnejbmdpaaGreatDoorVs9
import Derived.Test.YtdmmbnnejbmdpaaGreatDoorRows
import Derived.BigQuiet
import Derived.Carry
import Derived.ChangeSlices
import Derived.Deep.QuietTactic
import Derived.Deep.RegionHeld3
import Derived.Deep.SlicePairs
import Derived.Handy
import Derived.Laws.BitsAllLaws
import Derived.Laws.CopyOwn
import Derived.Laws.EntriesVeiled
import Derived.Laws.OwnMore
import Derived.Laws.ShiftsVarLaws
import Derived.Lib.AppendZerosOnto
import Derived.Lib.Hide
import Derived.Lib.SliceRun
import Derived.Maps.AppendAt
import Derived.OpenShut
import Derived.OwnWalk
import Derived.OwnWalkIn
import Derived.ProofKit
import Derived.RangeFuncBound
import Derived.RangeFuncBox
import Derived.RangeFuncCalls
import Derived.RangeFuncFrom
import Derived.RangeFuncLeaves
import Derived.RangeFuncNested
import Derived.RangeFuncWrites
import Derived.StillTail
import Derived.WalkLawsBesides
import Derived.WalkSpells
import Derived.Scope
import Derived.Test.YtdmmbnnejbmdpaaGreatDoorVs0
set_option maxRecDepth 10000
set_option maxHeartbeats 1000000
set_option linter.unusedVariables false
set_option linter.unusedSimpArgs false
section
namespace Go.Proofs.YtdmmbnnejbmdpaaGreatDoor
open Go.Lib Go.RowKit Go.ChangeShapes Go.WideShapes Go.Deep Go.Shelf
attribute [local go_sem] Oper.semAt_some
theorem HB.kp {w w1 : World} {n₀ Bo b : Nat} {cs : Array Value} {t : TypeId} (h : HB w b cs t) (hk : Kp n₀ Bo w w1) (hne : b ≠ Bo) (ho : ¬ OwnAt w Bo b) : HB w1 b cs t := (hk.2.1 b _ _ _ h hne ho).trans h
end Go.Proofs.YtdmmbnnejbmdpaaGreatDoor
end
section
namespace Go.Proofs.YtdmmbnnejbmdpaaGreatDoor
open Go.Lib Go.RowKit Go.ChangeShapes Go.WideShapes Go.Deep Go.Shelf
theorem HB.chg {S : Nat → Prop} {w w1 : World} {b : Nat} {cs : Array Value} {t : TypeId} (h : HB w b cs t) (hc : Chg S w w1) (hn : ¬ S b) : HB w1 b cs t := (hc.block b h.lt hn).trans h
theorem HB.ne_row {w : World} {b g n c base : Nat} {cs : Array Value} {t : TypeId} {l : List Nat} (h : HB w b cs t) (ho : OwnU w base (.slice (some ⟨g, 0, none⟩) n c) l) (ht : t ≠ 33) : b ≠ g := fun e => by
 obtain ⟨_, cur, hg⟩ := OwnU_row ho
 subst e
 have h3 := (show w.heap[b]? = _ from h).symm.trans hg
 simp at h3
 exact ht h3.2
def putK (X : List Nat) (a : Nat) (l : List Nat) : Nat → List Nat
 | 0 => X
 | k + 1 => (putK X a l k).set (a + k) (l.getD k 0)
def putL (X : List Nat) (a : Nat) (l : List Nat) : List Nat := putK X a l l.length
theorem putK_len (X : List Nat) (a : Nat) (l : List Nat) : ∀ k, (putK X a l k).length = X.length
 | 0 => rfl
 | k + 1 => by rw [putK, List.length_set, putK_len X a l k]
theorem putL_len (X : List Nat) (a : Nat) (l : List Nat) : (putL X a l).length = X.length := putK_len _ _ _ _
theorem putK_stop (X : List Nat) (a : Nat) (l : List Nat) (j : Nat) (h : X.length ≤ a + j) : ∀ k, putK X a l (j + k) = putK X a l j
 | 0 => rfl
 | k + 1 => by
   rw [show j + (k + 1) = (j + k) + 1 from rfl, putK, putK_stop X a l j h k]
   exact List.set_eq_of_length_le (by rw [putK_len]; omega)
theorem putK_WL {X : List Nat} {a : Nat} {l : List Nat} (hX : WL X) (hl : WL l) : ∀ k, WL (putK X a l k)
 | 0 => hX
 | k + 1 => (putK_WL hX hl k).setN _ _ (hl.getN k)
theorem putL_WL {X : List Nat} {a : Nat} {l : List Nat} (hX : WL X) (hl : WL l) : WL (putL X a l) := putK_WL hX hl _
theorem put_any15 (B N c a : Nat) (u : Value) (X l : List Nat) (b0 : Nat) (w : World) (ho : OwnU w b0 (.slice (some ⟨B, 0, none⟩) N c) X) (hX : X.length = N) (hu : ∀ w1, Chg (fun k => k = B) w w1 → KL .u64 w1 u l) (ha : a ≤ 100000) (hl : l.length ≤ 100000) (hN : N ≤ 100000) :
 Calls Tryz.prog 49 #[.slice (some ⟨B, 0, none⟩) N c, .int .i64 (a : Nat), u] w fun e w' => e = .returned (.tuple #[]) ∧ OwnU w' b0 (.slice (some ⟨B, 0, none⟩) N c) (putL X a l) ∧ Chg (fun k => k = B) w w' := by
 obtain ⟨n, hn⟩ : ∃ n, l.length = n := ⟨_, rfl⟩
 obtain ⟨A, cap, rfl, -⟩ := (hu w (Chg.refl _ _)).form hn
 have hC := lh (fun w1 i (hc : Chg (fun k => k = B) w w1) (hi : i < n) => show ∃ g off, A = some ⟨g, off, none⟩ ∧ n ≤ cap ∧ g < w1.heap.size ∧ w1.cell? ⟨g, off + i, none⟩ = some (.int .u64 (l.getD i 0 : Nat)) from by
  obtain ⟨A2, c2, hv2, h⟩ := (hu w1 hc).form hn
  cases hv2
  obtain ⟨g, off, h1, h2, h3, h4⟩ := h w1 i (Below.refl _ _) hi
  exact ⟨g, off, h1, h2, h3, h4⟩)
 have hst := lh (fun k => show putK X a l (k + 1) = (putK X a l k).set (a + k) (l.getD k 0) from rfl)
 have hpl := lh (fun k => (putK_len X a l k).trans hX)
 have hfin := lh (show putL X a l = putK X a l n from by unfold putL; rw [hn])
 have hstop := lh (fun j (hj : j ≤ n) (h : N ≤ a + j) => show putK X a l n = putK X a l j from by
  have := putK_stop X a l j (by omega) (n - j)
  rwa [show j + (n - j) = n from by omega] at this)
 replace hn := lh hn
 have hn9 : n ≤ 100000 := by have := hn.out; omega
 clear hu hl
 go_enter Tryz.func49, Tryz.ntmps49
 go_wp2_with fail
 go_loopw [6] (fun i wr => ∃ (j : Nat), j ≤ n ∧ i = .int .i64 j ∧ OwnU wr b0 (.slice (some ⟨B, 0, none⟩) N c) (putK X a l j) ∧ Chg (fun k => k = B) w wr) (fun i _ => n + 1 - (intOf i).toNat)
 case atStart => exact ⟨0, Nat.zero_le _, rfl, ho, Chg.refl _ _⟩
 case round =>
  obtain ⟨j, hj, rfl, hor, hcr⟩ := hrel
  clear ho
  have hw1 : IntKind.i64.wrap ((a : Int) + (j : Int)) = (a : Int) + (j : Int) := by rw [IntKind.wrap_i64]; omega
  by_cases hlt : j < n
  ·have hlt' : (j : Int) < (n : Int) := by omega
   by_cases hf : a + j < N
   ·have hf' : (a : Int) + (j : Int) < (N : Int) := by omega
    obtain ⟨g, off, rfl, hcap, hg, c0⟩ := hC.out wr j hcr hlt
    obtain ⟨d0, d1⟩ := hor.cell (hpl.out j) hf
    have ho2 := hor.set (y := l.getD j 0) (hpl.out j) hf
    rw [← hst.out j] at ho2
    have hc2 := hcr.trans (Chg.setCell (S := fun k => k = B) wr B (a + j) (.int .u64 (l.getD j 0 : Nat)) rfl) (fun k h => .inl h)
    generalize l.getD j 0 = x at *
    obtain ⟨q, hq⟩ : ∃ q, a + j = q := ⟨_, rfl⟩
    have hq' : (a : Int) + (j : Int) = (q : Int) := by omega
    rw [hq'] at hw1 hf'
    rw [hq] at d0 d1 ho2 hc2
    replace hq := lh hq
    have hq2 := hq'
    clear hor hcr hf
    go_wp2_with fail
    go_roundw
    case rel => exact ⟨j + 1, by omega, by go_num, ho2, hc2⟩
    case measure => first | (simp [intOf]; done) | (simp [intOf]; omega)
   ·have hf' : decide ((a : Int) + (j : Int) < (N : Int)) = false := decide_eq_false (by omega)
    have hs := lh (hstop.out j (by omega) (by omega))
    go_wp2_with fail
    (first | go_end0 | go_ret)
    exact ⟨rfl, by rw [hfin.out, hs.out]; exact hor, hcr⟩
  ·obtain rfl : j = n := by omega
   have hlt' : decide ((j : Int) < (j : Int)) = false := decide_eq_false (by omega)
   go_wp2_with fail
   (first | go_end0 | go_ret)
   exact ⟨rfl, by rw [hfin.out]; exact hor, hcr⟩
end Go.Proofs.YtdmmbnnejbmdpaaGreatDoor
end
