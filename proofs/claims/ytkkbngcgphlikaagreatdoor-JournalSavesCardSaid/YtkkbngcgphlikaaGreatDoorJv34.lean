/-
  Part of the proof of JournalSaves.
-/
import Derived.Test.YtkkbngcgphlikaaGreatDoorJv1
import Derived.Test.YtkkbngcgphlikaaGreatDoorJv11
import Derived.Test.YtkkbngcgphlikaaGreatDoorJv12
import Derived.Test.YtkkbngcgphlikaaGreatDoorJv15
import Derived.Test.YtkkbngcgphlikaaGreatDoorJv18
import Derived.Test.YtkkbngcgphlikaaGreatDoorJv2
import Derived.Test.YtkkbngcgphlikaaGreatDoorJv20
import Derived.Test.YtkkbngcgphlikaaGreatDoorJv23
import Derived.Test.YtkkbngcgphlikaaGreatDoorJv24
import Derived.Test.YtkkbngcgphlikaaGreatDoorJv25
import Derived.Test.YtkkbngcgphlikaaGreatDoorJv26
import Derived.Test.YtkkbngcgphlikaaGreatDoorJv28
import Derived.Test.YtkkbngcgphlikaaGreatDoorJv3
import Derived.Test.YtkkbngcgphlikaaGreatDoorJv4
import Derived.Test.YtkkbngcgphlikaaGreatDoorJv5
import Derived.Test.YtkkbngcgphlikaaGreatDoorJv6
import Derived.Test.YtkkbngcgphlikaaGreatDoorJv7
import Derived.Test.YtkkbngcgphlikaaGreatDoorJv8
import Derived.Test.YtkkbngcgphlikaaGreatDoorJv9
import Derived.Test.YtkkbngcgphlikaaGreatDoorRows
import Derived.BigQuiet
import Derived.Carry
import Derived.ChangeSlices
import Derived.Deep.QuietTactic
import Derived.Deep.RegionHeld3
import Derived.Deep.SlicePairs
import Derived.Handy
import Derived.Laws.BitsAllLaws
import Derived.Laws.CopyOwn
import Derived.Laws.EntriesVeiled
import Derived.Laws.ShiftsVarLaws
import Derived.Lib.AppendZerosOnto
import Derived.Lib.Hide
import Derived.Lib.SliceRun
import Derived.Maps.AppendAt
import Derived.OpenShut
import Derived.OwnWalk
import Derived.OwnWalkIn
import Derived.ProofKit
import Derived.StillTail
import Derived.WalkLawsBesides
import Derived.WalkSpells
import Derived.Laws.OwnMore
import Derived.LoopIn
import Derived.LoopNIn
import Derived.RangeFuncBound
import Derived.RangeFuncBox
import Derived.RangeFuncCalls
import Derived.RangeFuncFrom
import Derived.RangeFuncLeaves
import Derived.RangeFuncNested
import Derived.RangeFuncWrites
import Derived.Shelf.Abstract
import Derived.Shelf.RegionOpen
import Derived.TacticsInMore
import Derived.WalkKit
import Derived.Test.YtkkbngcgphlikaaGreatDoorJv0
set_option maxRecDepth 10000
set_option maxHeartbeats 1000000
set_option linter.unusedVariables false
set_option linter.unusedSimpArgs false
section
namespace Go.Proofs.YtkkbngcgphlikaaGreatDoor
open Go.Lib Go.RowKit Go.ChangeShapes Go.WideShapes Go.Deep
theorem readB_t {I : List Nat} {W L : Int} (h : readB I W L = true) : poolB I = true ∧ W = (I.length : Nat) ∧ L = (I.getD 3 0 : Nat) := by
 unfold readB at h
 rw [Bool.and_eq_true] at h
 exact ⟨h.1, of_decide_eq_true h.2⟩
def laneB (I : List Nat) (W L ln : Int) : Bool := readB I W L && decide (0 ≤ ln ∧ ln < L)
def logP (I : List Nat) (W L ln : Int) : List Sp := if laneB I W L ln = true then logSp I L.toNat ln.toNat else []
theorem log_any (v : Value) (I : List Nat) (W L ln : Int) (w : World) (hw : Lw w) (hW : WL I) (hv : KL .u64 w v I) (h40 : poolB I = true → gNat I.length (I.getD 3 0) ≤ 40) :
 Calls Tryz.prog 95 #[v, .agg #[.int .i64 W, .int .i64 L], .int .i64 ln] w fun e w' => ∃ v', e = .returned v' ∧ OwnSp w' w.heap.size v' (logP I W L ln) ∧ Below w.heap.size w w' := by
 have hA := bZ w (.cells #[.int .i64 W, .int .i64 L] 37)
 have hR := lh (fun w1 (hb : Below w.heap.size w w1) => readable_any v I W L w1 (hw.keep hb) hW (hv.keep hb))
 obtain ⟨nn, hnn⟩ : ∃ n, I.length = n := ⟨_, rfl⟩
 have gC := C2.new w (.int .i64 W) (.int .i64 L) 37
 obtain ⟨C, hC⟩ : ∃ C, w.heap.size = C := ⟨_, rfl⟩
 rw [hC] at gC
 cases hr : readB I W L with
 | false =>
   have hno := lh (show logP I W L ln = [] from if_neg (by unfold laneB; rw [hr]; simp))
   rw [hr] at hR
   obtain ⟨q0, q1⟩ := id gC
   clear hr h40
   go_enter Tryz.func95, Tryz.ntmps95
   go_wp2_with fail
   refine (hR.out _ hA).mono ?_
   rintro e w1 ⟨rfl, hb1⟩
   have hB1 := hA.trans (hb1.mono hA.size)
   clear hb1 hR
   go_wp2_with fail
   go_ret
   exact ⟨_, rfl, by rw [hno.out]; exact OwnSp.nil _ _, hB1⟩
 | true =>
   obtain ⟨hp, hW1, hL1⟩ := readB_t hr
   obtain ⟨L3, hL3⟩ : ∃ L3, I.getD 3 0 = L3 := ⟨_, rfl⟩
   have hgk := (gOk_pool (pool_t hp).1).2
   replace h40 := h40 hp
   rw [hL3] at hL1 hgk h40
   rw [hnn] at hW1
   subst hW1
   subst hL1
   rw [hr] at hR
   have hsz := (pool_size hgk).2.1
   by_cases h0 : ln < 0
   ·have hno := lh (show logP I (nn : Nat) (L3 : Nat) ln = [] from if_neg (by unfold laneB; rw [hr, decide_eq_false (by omega)]; decide))
    obtain ⟨q0, q1⟩ := id gC
    clear hr h40 hgk hp hL3
    go_enter Tryz.func95, Tryz.ntmps95
    go_wp2_with fail
    refine (hR.out _ hA).mono ?_
    rintro e w1 ⟨rfl, hb1⟩
    have hB1 := hA.trans (hb1.mono hA.size)
    clear hb1 hR
    go_wp2_with fail
    go_ret
    exact ⟨_, rfl, by rw [hno.out]; exact OwnSp.nil _ _, hB1⟩
   obtain ⟨n, rfl⟩ := Int.eq_ofNat_of_zero_le (show 0 ≤ ln by omega)
   by_cases h1 : L3 ≤ n
   ·have hno := lh (show logP I (nn : Nat) (L3 : Nat) (n : Nat) = [] from if_neg (by unfold laneB; rw [hr, decide_eq_false (by omega)]; decide))
    have h1' : ((L3 : Int)) ≤ (n : Int) := by omega
    clear hr h40 hgk hp hL3 h0
    go_enter Tryz.func95, Tryz.ntmps95
    obtain ⟨q0, q1⟩ := id gC
    go_wp2_with fail
    refine (hR.out _ hA).mono ?_
    rintro e w1 ⟨rfl, hb1⟩
    have hB1 := hA.trans (hb1.mono hA.size)
    obtain ⟨r0, r1⟩ := gC.keep hb1
    clear hb1 hR q0 q1
    go_wp2_with fail
    go_ret
    exact ⟨_, rfl, by rw [hno.out]; exact OwnSp.nil _ _, hB1⟩
   ·have hyes := lh (show logP I (nn : Nat) (L3 : Nat) (n : Nat) = logSp I L3 n from if_pos (by unfold laneB; rw [hr, decide_eq_true (by omega)]; decide))
    have hMl := lh (fun w1 (hb : Below w.heap.size w w1) => mlog_any v I L3 n w1 (hw.keep hb) hW (hv.keep hb) hgk (by omega) h40)
    rw [hnn] at hMl
    have h1' : ((n : Int)) < (L3 : Int) := by omega
    clear hr h40 hgk hp hL3 h0
    go_enter Tryz.func95, Tryz.ntmps95
    obtain ⟨q0, q1⟩ := id gC
    go_wp2_with fail
    refine (hR.out _ hA).mono ?_
    rintro e w1 ⟨rfl, hb1⟩
    have hB1 := hA.trans (hb1.mono hA.size)
    obtain ⟨r0, r1⟩ := gC.keep hb1
    clear hb1 hR q0 q1
    go_wp2_with fail
    refine (hMl.out _ hB1).mono ?_
    rintro e w2 ⟨v', rfl, ho2, hb2⟩
    have hB2 := hB1.trans (hb2.mono hB1.size)
    have ho3 := lh (ho2.mono hB1.size)
    clear ho2 hb2 hMl
    go_wp2_with fail
    go_ret
    exact ⟨_, rfl, by rw [hyes.out]; exact ho3.out, hB2⟩
end Go.Proofs.YtkkbngcgphlikaaGreatDoor
end
section
namespace Go.Proofs.YtkkbngcgphlikaaGreatDoor
open Go.Lib Go.RowKit Go.ChangeShapes Go.WideShapes Go.Deep
theorem WL.setN {l : List Nat} (h : WL l) (i y : Nat) (hy : y < 18446744073709551616) : WL (l.set i y) := fun z hz => by
 rcases List.mem_or_eq_of_mem_set hz with h1 | h1
 ·exact h z h1
 ·rw [h1]; exact hy
theorem WL.getN {l : List Nat} (h : WL l) (i : Nat) : l.getD i 0 < 18446744073709551616 := by
 rw [List.getD_eq_getElem?_getD]
 cases hc : l[i]? with
 | none => decide
 | some x => exact h x (List.mem_of_getElem? hc)
end Go.Proofs.YtkkbngcgphlikaaGreatDoor
end
section
namespace Go.Proofs.YtkkbngcgphlikaaGreatDoor
open Go.Lib Go.RowKit Go.ChangeShapes Go.WideShapes Go.Deep
theorem OwnU_row {w : World} {base g n c : Nat} {l : List Nat} (h : OwnU w base (.slice (some ⟨g, 0, none⟩) n c) l) : base ≤ g ∧ ∃ cur, w.heap[g]? = some (.cells cur 40 (0, 0)) := by
 rcases h.2 with ⟨q, _⟩ | ⟨g', cap', cur, q, hb, hg, _⟩
 ·cases q
 ·cases q; exact ⟨hb, cur, hg⟩
theorem OwnU_cap {w : World} {base g n c : Nat} {l : List Nat} (h : OwnU w base (.slice (some ⟨g, 0, none⟩) n c) l) (hn : l.length = n) : n ≤ c := by
 rcases h.2 with ⟨q, _⟩ | ⟨g', cap', cur, q, hb, hg, h1, _⟩
 ·cases q
 ·cases q; omega
end Go.Proofs.YtkkbngcgphlikaaGreatDoor
end
