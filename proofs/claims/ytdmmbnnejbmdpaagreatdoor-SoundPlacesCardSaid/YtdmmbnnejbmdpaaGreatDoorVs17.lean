/-
  Part of the proof of SoundPlaces.
-/
import Derived.Test.YtdmmbnnejbmdpaaGreatDoorVs1
import Derived.Test.YtdmmbnnejbmdpaaGreatDoorVs10
import Derived.Test.YtdmmbnnejbmdpaaGreatDoorVs16
import Derived.Test.YtdmmbnnejbmdpaaGreatDoorVs6
import Derived.Test.YtdmmbnnejbmdpaaGreatDoorVs8
import Derived.Test.YtdmmbnnejbmdpaaGreatDoorVs9
import Derived.Test.YtdmmbnnejbmdpaaGreatDoorRows
import Derived.Lib.AppendZerosOnto
import Derived.Deep.RegionHeld3
import Derived.Lib.AppendIntMem
import Derived.Lib.ItoaNum
import Derived.Lib.Split
import Derived.Lib.SplitLaws
import Derived.OwnWalkIn
import Derived.Shelf.LaysM
import Derived.Shelf.RegionOpen
import Derived.Test.YtdmmbnnejbmdpaaGreatDoorVs0
set_option maxRecDepth 10000
set_option maxHeartbeats 1000000
set_option linter.unusedVariables false
set_option linter.unusedSimpArgs false
section
namespace Go.Proofs.YtdmmbnnejbmdpaaGreatDoor
open Go.RowKit
def Rw (w : World) (g : Nat) (l : List Nat) : Prop := w.heap[g]? = some (.cells (wv l).toArray 33 (0, 0))
theorem Rw.keep {w w1 : World} {g B : Nat} {l : List Nat} (h : Rw w g l) (hb : Below B w w1) (hg : g < B) : Rw w1 g l := (hb.block g hg).trans h
theorem Rw.lt {w : World} {g : Nat} {l : List Nat} (h : Rw w g l) : g < w.heap.size := (Array.getElem?_eq_some_iff.1 h).1
theorem Rw.sl {w : World} {g : Nat} {l : List Nat} (h : Rw w g l) : SL w (.slice (some ⟨g, 0, none⟩) l.length l.length) l :=
 .inr ⟨g, 0, _, rfl, h.lt, Nat.le_refl _, fun i hi => by
  rw [(row_cell h _).1, Nat.zero_add, List.getElem?_toArray, wv_at l i hi]⟩
theorem Rw.own {w : World} {g : Nat} {l : List Nat} (h : Rw w g l) (hl : l.length ≤ 100000) : w.ownsRow g 33 1 (.slice (some ⟨g, 0, none⟩) l.length l.length) l.length (wv l) :=
 ⟨by rw [wv_len, Nat.mul_one], .inr ⟨g, _, _, rfl, Nat.le_refl _, h, Nat.le_refl _, by unfold maxLen; omega, by simp [wv_len], by simp [wv_len, List.take_of_length_le]⟩⟩
theorem wv_append (a b : List Nat) : wv (a ++ b) = wv a ++ wv b := by simp [wv]
theorem seal_own (v : Value) (l : List Nat) (w : World) (hl : WL l) (hlen : l.length ≤ 900) (hv : SL w v l) :
 Calls Tryz.prog 117 #[v] w fun e w' => e = .returned (.slice (some ⟨w.heap.size, 0, none⟩) (l.length + 1) (l.length + 1)) ∧ Rw w' w.heap.size (l ++ [moreN 0 l]) ∧ Below w.heap.size w w' := by
 obtain ⟨i0, hi, hz0, hz1, hz2⟩ := info_parts infoU64
 have hvv := hv
 have hv1 : ∃ sp cap, v = .slice sp l.length cap := by
  rcases hv with ⟨rfl, sp, cap, rfl⟩ | ⟨g, off, cap, rfl, _⟩
  ·exact ⟨_, _, rfl⟩
  ·exact ⟨_, _, rfl⟩
 obtain ⟨sp, cap, rfl⟩ := hv1
 have hn1 := lh (show ((l.length : Int) + 1) = ((l.length + 1 : Nat) : Int) by omega)
 go_enter Tryz.func117, Tryz.ntmps117
 go_wp2_with (at_make; refine wpList_make_full _ rfl _ _ 25 rfl w.heap.size 33 i0 (.int .u64 0) 1 Tryz.underlying25 hi hz0 hz1 .i64 .i64 _ _ (l.length + 1) rfl rfl hn1.out hn1.out (by rw [hz2]; omega) (by unfold maxLen; omega) (Nat.le_refl _) ?_; intro w1 hown hgr)
 have hrow := row_of_owns hown rfl
 rw [show (madeCells (Value.int IntKind.u64 0).cells ((l.length + 1) * 1)).toList = List.replicate (l.length + 1) (Value.int .u64 0) by
  rw [Nat.mul_one]; exact toList_madeCells_one _ _] at hrow
 have hB1 : Below w.heap.size w w1 := (Below.refl _ _).grown hgr (Nat.le_refl _) (by simp)
 obtain ⟨w2, hrun, hrow2, hb2⟩ := copyW l hrow (hvv.keep hB1)
 rw [show Nat.min l.length (l.length + 1) = l.length from Nat.min_eq_left (by omega), List.take_of_length_le (Nat.le_refl _), show l.length + 1 - l.length = 1 by omega] at hrow2
 rw [hrun]
 have hB2 : Below w.heap.size w w2 := hB1.trans hb2
 have hg2 : w.heap.size < w2.heap.size := (Array.getElem?_eq_some_iff.1 hrow2).1
 have hO := lh (of_any _ l w2 hl (by omega) (hvv.keep hB2))
 have hS2 := lh (hvv.keep hB2)
 have hR := lh (row_cell hrow2)
 replace hrow2 := lh hrow2
 clear hrun hrow hown hgr hvv hb2 hB1
 go_wp2_with fail
 refine hO.out.mono ?_
 rintro e w3 ⟨rfl, hb3⟩
 have hB3 : Below w.heap.size w w3 := hB2.trans (hb3.mono hB2.size)
 have hc3 : w3.cell? ⟨w.heap.size, l.length, none⟩ = some (.int .u64 0) := by
  rw [(bcell hb3).1 _ _ hg2, (hR.out l.length).1]
  simp [wv]
 have hf3 : w3.frozen? ⟨w.heap.size, l.length, none⟩ = false := by rw [(bcell hb3).2 _ _ hg2]; exact (hR.out l.length).2
 have hrow3 := lh ((hb3.block w.heap.size hg2).trans hrow2.out)
 have hm := moreN_lt 0 l
 generalize hmm : moreN 0 l = m at *
 replace hmm := lh hmm
 go_wp2_with fail
 go_ret
 refine ⟨rfl, ?_, hB3.setCell (Nat.le_refl _) _⟩
 unfold Rw
 rw [heap_setCell_same w3 _ _ _ _ _ hrow3.out, wv_append]
 congr 3
 apply Array.ext'
 simp only [Array.toList_setIfInBounds, List.replicate_one]
 rw [show l.length = (wv l).length by rw [wv_len], hmm.out]
 simp [wv]
end Go.Proofs.YtdmmbnnejbmdpaaGreatDoor
end
section
namespace Go.Proofs.YtdmmbnnejbmdpaaGreatDoor
open Go.RowKit Go.ChangeShapes Go.WideShapes Go.Deep
def OVs (l : List Ox) : Prop := ∀ o ∈ l, o.2.2 < 18446744073709551616
theorem OVs.at {l : List Ox} (h : OVs l) (i : Nat) (hi : i < l.length) : (l.getD i default).2.2 < 18446744073709551616 := by
 rw [List.getD_eq_getElem?_getD, List.getElem?_eq_getElem hi]
 exact h _ (List.getElem_mem hi)
end Go.Proofs.YtdmmbnnejbmdpaaGreatDoor
end
section
set_option maxRecDepth 100000
namespace Go.Proofs.YtdmmbnnejbmdpaaGreatDoor
open Go.Lib Go.Shelf Go.RowKit
theorem name_any (at_ t s n : Int) (w : World) :
 Calls Tryz.prog 47 #[.int .i64 at_, nV t s n] w fun e w' => e = .returned (nV at_ t n) ∧ Below w.heap.size w w' := by
 unfold nV
 go_enter Tryz.func47, Tryz.ntmps47
 go_wp2
 go_returns
 exact ⟨rfl, by go_grown⟩
end Go.Proofs.YtdmmbnnejbmdpaaGreatDoor
end
