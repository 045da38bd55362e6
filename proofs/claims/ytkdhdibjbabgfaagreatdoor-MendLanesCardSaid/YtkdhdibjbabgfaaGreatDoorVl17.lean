/-
  Part of the proof of MendLanes.
-/
import Derived.Test.YtkdhdibjbabgfaaGreatDoorVl16
import Derived.Test.YtkdhdibjbabgfaaGreatDoorVl23
import Derived.Test.YtkdhdibjbabgfaaGreatDoorVl4
import Derived.Test.YtkdhdibjbabgfaaGreatDoorVl9
import Derived.Lib.AppendZerosOnto
import Derived.Test.YtkdhdibjbabgfaaGreatDoorVl0
set_option maxRecDepth 10000
set_option maxHeartbeats 2000000
set_option linter.unusedVariables false
set_option linter.unusedSimpArgs false
section
namespace Go.Proofs.YtkdhdibjbabgfaaGreatDoor
open Go.RowKit
def Rw (w : World) (g : Nat) (l : List Nat) : Prop := w.heap[g]? = some (.cells (wv l).toArray 25 (0, 0))
theorem Rw.keep {w w1 : World} {g B : Nat} {l : List Nat} (h : Rw w g l) (hb : Below B w w1) (hg : g < B) : Rw w1 g l := (hb.block g hg).trans h
theorem Rw.lt {w : World} {g : Nat} {l : List Nat} (h : Rw w g l) : g < w.heap.size := (Array.getElem?_eq_some_iff.1 h).1
theorem Rw.sl {w : World} {g : Nat} {l : List Nat} (h : Rw w g l) : SL w (.slice (some ⟨g, 0, none⟩) l.length l.length) l :=
 .inr ⟨g, 0, _, rfl, h.lt, Nat.le_refl _, fun i hi => by
  rw [(row_cell h _).1, Nat.zero_add, List.getElem?_toArray, wv_at l i hi]⟩
theorem Rw.own {w : World} {g : Nat} {l : List Nat} (h : Rw w g l) (hl : l.length ≤ 100000) : w.ownsRow g 25 1 (.slice (some ⟨g, 0, none⟩) l.length l.length) l.length (wv l) :=
 ⟨by rw [wv_len, Nat.mul_one], .inr ⟨g, _, _, rfl, Nat.le_refl _, h, Nat.le_refl _, by unfold maxLen; omega, by simp [wv_len], by simp [wv_len, List.take_of_length_le]⟩⟩
theorem wv_append (a b : List Nat) : wv (a ++ b) = wv a ++ wv b := by simp [wv]
theorem seal_own (v : Value) (l : List Nat) (w : World) (hl : WL l) (hlen : l.length ≤ 900) (hv : SL w v l) :
 Calls Tryz.prog 108 #[v] w fun e w' => e = .returned (.slice (some ⟨w.heap.size, 0, none⟩) (l.length + 1) (l.length + 1)) ∧ Rw w' w.heap.size (l ++ [moreN 0 l]) ∧ Below w.heap.size w w' := by
 obtain ⟨i0, hi, hz0, hz1, hz2⟩ := info_parts infoU64
 have hvv := hv
 have hv1 : ∃ sp cap, v = .slice sp l.length cap := by
  rcases hv with ⟨rfl, sp, cap, rfl⟩ | ⟨g, off, cap, rfl, _⟩
  ·exact ⟨_, _, rfl⟩
  ·exact ⟨_, _, rfl⟩
 obtain ⟨sp, cap, rfl⟩ := hv1
 have hn1 := lh (show ((l.length : Int) + 1) = ((l.length + 1 : Nat) : Int) by omega)
 go_enter Tryz.func108, Tryz.ntmps108
 go_wp2_with (at_make; refine wpList_make_full _ rfl _ _ 23 rfl w.heap.size 25 i0 (.int .u64 0) 1 Tryz.underlying23 hi hz0 hz1 .i64 .i64 _ _ (l.length + 1) rfl rfl hn1.out hn1.out (by rw [hz2]; omega) (by unfold maxLen; omega) (Nat.le_refl _) ?_; intro w1 hown hgr)
 have hrow := row_of_owns hown rfl
 rw [show (madeCells (Value.int IntKind.u64 0).cells ((l.length + 1) * 1)).toList = List.replicate (l.length + 1) (Value.int .u64 0) by
  rw [Nat.mul_one]; exact toList_madeCells_one _ _] at hrow
 have hB1 : Below w.heap.size w w1 := (Below.refl _ _).grown hgr (Nat.le_refl _) (by simp)
 obtain ⟨w2, hrun, hrow2, hb2⟩ := copyW l hrow (hvv.keep hB1)
 rw [show Nat.min l.length (l.length + 1) = l.length from Nat.min_eq_left (by omega), List.take_of_length_le (Nat.le_refl _), show l.length + 1 - l.length = 1 by omega] at hrow2
 rw [hrun]
 have hB2 : Below w.heap.size w w2 := hB1.trans hb2
 have hg2 : w.heap.size < w2.heap.size := (Array.getElem?_eq_some_iff.1 hrow2).1
 have hO := lh (of_any _ l w2 hl (by omega) (hvv.keep hB2))
 have hS2 := lh (hvv.keep hB2)
 have hR := lh (row_cell hrow2)
 replace hrow2 := lh hrow2
 clear hrun hrow hown hgr hvv hb2 hB1
 go_wp2_with fail
 refine hO.out.mono ?_
 rintro e w3 ⟨rfl, hb3⟩
 have hB3 : Below w.heap.size w w3 := hB2.trans (hb3.mono hB2.size)
 have hc3 : w3.cell? ⟨w.heap.size, l.length, none⟩ = some (.int .u64 0) := by
  rw [(bcell hb3).1 _ _ hg2, (hR.out l.length).1]
  simp [wv]
 have hf3 : w3.frozen? ⟨w.heap.size, l.length, none⟩ = false := by rw [(bcell hb3).2 _ _ hg2]; exact (hR.out l.length).2
 have hrow3 := lh ((hb3.block w.heap.size hg2).trans hrow2.out)
 have hm := moreN_lt 0 l
 generalize hmm : moreN 0 l = m at *
 replace hmm := lh hmm
 go_wp2_with fail
 go_ret
 refine ⟨rfl, ?_, hB3.setCell (Nat.le_refl _) _⟩
 unfold Rw
 rw [heap_setCell_same w3 _ _ _ _ _ hrow3.out, wv_append]
 congr 3
 apply Array.ext'
 simp only [Array.toList_setIfInBounds, List.replicate_one]
 rw [show l.length = (wv l).length by rw [wv_len], hmm.out]
 simp [wv]
end Go.Proofs.YtkdhdibjbabgfaaGreatDoor
end
section
namespace Go.Proofs.YtkdhdibjbabgfaaGreatDoor
open Go.RowKit Go.ChangeShapes Go.WideShapes Go.Deep
theorem opsame_any (v u : Value) (l m : List Ox) (w : World) (hlen : l.length ≤ 1000000) (hv : OPL w v l) (hu : OPL w u m) :
 Calls Tryz.prog 15 #[v, u] w fun e w' => e = .returned (.bool (decide (l = m))) ∧ Below w.heap.size w w' := by
 obtain ⟨n, hn⟩ : ∃ n, l.length = n := ⟨_, rfl⟩
 obtain ⟨n2, hn2⟩ : ∃ n, m.length = n := ⟨_, rfl⟩
 obtain ⟨A, cap, rfl, hC⟩ := hv.form hn
 obtain ⟨A2, cap2, rfl, hC2⟩ := hu.form hn2
 have hne := lh (fun (h : ¬ l = m) => show decide (l = m) = false from decide_eq_false h)
 by_cases hnn : n = n2
 ·subst hnn
  have hyes := lh (fun (h : ∀ j, j < n → l.getD j default = m.getD j default) => show decide (l = m) = true from by
   refine decide_eq_true ?_
   apply List.ext_getElem (by omega)
   intro i h1 h2
   have := h i (by omega)
   rwa [List.getD_eq_getElem?_getD, List.getD_eq_getElem?_getD, List.getElem?_eq_getElem h1, List.getElem?_eq_getElem h2] at this)
  replace hC := lh hC
  replace hC2 := lh hC2
  have hlen' : n ≤ 1000000 := by omega
  clear hlen
  replace hn := lh hn
  replace hn2 := lh hn2
  go_enter Tryz.func15, Tryz.ntmps15
  go_wp2_with fail
  go_loopw [5] (fun i wr => ∃ k : Nat, k ≤ n ∧ i = .int .i64 k ∧ Hid (∀ j, j < k → l.getD j default = m.getD j default) ∧ Below w.heap.size w wr) (fun i _ => n + 1 - (intOf i).toNat)
  case atStart => exact ⟨0, Nat.zero_le _, rfl, (fun j hj => by omega), Below.refl _ _⟩
  case round =>
   obtain ⟨k, hk, rfl, hF, hB⟩ := hrel
   by_cases hlt : k < n
   ·obtain ⟨g, off, rfl, hcap, _, hg, c0, c1, c2⟩ := hC.out wr k hB hlt
    obtain ⟨g2, off2, rfl, hcap2, _, hg2, d0, d1, d2⟩ := hC2.out wr k hB hlt
    have hlt' : (k : Int) < (n : Int) := by omega
    have hF2 := lh (fun (h : l.getD k default = m.getD k default) j (hj : j < k + 1) => show l.getD j default = m.getD j default from by
     by_cases e : j = k
     ·subst e; exact h
     ·exact hF.out j (by omega))
    have hF3 := lh (fun (h : ¬ l.getD k default = m.getD k default) => show decide (l = m) = false from decide_eq_false (fun q => h (by rw [q])))
    generalize l.getD k default = s at *
    generalize m.getD k default = t at *
    obtain ⟨x, a, y⟩ := s
    obtain ⟨x2, a2, y2⟩ := t
    simp only [] at c0 c1 c2 d0 d1 d2
    by_cases hx : x = x2
    ·subst hx
     by_cases ha : a = a2
     ·subst ha
      by_cases hy : y = y2
      ·subst hy
       have hR := lh (hF2.out rfl)
       clear hF2 hF3
       go_wp2_with fail
       refine wp_region_held_drew (S := (fun w' => w'.cell? ⟨g, off + k * 3, none⟩ = some (.int .i64 x) ∧ w'.cell? ⟨g, off + k * 3 + 1, none⟩ = some (.int .i64 a) ∧ w'.cell? ⟨g, off + k * 3 + 2, none⟩ = some (.int .u64 (y : Nat)) ∧ w'.cell? ⟨g2, off2 + k * 3, none⟩ = some (.int .i64 x) ∧ w'.cell? ⟨g2, off2 + k * 3 + 1, none⟩ = some (.int .i64 a) ∧ w'.cell? ⟨g2, off2 + k * 3 + 2, none⟩ = some (.int .u64 (y : Nat)) ∧ Below w.heap.size w w')) (by kernel_rfl) ?_ (fun hHeld => ?_)
       ·(try dsimp only)
        (first | assumption | exact ⟨c0, c1, c2, d0, d1, d2, hB.drew⟩)
       refine takeV 0 ?_
       refine takeV 1 ?_
       refine takeV 2 ?_
       refine takeV 3 ?_
       refine takeV 4 ?_
       refine takeV 5 ?_
       refine takeV 6 ?_
       refine takeV 7 ?_
       refine takeV 8 ?_
       refine wpAnyH_done (by kernel_rfl) ?_ _
       clear hHeld
       go_wp2_with fail
       go_roundw
       case rel => exact ⟨k + 1, by omega, by go_num, hR, hB.drew⟩
       case measure => simp [intOf]; omega
      ·have hR := lh (hF3.out (by simp [hy]))
       have f1 : ((y : Int) == (y2 : Int)) = false := by rw [beq_eq_false_iff_ne]; omega
       clear hy hF2 hF3
       go_wp2_with fail
       refine wp_region_held_drew (S := (fun w' => w'.cell? ⟨g, off + k * 3, none⟩ = some (.int .i64 x) ∧ w'.cell? ⟨g, off + k * 3 + 1, none⟩ = some (.int .i64 a) ∧ w'.cell? ⟨g, off + k * 3 + 2, none⟩ = some (.int .u64 (y : Nat)) ∧ w'.cell? ⟨g2, off2 + k * 3, none⟩ = some (.int .i64 x) ∧ w'.cell? ⟨g2, off2 + k * 3 + 1, none⟩ = some (.int .i64 a) ∧ w'.cell? ⟨g2, off2 + k * 3 + 2, none⟩ = some (.int .u64 (y2 : Nat)) ∧ Below w.heap.size w w')) (by kernel_rfl) ?_ (fun hHeld => ?_)
       ·(try dsimp only)
        (first | assumption | exact ⟨c0, c1, c2, d0, d1, d2, hB.drew⟩)
       refine takeV 0 ?_
       refine takeV 1 ?_
       refine takeV 2 ?_
       refine takeV 3 ?_
       refine takeV 4 ?_
       refine takeV 5 ?_
       refine takeV 6 ?_
       refine takeV 7 ?_
       refine takeV 8 ?_
       refine wpAnyH_done (by kernel_rfl) ?_ _
       clear hHeld
       go_wp2_with fail
       go_ret
       exact ⟨by rw [hR.out]; rfl, hB.drew⟩
     ·have hR := lh (hF3.out (by simp [ha]))
      have f1 : (a == a2) = false := by rw [beq_eq_false_iff_ne]; exact ha
      clear ha hF2 hF3
      go_wp2_with fail
      refine wp_region_held_drew (S := (fun w' => w'.cell? ⟨g, off + k * 3, none⟩ = some (.int .i64 x) ∧ w'.cell? ⟨g, off + k * 3 + 1, none⟩ = some (.int .i64 a) ∧ w'.cell? ⟨g, off + k * 3 + 2, none⟩ = some (.int .u64 (y : Nat)) ∧ w'.cell? ⟨g2, off2 + k * 3, none⟩ = some (.int .i64 x) ∧ w'.cell? ⟨g2, off2 + k * 3 + 1, none⟩ = some (.int .i64 a2) ∧ w'.cell? ⟨g2, off2 + k * 3 + 2, none⟩ = some (.int .u64 (y2 : Nat)) ∧ Below w.heap.size w w')) (by kernel_rfl) ?_ (fun hHeld => ?_)
      ·(try dsimp only)
       (first | assumption | exact ⟨c0, c1, c2, d0, d1, d2, hB.drew⟩)
      refine takeV 0 ?_
      refine takeV 1 ?_
      refine takeV 2 ?_
      refine takeV 3 ?_
      refine takeV 4 ?_
      refine takeV 5 ?_
      refine takeV 6 ?_
      refine takeV 7 ?_
      refine takeV 8 ?_
      refine wpAnyH_done (by kernel_rfl) ?_ _
      clear hHeld
      go_wp2_with fail
      go_ret
      exact ⟨by rw [hR.out]; rfl, hB.drew⟩
    ·have hR := lh (hF3.out (by simp [hx]))
     have f1 : (x == x2) = false := by rw [beq_eq_false_iff_ne]; exact hx
     clear hx hF2 hF3
     go_wp2_with fail
     refine wp_region_held_drew (S := (fun w' => w'.cell? ⟨g, off + k * 3, none⟩ = some (.int .i64 x) ∧ w'.cell? ⟨g, off + k * 3 + 1, none⟩ = some (.int .i64 a) ∧ w'.cell? ⟨g, off + k * 3 + 2, none⟩ = some (.int .u64 (y : Nat)) ∧ w'.cell? ⟨g2, off2 + k * 3, none⟩ = some (.int .i64 x2) ∧ w'.cell? ⟨g2, off2 + k * 3 + 1, none⟩ = some (.int .i64 a2) ∧ w'.cell? ⟨g2, off2 + k * 3 + 2, none⟩ = some (.int .u64 (y2 : Nat)) ∧ Below w.heap.size w w')) (by kernel_rfl) ?_ (fun hHeld => ?_)
     ·(try dsimp only)
      (first | assumption | exact ⟨c0, c1, c2, d0, d1, d2, hB.drew⟩)
     refine takeV 0 ?_
     refine takeV 1 ?_
     refine takeV 2 ?_
     refine takeV 3 ?_
     refine takeV 4 ?_
     refine takeV 5 ?_
     refine takeV 6 ?_
     refine takeV 7 ?_
     refine takeV 8 ?_
     refine wpAnyH_done (by kernel_rfl) ?_ _
     clear hHeld
     go_wp2_with fail
     go_ret
     exact ⟨by rw [hR.out]; rfl, hB.drew⟩
   ·obtain rfl : k = n := by omega
    have hR := lh (hyes.out hF.out)
    go_wp2_with fail
    go_ret
    exact ⟨by rw [hR.out]; rfl, hB⟩
 ·have hR := lh (hne.out (fun h => hnn (by rw [← hn, ← hn2, h])))
  have f1 : ((n : Int) != (n2 : Int)) = true := by rw [bne_iff_ne]; omega
  clear hn hn2 hv hu hC hC2 hnn
  go_enter Tryz.func15, Tryz.ntmps15
  go_wp2_with fail
  go_ret
  exact ⟨by rw [hR.out]; rfl, Below.refl _ _⟩
end Go.Proofs.YtkdhdibjbabgfaaGreatDoor
end
