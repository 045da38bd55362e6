/-
  Part of the proof of SoundPlaces.
-/
import Derived.Test.YtdmmbnnejbmdpaaGreatDoorVs1
import Derived.Test.YtdmmbnnejbmdpaaGreatDoorVs2
import Derived.Test.YtdmmbnnejbmdpaaGreatDoorVs3
import Derived.Test.YtdmmbnnejbmdpaaGreatDoorVs4
import Derived.Test.YtdmmbnnejbmdpaaGreatDoorVs5
import Derived.Test.YtdmmbnnejbmdpaaGreatDoorVs6
import Derived.Test.YtdmmbnnejbmdpaaGreatDoorVs7
import Derived.Test.YtdmmbnnejbmdpaaGreatDoorVs8
import Derived.Test.YtdmmbnnejbmdpaaGreatDoorRows
import Derived.Deep.RegionHeld3
import Derived.Laws.EntriesVeiled
import Derived.OwnWalkIn
import Derived.BigQuiet
import Derived.Carry
import Derived.ChangeSlices
import Derived.Deep.QuietTactic
import Derived.Deep.SlicePairs
import Derived.Handy
import Derived.Laws.BitsAllLaws
import Derived.Laws.CopyOwn
import Derived.Laws.ShiftsVarLaws
import Derived.Lib.AppendZerosOnto
import Derived.Lib.Hide
import Derived.Lib.SliceRun
import Derived.Maps.AppendAt
import Derived.OpenShut
import Derived.OwnWalk
import Derived.ProofKit
import Derived.WalkLawsBesides
import Derived.WalkSpells
import Derived.Test.YtdmmbnnejbmdpaaGreatDoorVs0
set_option maxRecDepth 10000
set_option linter.unusedVariables false
set_option linter.unusedSimpArgs false
section
namespace Go.Proofs.YtdmmbnnejbmdpaaGreatDoor
open Go.RowKit Go.ChangeShapes Go.WideShapes Go.Deep
theorem KL.sl {w : World} {v : Value} {l : List Nat} (h : KL .u64 w v l) : SL w v l := by
 obtain ⟨A, cap, hv, h⟩ := h
 by_cases h0 : 0 < l.length
 ·obtain ⟨g, off, rfl, hg, hc, hi⟩ := h h0
  exact .inr ⟨g, off, cap, hv, hg, hc, hi⟩
 ·have : l = [] := List.eq_nil_of_length_eq_zero (by omega)
  subst this
  exact .inl ⟨rfl, A, cap, hv⟩
theorem SL.kl {w : World} {v : Value} {l : List Nat} (h : SL w v l) : KL .u64 w v l := by
 rcases h with ⟨rfl, A, cap, hv⟩ | ⟨g, off, cap, hv, hg, hc, hi⟩
 ·exact ⟨A, cap, hv, fun h => by simp at h⟩
 ·exact ⟨_, cap, hv, fun _ => ⟨g, off, rfl, hg, hc, hi⟩⟩
theorem OwnU.set {w : World} {base g cap n i y : Nat} {I : List Nat} (h : OwnU w base (.slice (some ⟨g, 0, none⟩) n cap) I) (hn : I.length = n) (hi : i < n) : OwnU (w.setCell ⟨g, i, none⟩ (.int .u64 (y : Nat))) base (.slice (some ⟨g, 0, none⟩) n cap) (I.set i y) := by
 unfold OwnU at h ⊢
 rw [hn] at h
 rw [List.length_set, hn, List.map_set]
 exact (World.ownsRow.stored h i _).1
theorem OwnU.cell {w : World} {base g cap n i : Nat} {I : List Nat} (h : OwnU w base (.slice (some ⟨g, 0, none⟩) n cap) I) (hn : I.length = n) (hi : i < n) : w.cell? ⟨g, i, none⟩ = some (.int .u64 (I.getD i 0 : Nat)) ∧ w.frozen? ⟨g, i, none⟩ = false := by
 unfold OwnU at h
 rw [hn] at h
 refine ⟨?_, h.frozenAt _⟩
 rw [World.ownsRow.cellAt h i (by omega), List.getElem?_map, List.getElem?_eq_getElem (by omega), List.getD_eq_getElem?_getD, List.getElem?_eq_getElem (by omega)]
 rfl
theorem OwnU.form {w : World} {base : Nat} {v : Value} {I : List Nat} (h : OwnU w base v I) : ∃ A cap, v = .slice A I.length cap ∧ (0 < I.length → ∃ g, A = some ⟨g, 0, none⟩ ∧ base ≤ g ∧ g < w.heap.size) := by
 rcases h.2 with ⟨h, h0⟩ | ⟨g, cap, cur, h, hb, hg, _⟩
 ·exact ⟨none, 0, by rw [h, h0], fun q => by omega⟩
 ·exact ⟨_, _, h, fun _ => ⟨g, rfl, hb, (Array.getElem?_eq_some_iff.1 hg).1⟩⟩
abbrev Ex := Int × Value × List Nat
def eE (x : Ex) : List Value := [.int .i64 x.1, x.2.1]
def eV (x : Ex) : Value := .agg (eE x).toArray
def canB (a m : Int) : Bool := decide (0 ≤ a) && decide (a < 65536) && decide (1 ≤ m) && decide (m ≤ 4096)
theorem canB_iff {a m : Int} : canB a m = true ↔ 0 ≤ a ∧ a < 65536 ∧ 1 ≤ m ∧ m ≤ 4096 := by
 unfold canB
 simp only [Bool.and_eq_true, decide_eq_true_eq, and_assoc]
def rightB (x : Ex) : Bool := canB x.1 x.2.2.length
def firstW (g a m : Nat) : Nat := a + 1048576 * m + 281474976710656 * (g % 65536)
def encW (g : Nat) (a : Nat) (l : List Nat) : List Nat := (firstW g a l.length :: l) ++ [moreN 0 (firstW g a l.length :: l)]
end Go.Proofs.YtdmmbnnejbmdpaaGreatDoor
end
section
namespace Go.Proofs.YtdmmbnnejbmdpaaGreatDoor
open Go.RowKit Go.ChangeShapes Go.WideShapes Go.Deep
abbrev Ox := Int × Int × Nat
def opE (o : Ox) : List Value := [.int .i64 o.1, .int .i64 o.2.1, .int .u64 (o.2.2 : Nat)]
def opV (o : Ox) : Value := .agg #[.int .i64 o.1, .int .i64 o.2.1, .int .u64 (o.2.2 : Nat)]
theorem opE_len (o : Ox) : (opE o).length = 3 := rfl
def OPL (w : World) (v : Value) (l : List Ox) : Prop := EL 3 opE w v l
theorem OPL.keep {w w1 : World} {v : Value} {l : List Ox} (h : OPL w v l) (hb : Below w.heap.size w w1) : OPL w1 v l := EL.keep h hb
theorem OPL.form {w : World} {v : Value} {l : List Ox} {n : Nat} (h : OPL w v l) (hn : l.length = n) : ∃ A cap, v = .slice A n cap ∧
 ∀ w1 i, Below w.heap.size w w1 → i < n → ∃ g off, A = some ⟨g, off, none⟩ ∧ n ≤ cap ∧ g < w.heap.size ∧ g < w1.heap.size ∧ w1.cell? ⟨g, off + i * 3, none⟩ = some (.int .i64 (l.getD i default).1) ∧ w1.cell? ⟨g, off + i * 3 + 1, none⟩ = some (.int .i64 (l.getD i default).2.1) ∧ w1.cell? ⟨g, off + i * 3 + 2, none⟩ = some (.int .u64 ((l.getD i default).2.2 : Nat)) := by
 obtain ⟨A, cap, hv, h⟩ := EL.form h hn
 refine ⟨A, cap, hv, fun w1 i hb hi => ?_⟩
 obtain ⟨g, off, hA, h1, h2, h3, hc⟩ := h w1 i hb hi
 exact ⟨g, off, hA, h1, h2, h3, hc 0 (by omega), hc 1 (by omega), hc 2 (by omega)⟩
def C3 (w : World) (b : Nat) (x y z : Value) : Prop := w.cell? ⟨b, 0, none⟩ = some x ∧ w.cell? ⟨b, 1, none⟩ = some y ∧ w.cell? ⟨b, 2, none⟩ = some z
theorem C3.lt {w : World} {b : Nat} {x y z : Value} (h : C3 w b x y z) : b < w.heap.size := World.block_lt_of_cell? w _ h.1
theorem C3.keep {W w1 : World} {b : Nat} {x y z : Value} (h : C3 W b x y z) (hb : Below W.heap.size W w1) : C3 w1 b x y z :=
 ⟨by rw [(bcell hb).1 _ _ h.lt]; exact h.1, by rw [(bcell hb).1 _ _ h.lt]; exact h.2.1, by rw [(bcell hb).1 _ _ h.lt]; exact h.2.2⟩
theorem C3.new (w : World) (x y z : Value) (t : TypeId) : C3 (w.alloc (.cells #[x, y, z] t)) w.heap.size x y z := by
 refine ⟨?_, ?_, ?_⟩ <;> simp [go_sem]
theorem C3.alloc {W : World} {b : Nat} {x y z : Value} (h : C3 W b x y z) (o : Obj) : C3 (W.alloc o) b x y z := h.keep (bZ _ _)
def wrongB (o : Ox) : Bool := decide (o.1 < 0) || decide (2 < o.1) || decide (o.2.1 < 0) || decide (65536 ≤ o.2.1)
theorem wrongB_f {o : Ox} (h : wrongB o = false) : 0 ≤ o.1 ∧ o.1 ≤ 2 ∧ 0 ≤ o.2.1 ∧ o.2.1 < 65536 := by
 simp only [wrongB, Bool.or_eq_false_iff, decide_eq_false_iff_not] at h; omega
theorem can_any_rd (o : Ox) (w : World) : Calls Tryz.prog 93 #[opV o] w fun e w' => e = .returned (.bool (!wrongB o)) ∧ Below w.heap.size w w' := by
 obtain ⟨k, a, v⟩ := o
 unfold opV
 simp only []
 have fin : ∀ b : Bool, b = !wrongB (k, a, v) → ∀ w1, Below w.heap.size w w1 → Ending.returned (.bool b) = .returned (.bool (!wrongB (k, a, v))) ∧ Below w.heap.size w w1 := fun b h w1 hb => ⟨by rw [h], hb⟩
 replace fin := lh fin
 have hB : Below w.heap.size w (w.alloc (.cells #[.int .i64 k, .int .i64 a, .int .u64 (v : Nat)] (144 : Nat))) := bZ _ _
 obtain ⟨c0, c1, c2⟩ := C3.new w (.int .i64 k) (.int .i64 a) (.int .u64 (v : Nat)) (144 : Nat)
 by_cases h1 : k < 0
 ·have e := lh (show false = !wrongB (k, a, v) from by simp [wrongB, h1])
  have h1' : ¬ (0 ≤ k) := by omega
  go_enter Tryz.func93, Tryz.ntmps93
  go_wp2_with fail
  go_ret
  first | exact fin.out _ e.out _ hB | exact fin.out _ (by rw [← e.out]; simp; omega) _ hB
 by_cases h2 : 2 < k
 ·have e := lh (show false = !wrongB (k, a, v) from by simp [wrongB, h2])
  have h1' : 0 ≤ k := by omega
  go_enter Tryz.func93, Tryz.ntmps93
  go_wp2_with fail
  go_ret
  first | exact fin.out _ e.out _ hB | exact fin.out _ (by rw [← e.out]; simp; omega) _ hB
 by_cases h3 : a < 0
 ·have e := lh (show false = !wrongB (k, a, v) from by simp [wrongB, h3])
  have h1' : 0 ≤ k := by omega
  have h2' : k ≤ 2 := by omega
  have h3' : ¬ (0 ≤ a) := by omega
  go_enter Tryz.func93, Tryz.ntmps93
  go_wp2_with fail
  go_ret
  first | exact fin.out _ e.out _ hB | exact fin.out _ (by rw [← e.out]; simp; omega) _ hB
 by_cases h4 : 65536 ≤ a
 ·have e := lh (show false = !wrongB (k, a, v) from by simp [wrongB, h4])
  have h1' : 0 ≤ k := by omega
  have h2' : k ≤ 2 := by omega
  have h3' : 0 ≤ a := by omega
  have h4' : 65535 < a := by omega
  go_enter Tryz.func93, Tryz.ntmps93
  go_wp2_with fail
  go_ret
  first | exact fin.out _ e.out _ hB | exact fin.out _ (by rw [← e.out]; simp; omega) _ hB
 ·have e := lh (show true = !wrongB (k, a, v) from by simp [wrongB]; omega)
  have h1' : 0 ≤ k := by omega
  have h2' : k ≤ 2 := by omega
  have h3' : 0 ≤ a := by omega
  have h4' : a ≤ 65535 := by omega
  go_enter Tryz.func93, Tryz.ntmps93
  go_wp2_with fail
  go_ret
  first | exact fin.out _ e.out _ hB | exact fin.out _ (by rw [← e.out]; simp; omega) _ hB
def wordOp (o : Ox) : Int := 4 * o.2.1 + o.1
end Go.Proofs.YtdmmbnnejbmdpaaGreatDoor
end
section
namespace Go.Proofs.YtdmmbnnejbmdpaaGreatDoor
open Go.Lib Go.RowKit Go.ChangeShapes Go.WideShapes Go.Deep
structure Chg (S : Nat → Prop) (w w' : World) : Prop where
 os : w'.os = w.os
 tape : w'.tape = w.tape
 output : w'.output = w.output
 size : w.heap.size ≤ w'.heap.size
 block : ∀ k, k < w.heap.size → ¬ S k → w'.heap[k]? = w.heap[k]?
theorem Chg.refl (S : Nat → Prop) (w : World) : Chg S w w := ⟨rfl, rfl, rfl, Nat.le_refl _, fun _ _ _ => rfl⟩
theorem Chg.trans {S S2 : Nat → Prop} {a b c : World} (h : Chg S a b) (k : Chg S2 b c) (hs : ∀ j, S2 j → S j ∨ a.heap.size ≤ j) : Chg S a c :=
 ⟨k.os.trans h.os, k.tape.trans h.tape, k.output.trans h.output, Nat.le_trans h.size k.size, fun j hj hn => (k.block j (Nat.lt_of_lt_of_le hj h.size) (fun q => by rcases hs j q with q | q; exact hn q; omega)).trans (h.block j hj hn)⟩
theorem Chg.of_below (S : Nat → Prop) {w w' : World} (h : Below w.heap.size w w') : Chg S w w' := ⟨h.os, h.tape, h.output, h.size, fun k hk _ => h.block k hk⟩
theorem Chg.of_grown {S : Nat → Prop} {w w' : World} {row : Option Nat} (h : w.grownBy w' row) (hr : ∀ k, row = some k → S k ∨ w.heap.size ≤ k) : Chg S w w' :=
 ⟨h.os, h.tape, h.output, h.size, fun k hk hn => h.block k hk (fun e => by rcases hr k e.symm with q | q; exact hn q; omega)⟩
theorem size_setCell (w : World) (a : Addr) (v : Value) : (w.setCell a v).heap.size = w.heap.size := by simp [World.setCell]
theorem Chg.setCell {S : Nat → Prop} (w : World) (b o : Nat) (v : Value) (h : S b) : Chg S w (w.setCell ⟨b, o, none⟩ v) :=
 ⟨rfl, rfl, rfl, by rw [size_setCell]; exact Nat.le_refl _, fun k hk hn => Below.heap_setCell _ _ _ _ (fun e => hn (by simp only [] at e; rw [e]; exact h))⟩
theorem Chg.below {S : Nat → Prop} {w w' : World} {N : Nat} (h : Chg S w w') (hN : ∀ k, S k → N ≤ k) (hN2 : N ≤ w.heap.size) : Below N w w' :=
 ⟨h.os, h.tape, h.output, h.size, fun k hk => h.block k (by omega) (fun q => by have := hN k q; omega)⟩
theorem OwnE.chg {α : Type} {e : TypeId} {sz : Nat} {en : α → List Value} {S : Nat → Prop} {w w1 : World} {base : Nat} {v : Value} {l : List α} (h : OwnE e sz en w base v l) (hc : Chg S w w1) (hn : ∀ k, v.ownBlock = some k → ¬ S k) : OwnE e sz en w1 base v l := by
 refine ⟨h.1, ?_⟩
 rcases h.2 with h2 | ⟨g, cap, cur, hv, hbg, hg, h1, h2, h3, h4⟩
 ·exact .inl h2
 ·exact .inr ⟨g, cap, cur, hv, hbg, by rw [hc.block g (Array.getElem?_eq_some_iff.1 hg).1 (hn g (by rw [hv]; rfl))]; exact hg, h1, h2, h3, h4⟩
theorem OwnU.chg {F : Nat → Prop} {w w1 : World} {base : Nat} {v : Value} {l : List Nat} (h : OwnU w base v l) (hc : Chg F w w1) (hn : ∀ k, v.ownBlock = some k → ¬ F k) : OwnU w1 base v l := by
 refine ⟨h.1, ?_⟩
 rcases h.2 with h2 | ⟨g, cap, cur, hv, hbg, hg, h1, h2, h3, h4⟩
 ·exact .inl h2
 ·exact .inr ⟨g, cap, cur, hv, hbg, by rw [hc.block g (Array.getElem?_eq_some_iff.1 hg).1 (hn g (by rw [hv]; rfl))]; exact hg, h1, h2, h3, h4⟩
end Go.Proofs.YtdmmbnnejbmdpaaGreatDoor
end
