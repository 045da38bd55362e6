/-
  Part of the proof of JournalSaves.
-/
import Derived.Test.YtkkbngcgphlikaaGreatDoorJv1
import Derived.Test.YtkkbngcgphlikaaGreatDoorJv2
import Derived.Test.YtkkbngcgphlikaaGreatDoorJv20
import Derived.Test.YtkkbngcgphlikaaGreatDoorJv3
import Derived.Test.YtkkbngcgphlikaaGreatDoorJv4
import Derived.Test.YtkkbngcgphlikaaGreatDoorRows
import Derived.Laws.EntriesVeiled
import Derived.BigQuiet
import Derived.Carry
import Derived.ChangeSlices
import Derived.Deep.QuietTactic
import Derived.Deep.RegionHeld3
import Derived.Deep.SlicePairs
import Derived.Handy
import Derived.Laws.BitsAllLaws
import Derived.Laws.CopyOwn
import Derived.Laws.ShiftsVarLaws
import Derived.Lib.AppendZerosOnto
import Derived.Lib.Hide
import Derived.Lib.SliceRun
import Derived.Maps.AppendAt
import Derived.OpenShut
import Derived.OwnWalk
import Derived.ProofKit
import Derived.WalkLawsBesides
import Derived.WalkSpells
import Derived.Laws.RangeAny
import Derived.Lib.AppendIntMem
import Derived.Lib.ItoaNum
import Derived.Lib.Split
import Derived.Lib.SplitLaws
import Derived.Shelf.LaysM
import Derived.Lib.LaidTab
import Derived.Lib.SmallJoins
import Derived.Test.YtkkbngcgphlikaaGreatDoorJv0
set_option maxRecDepth 10000
set_option linter.unusedVariables false
set_option linter.unusedSimpArgs false
section
namespace Go.Proofs.YtkkbngcgphlikaaGreatDoor
open Go.RowKit Go.ChangeShapes Go.WideShapes Go.Deep
abbrev Ox := Int × Int × Nat
def opE (o : Ox) : List Value := [.int .i64 o.1, .int .i64 o.2.1, .int .u64 (o.2.2 : Nat)]
def opV (o : Ox) : Value := .agg #[.int .i64 o.1, .int .i64 o.2.1, .int .u64 (o.2.2 : Nat)]
theorem opE_len (o : Ox) : (opE o).length = 3 := rfl
def OB (o : Ox) : Prop := -9223372036854775808 ≤ o.1 ∧ o.1 ≤ 9223372036854775807 ∧ -9223372036854775808 ≤ o.2.1 ∧ o.2.1 ≤ 9223372036854775807 ∧ o.2.2 < 18446744073709551616
def OPL (w : World) (v : Value) (l : List Ox) : Prop := EL 3 opE w v l
theorem OPL.keep {w w1 : World} {v : Value} {l : List Ox} (h : OPL w v l) (hb : Below w.heap.size w w1) : OPL w1 v l := EL.keep h hb
theorem OPL.form {w : World} {v : Value} {l : List Ox} {n : Nat} (h : OPL w v l) (hn : l.length = n) : ∃ A cap, v = .slice A n cap ∧
 ∀ w1 i, Below w.heap.size w w1 → i < n → ∃ g off, A = some ⟨g, off, none⟩ ∧ n ≤ cap ∧ g < w.heap.size ∧ g < w1.heap.size ∧ w1.cell? ⟨g, off + i * 3, none⟩ = some (.int .i64 (l.getD i default).1) ∧ w1.cell? ⟨g, off + i * 3 + 1, none⟩ = some (.int .i64 (l.getD i default).2.1) ∧ w1.cell? ⟨g, off + i * 3 + 2, none⟩ = some (.int .u64 ((l.getD i default).2.2 : Nat)) := by
 obtain ⟨A, cap, hv, h⟩ := EL.form h hn
 refine ⟨A, cap, hv, fun w1 i hb hi => ?_⟩
 obtain ⟨g, off, hA, h1, h2, h3, hc⟩ := h w1 i hb hi
 exact ⟨g, off, hA, h1, h2, h3, hc 0 (by omega), hc 1 (by omega), hc 2 (by omega)⟩
def C3 (w : World) (b : Nat) (x y z : Value) : Prop := w.cell? ⟨b, 0, none⟩ = some x ∧ w.cell? ⟨b, 1, none⟩ = some y ∧ w.cell? ⟨b, 2, none⟩ = some z
theorem C3.lt {w : World} {b : Nat} {x y z : Value} (h : C3 w b x y z) : b < w.heap.size := World.block_lt_of_cell? w _ h.1
theorem C3.keep {W w1 : World} {b : Nat} {x y z : Value} (h : C3 W b x y z) (hb : Below W.heap.size W w1) : C3 w1 b x y z :=
 ⟨by rw [(bcell hb).1 _ _ h.lt]; exact h.1, by rw [(bcell hb).1 _ _ h.lt]; exact h.2.1, by rw [(bcell hb).1 _ _ h.lt]; exact h.2.2⟩
theorem C3.new (w : World) (x y z : Value) (t : TypeId) : C3 (w.alloc (.cells #[x, y, z] t)) w.heap.size x y z := by
 refine ⟨?_, ?_, ?_⟩ <;> simp [go_sem]
theorem C3.alloc {W : World} {b : Nat} {x y z : Value} (h : C3 W b x y z) (o : Obj) : C3 (W.alloc o) b x y z := h.keep (bZ _ _)
def wrongB (o : Ox) : Bool := decide (o.1 < 0) || decide (2 < o.1) || decide (o.2.1 < 0) || decide (65536 ≤ o.2.1)
theorem wrongB_f {o : Ox} (h : wrongB o = false) : 0 ≤ o.1 ∧ o.1 ≤ 2 ∧ 0 ≤ o.2.1 ∧ o.2.1 < 65536 := by
 simp only [wrongB, Bool.or_eq_false_iff, decide_eq_false_iff_not] at h; omega
theorem can_any_rd (o : Ox) (w : World) : Calls Tryz.prog 139 #[opV o] w fun e w' => e = .returned (.bool (!wrongB o)) ∧ Below w.heap.size w w' := by
 obtain ⟨k, a, v⟩ := o
 unfold opV
 simp only []
 have fin : ∀ b : Bool, b = !wrongB (k, a, v) → ∀ w1, Below w.heap.size w w1 → Ending.returned (.bool b) = .returned (.bool (!wrongB (k, a, v))) ∧ Below w.heap.size w w1 := fun b h w1 hb => ⟨by rw [h], hb⟩
 replace fin := lh fin
 have hB : Below w.heap.size w (w.alloc (.cells #[.int .i64 k, .int .i64 a, .int .u64 (v : Nat)] (107 : Nat))) := bZ _ _
 obtain ⟨c0, c1, c2⟩ := C3.new w (.int .i64 k) (.int .i64 a) (.int .u64 (v : Nat)) (107 : Nat)
 by_cases h1 : k < 0
 ·have e := lh (show false = !wrongB (k, a, v) from by simp [wrongB, h1])
  have h1' : ¬ (0 ≤ k) := by omega
  go_enter Tryz.func139, Tryz.ntmps139
  go_wp2_with fail
  go_ret
  first | exact fin.out _ e.out _ hB | exact fin.out _ (by rw [← e.out]; simp; omega) _ hB
 by_cases h2 : 2 < k
 ·have e := lh (show false = !wrongB (k, a, v) from by simp [wrongB, h2])
  have h1' : 0 ≤ k := by omega
  go_enter Tryz.func139, Tryz.ntmps139
  go_wp2_with fail
  go_ret
  first | exact fin.out _ e.out _ hB | exact fin.out _ (by rw [← e.out]; simp; omega) _ hB
 by_cases h3 : a < 0
 ·have e := lh (show false = !wrongB (k, a, v) from by simp [wrongB, h3])
  have h1' : 0 ≤ k := by omega
  have h2' : k ≤ 2 := by omega
  have h3' : ¬ (0 ≤ a) := by omega
  go_enter Tryz.func139, Tryz.ntmps139
  go_wp2_with fail
  go_ret
  first | exact fin.out _ e.out _ hB | exact fin.out _ (by rw [← e.out]; simp; omega) _ hB
 by_cases h4 : 65536 ≤ a
 ·have e := lh (show false = !wrongB (k, a, v) from by simp [wrongB, h4])
  have h1' : 0 ≤ k := by omega
  have h2' : k ≤ 2 := by omega
  have h3' : 0 ≤ a := by omega
  have h4' : 65535 < a := by omega
  go_enter Tryz.func139, Tryz.ntmps139
  go_wp2_with fail
  go_ret
  first | exact fin.out _ e.out _ hB | exact fin.out _ (by rw [← e.out]; simp; omega) _ hB
 ·have e := lh (show true = !wrongB (k, a, v) from by simp [wrongB]; omega)
  have h1' : 0 ≤ k := by omega
  have h2' : k ≤ 2 := by omega
  have h3' : 0 ≤ a := by omega
  have h4' : a ≤ 65535 := by omega
  go_enter Tryz.func139, Tryz.ntmps139
  go_wp2_with fail
  go_ret
  first | exact fin.out _ e.out _ hB | exact fin.out _ (by rw [← e.out]; simp; omega) _ hB
def wordOp (o : Ox) : Int := 4 * o.2.1 + o.1
end Go.Proofs.YtkkbngcgphlikaaGreatDoor
end
section
namespace Go.Proofs.YtkkbngcgphlikaaGreatDoor
open Go.RowKit Go.ChangeShapes Go.WideShapes Go.Deep
def rightB_rd (l : List Ox) : Bool := decide (l.length ≤ 19) && !(l.any wrongB)
theorem rightB_t {l : List Ox} (h : rightB_rd l = true) : l.length ≤ 19 ∧ ∀ o ∈ l, wrongB o = false := by
 simp only [rightB_rd, Bool.and_eq_true, decide_eq_true_eq, Bool.not_eq_true', List.any_eq_false] at h
 exact ⟨h.1, fun o ho => by simpa using h.2 o ho⟩
end Go.Proofs.YtkkbngcgphlikaaGreatDoor
end
section
namespace Go.Proofs.YtkkbngcgphlikaaGreatDoor
open Go.Lib Go.RowKit Go.ChangeShapes Go.WideShapes Go.Deep
structure Chg (S : Nat → Prop) (w w' : World) : Prop where
 os : w'.os = w.os
 tape : w'.tape = w.tape
 output : w'.output = w.output
 size : w.heap.size ≤ w'.heap.size
 block : ∀ k, k < w.heap.size → ¬ S k → w'.heap[k]? = w.heap[k]?
theorem Chg.refl (S : Nat → Prop) (w : World) : Chg S w w := ⟨rfl, rfl, rfl, Nat.le_refl _, fun _ _ _ => rfl⟩
theorem Chg.trans {S S2 : Nat → Prop} {a b c : World} (h : Chg S a b) (k : Chg S2 b c) (hs : ∀ j, S2 j → S j ∨ a.heap.size ≤ j) : Chg S a c :=
 ⟨k.os.trans h.os, k.tape.trans h.tape, k.output.trans h.output, Nat.le_trans h.size k.size, fun j hj hn => (k.block j (Nat.lt_of_lt_of_le hj h.size) (fun q => by rcases hs j q with q | q; exact hn q; omega)).trans (h.block j hj hn)⟩
theorem Chg.of_below (S : Nat → Prop) {w w' : World} (h : Below w.heap.size w w') : Chg S w w' := ⟨h.os, h.tape, h.output, h.size, fun k hk _ => h.block k hk⟩
theorem Chg.of_grown {S : Nat → Prop} {w w' : World} {row : Option Nat} (h : w.grownBy w' row) (hr : ∀ k, row = some k → S k ∨ w.heap.size ≤ k) : Chg S w w' :=
 ⟨h.os, h.tape, h.output, h.size, fun k hk hn => h.block k hk (fun e => by rcases hr k e.symm with q | q; exact hn q; omega)⟩
theorem size_setCell (w : World) (a : Addr) (v : Value) : (w.setCell a v).heap.size = w.heap.size := by simp [World.setCell]
theorem Chg.setCell {S : Nat → Prop} (w : World) (b o : Nat) (v : Value) (h : S b) : Chg S w (w.setCell ⟨b, o, none⟩ v) :=
 ⟨rfl, rfl, rfl, by rw [size_setCell]; exact Nat.le_refl _, fun k hk hn => Below.heap_setCell _ _ _ _ (fun e => hn (by simp only [] at e; rw [e]; exact h))⟩
theorem Chg.below {S : Nat → Prop} {w w' : World} {N : Nat} (h : Chg S w w') (hN : ∀ k, S k → N ≤ k) (hN2 : N ≤ w.heap.size) : Below N w w' :=
 ⟨h.os, h.tape, h.output, h.size, fun k hk => h.block k (by omega) (fun q => by have := hN k q; omega)⟩
theorem OwnE.chg {α : Type} {e : TypeId} {sz : Nat} {en : α → List Value} {S : Nat → Prop} {w w1 : World} {base : Nat} {v : Value} {l : List α} (h : OwnE e sz en w base v l) (hc : Chg S w w1) (hn : ∀ k, v.ownBlock = some k → ¬ S k) : OwnE e sz en w1 base v l := by
 refine ⟨h.1, ?_⟩
 rcases h.2 with h2 | ⟨g, cap, cur, hv, hbg, hg, h1, h2, h3, h4⟩
 ·exact .inl h2
 ·exact .inr ⟨g, cap, cur, hv, hbg, by rw [hc.block g (Array.getElem?_eq_some_iff.1 hg).1 (hn g (by rw [hv]; rfl))]; exact hg, h1, h2, h3, h4⟩
theorem OwnU.chg {F : Nat → Prop} {w w1 : World} {base : Nat} {v : Value} {l : List Nat} (h : OwnU w base v l) (hc : Chg F w w1) (hn : ∀ k, v.ownBlock = some k → ¬ F k) : OwnU w1 base v l := by
 refine ⟨h.1, ?_⟩
 rcases h.2 with h2 | ⟨g, cap, cur, hv, hbg, hg, h1, h2, h3, h4⟩
 ·exact .inl h2
 ·exact .inr ⟨g, cap, cur, hv, hbg, by rw [hc.block g (Array.getElem?_eq_some_iff.1 hg).1 (hn g (by rw [hv]; rfl))]; exact hg, h1, h2, h3, h4⟩
end Go.Proofs.YtkkbngcgphlikaaGreatDoor
end
section
set_option maxRecDepth 100000
namespace Go.Proofs.YtkkbngcgphlikaaGreatDoor
open Go.Lib Go.Shelf Go.RowKit
def nV (a t n : Int) : Value := .agg #[.int .i64 a, .int .i64 t, .int .u64 n]
end Go.Proofs.YtkkbngcgphlikaaGreatDoor
end
section
namespace Go.Proofs.YtkkbngcgphlikaaGreatDoor
open Go.RowKit Go.ChangeShapes
theorem pair_of_head {P : Program} {W : World} {name : String} {x y : Int} {rest : List (String × DataW Unit)} {g : Nat} {t : TypeId} {f0 f1 : Field}
 (hg : P.globalNamed name = some g) (hty : (P.globals[g]?).map (·.type) = some t) (hs : P.underlying t = some (.struct #[f0, f1])) (o0 : f0.offset = 0) (o1 : f1.offset = 1)
 (e0 : P.underlying f0.type = some (.int .i64)) (e1 : P.underlying f1.type = some (.int .i64)) (c0 : P.cellsOf f0.type = 1) (c1 : P.cellsOf f1.type = 1)
 (h : laidMet P ((name, .agg [.lit (.int .i64 x), .lit (.int .i64 y)]) :: rest) W) : CC W g x y := by
 obtain ⟨ps, ⟨g', t', cs, fuel, p, q, hg', ht', hvar, hd, _, _⟩, _⟩ := h
 obtain rfl := Option.some.inj (hg.symm.trans hg')
 obtain rfl := Option.some.inj (hty.symm.trans ht')
 obtain ⟨y0, y1, n, hx, hl, h0, h1⟩ := trod_struct2 hs hd
 rw [o0, c0] at h0
 rw [o1, c1] at h1
 obtain ⟨n0, hc0, hy0, _⟩ := DataW.trod_int e0 h0
 obtain ⟨n1, hc1, hy1, _⟩ := DataW.trod_int e1 h1
 rw [hy0, hy1] at hx
 simp only [Prod.mk.injEq, DataW.agg.injEq, List.cons.injEq, DataW.lit.injEq, Lit.int.injEq, true_and, and_true] at hx
 obtain ⟨⟨rfl, rfl⟩, _⟩ := hx
 have a0 : cs[0]? = some (.int .i64 x) := by
  have := congrArg (·[0]?) hc0
  simpa [List.getElem?_take, List.getElem?_drop] using this
 have a1 : cs[1]? = some (.int .i64 y) := by
  have := congrArg (·[0]?) hc1
  simpa [List.getElem?_take, List.getElem?_drop] using this
 exact ⟨(World.var?_cell hg hvar 0).trans a0, (World.var?_cell hg hvar 1).trans a1⟩
end Go.Proofs.YtkkbngcgphlikaaGreatDoor
end
