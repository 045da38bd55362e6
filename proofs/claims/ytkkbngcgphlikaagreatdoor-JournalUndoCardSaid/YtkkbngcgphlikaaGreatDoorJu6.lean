/-
  Part of the proof of JournalUndo.
-/
import Derived.Test.YtkkbngcgphlikaaGreatDoorJu5
import Derived.Test.YtkkbngcgphlikaaGreatDoorJu7
import Derived.Test.YtkkbngcgphlikaaGreatDoorRows
import Derived.Maps.Ext
import Derived.Lib.AppendIntMem
import Derived.Lib.SplitLaws
import Derived.Shelf.LaysM
import Derived.Lib.SmallJoins
import Derived.Test.YtkkbngcgphlikaaGreatDoorJu0
set_option maxRecDepth 10000
set_option maxHeartbeats 4000000
set_option linter.unusedVariables false
set_option linter.unusedSimpArgs false
section
namespace Go.Proofs.YtkkbngcgphlikaaGreatDoor
open Go.RowKit Go.ChangeShapes Go.WideShapes Go.Deep Go.Maps
abbrev Fx := (Int × Int × Int × Int × Bool) × Int × Int × Int × Int
theorem tlaw : Keyed Tryz.prog 3 := int_keyed Tryz.underlying3
def I64 (x : Int) : Prop := -9223372036854775808 ≤ x ∧ x ≤ 9223372036854775807
theorem I64.wf {x : Int} (h : I64 x) : (Lit.int .i64 x).wf = true := by
 obtain ⟨h1, h2⟩ := h
 exact WalkArith.wf_i64 (by omega)
theorem wf_I64 {x : Int} (h : (Lit.int .i64 x).wf = true) : I64 x := bounds_i64 h
theorem kint (x : Int) : WideAt.IsKeyLit (.int .i64 x) := trivial
theorem lit_ne {x k : Int} (h : x ≠ k) : (Lit.int .i64 x) ≠ Lit.int .i64 k := fun e => h (by injection e)
abbrev Gf := Int → Option Fx
end Go.Proofs.YtkkbngcgphlikaaGreatDoor
end
section
namespace Go.Proofs.YtkkbngcgphlikaaGreatDoor
open Go.RowKit Go.ChangeShapes Go.WideShapes Go.Deep
abbrev Ox := Int × Int × Nat
def opE (o : Ox) : List Value := [.int .i64 o.1, .int .i64 o.2.1, .int .u64 (o.2.2 : Nat)]
def opV (o : Ox) : Value := .agg #[.int .i64 o.1, .int .i64 o.2.1, .int .u64 (o.2.2 : Nat)]
theorem opE_len (o : Ox) : (opE o).length = 3 := rfl
def OB (o : Ox) : Prop := -9223372036854775808 ≤ o.1 ∧ o.1 ≤ 9223372036854775807 ∧ -9223372036854775808 ≤ o.2.1 ∧ o.2.1 ≤ 9223372036854775807 ∧ o.2.2 < 18446744073709551616
theorem infoOp : (Tryz.prog.info? 107).map (fun i => (i.zero, i.size, i.bytes)) = some (some (.agg #[.int .i64 0, .int .i64 0, .int .u64 0]), 3, 24) := by kernel_rfl
theorem opT : ElT Tryz.prog 29 107 3 24 opE :=
 ⟨Tryz.underlying29, by obtain ⟨i0, h1, h2, h3, h4⟩ := info_parts infoOp; exact ⟨i0, _, h1, h2, h3, h4, rfl⟩, opE_len, fun x u hu => by simp only [opE, List.mem_cons, List.not_mem_nil, or_false] at hu; rcases hu with rfl | rfl | rfl <;> rfl, by decide, by decide⟩
def OPL (w : World) (v : Value) (l : List Ox) : Prop := EL 3 opE w v l
theorem OPL.keep {w w1 : World} {v : Value} {l : List Ox} (h : OPL w v l) (hb : Below w.heap.size w w1) : OPL w1 v l := EL.keep h hb
theorem OPL.form {w : World} {v : Value} {l : List Ox} {n : Nat} (h : OPL w v l) (hn : l.length = n) : ∃ A cap, v = .slice A n cap ∧
 ∀ w1 i, Below w.heap.size w w1 → i < n → ∃ g off, A = some ⟨g, off, none⟩ ∧ n ≤ cap ∧ g < w.heap.size ∧ g < w1.heap.size ∧ w1.cell? ⟨g, off + i * 3, none⟩ = some (.int .i64 (l.getD i default).1) ∧ w1.cell? ⟨g, off + i * 3 + 1, none⟩ = some (.int .i64 (l.getD i default).2.1) ∧ w1.cell? ⟨g, off + i * 3 + 2, none⟩ = some (.int .u64 ((l.getD i default).2.2 : Nat)) := by
 obtain ⟨A, cap, hv, h⟩ := EL.form h hn
 refine ⟨A, cap, hv, fun w1 i hb hi => ?_⟩
 obtain ⟨g, off, hA, h1, h2, h3, hc⟩ := h w1 i hb hi
 exact ⟨g, off, hA, h1, h2, h3, hc 0 (by omega), hc 1 (by omega), hc 2 (by omega)⟩
def C3 (w : World) (b : Nat) (x y z : Value) : Prop := w.cell? ⟨b, 0, none⟩ = some x ∧ w.cell? ⟨b, 1, none⟩ = some y ∧ w.cell? ⟨b, 2, none⟩ = some z
theorem C3.lt {w : World} {b : Nat} {x y z : Value} (h : C3 w b x y z) : b < w.heap.size := World.block_lt_of_cell? w _ h.1
theorem C3.keep {W w1 : World} {b : Nat} {x y z : Value} (h : C3 W b x y z) (hb : Below W.heap.size W w1) : C3 w1 b x y z :=
 ⟨by rw [(bcell hb).1 _ _ h.lt]; exact h.1, by rw [(bcell hb).1 _ _ h.lt]; exact h.2.1, by rw [(bcell hb).1 _ _ h.lt]; exact h.2.2⟩
theorem C3.new (w : World) (x y z : Value) (t : TypeId) : C3 (w.alloc (.cells #[x, y, z] t)) w.heap.size x y z := by
 refine ⟨?_, ?_, ?_⟩ <;> simp [go_sem]
def wrongB (o : Ox) : Bool := decide (o.1 < 0) || decide (2 < o.1) || decide (o.2.1 < 0) || decide (65536 ≤ o.2.1)
theorem wrongB_f {o : Ox} (h : wrongB o = false) : 0 ≤ o.1 ∧ o.1 ≤ 2 ∧ 0 ≤ o.2.1 ∧ o.2.1 < 65536 := by
 simp only [wrongB, Bool.or_eq_false_iff, decide_eq_false_iff_not] at h; omega
theorem wrong_any (o : Ox) (w : World) : Calls Tryz.prog 155 #[opV o] w fun e w' => e = .returned (.bool (wrongB o)) ∧ Below w.heap.size w w' := by
 obtain ⟨k, a, v⟩ := o
 unfold opV
 simp only []
 have fin : ∀ b : Bool, b = wrongB (k, a, v) → ∀ w1, Below w.heap.size w w1 → Ending.returned (.bool b) = .returned (.bool (wrongB (k, a, v))) ∧ Below w.heap.size w w1 := fun b h w1 hb => ⟨by rw [h], hb⟩
 replace fin := lh fin
 have hB : Below w.heap.size w (w.alloc (.cells #[.int .i64 k, .int .i64 a, .int .u64 (v : Nat)] (107 : Nat))) := bZ _ _
 obtain ⟨c0, c1, c2⟩ := C3.new w (.int .i64 k) (.int .i64 a) (.int .u64 (v : Nat)) (107 : Nat)
 by_cases h1 : k < 0
 ·have e := lh (show true = wrongB (k, a, v) from by simp [wrongB, h1])
  go_enter Tryz.func155, Tryz.ntmps155
  go_wp2_with fail
  go_ret
  first | exact fin.out _ e.out _ hB | exact fin.out _ (by rw [← e.out]; simp; omega) _ hB
 by_cases h2 : 2 < k
 ·have e := lh (show true = wrongB (k, a, v) from by simp [wrongB, h2])
  go_enter Tryz.func155, Tryz.ntmps155
  go_wp2_with fail
  go_ret
  first | exact fin.out _ e.out _ hB | exact fin.out _ (by rw [← e.out]; simp; omega) _ hB
 by_cases h3 : a < 0
 ·have e := lh (show true = wrongB (k, a, v) from by simp [wrongB, h3])
  go_enter Tryz.func155, Tryz.ntmps155
  go_wp2_with fail
  go_ret
  first | exact fin.out _ e.out _ hB | exact fin.out _ (by rw [← e.out]; simp; omega) _ hB
 by_cases h4 : 65536 ≤ a
 ·have e := lh (show true = wrongB (k, a, v) from by simp [wrongB, h4])
  go_enter Tryz.func155, Tryz.ntmps155
  go_wp2_with fail
  go_ret
  first | exact fin.out _ e.out _ hB | exact fin.out _ (by rw [← e.out]; simp; omega) _ hB
 have e := lh (show false = wrongB (k, a, v) from by simp [wrongB]; omega)
 go_enter Tryz.func155, Tryz.ntmps155
 go_wp2_with fail
 go_ret
 first | exact fin.out _ e.out _ hB | exact fin.out _ (by rw [← e.out]; simp; omega) _ hB
def wordOp (o : Ox) : Int := 4 * o.2.1 + o.1
theorem put_k (k : Int) (w : World) (h0 : 0 ≤ k) (h1 : k ≤ 2) :
 Calls Tryz.prog 156 #[.int .u64 0, .int .i64 0, .int .i64 2, .int .u64 k] w fun e w' => e = .returned (.int .u64 k) ∧ w = w' := by
 refine (put_yes 0 0 2 k w (by omega) (by omega) (by omega) (by omega) (by omega) (by omega) h0 (by omega)).mono ?_
 rintro e w' ⟨rfl, rfl⟩
 refine ⟨?_, rfl⟩
 obtain ⟨V, rfl⟩ := Int.eq_ofNat_of_zero_le h0
 have e : V % 4 = V := Nat.mod_eq_of_lt (by omega)
 simp [putI, putN, e]
theorem put_a (k a : Int) (w : World) (h0 : 0 ≤ k) (h1 : k ≤ 2) (h2 : 0 ≤ a) (h3 : a < 65536) :
 Calls Tryz.prog 156 #[.int .u64 k, .int .i64 2, .int .i64 20, .int .u64 a] w fun e w' => e = .returned (.int .u64 (4 * a + k)) ∧ w = w' := by
 refine (put_yes k 2 20 a w (by omega) (by omega) (by omega) (by omega) (by omega) (by omega) h2 (by omega)).mono ?_
 rintro e w' ⟨rfl, rfl⟩
 refine ⟨?_, rfl⟩
 obtain ⟨V, rfl⟩ := Int.eq_ofNat_of_zero_le h2
 obtain ⟨K, rfl⟩ := Int.eq_ofNat_of_zero_le h0
 have e : V % 1048576 = V := Nat.mod_eq_of_lt (by omega)
 have e2 : K % 4 = K := Nat.mod_eq_of_lt (by omega)
 have e3 : K / 4194304 = 0 := by omega
 simp [putI, putN, e, e2, e3]
 omega
theorem first_any_rd (o : Ox) (w : World) (h : wrongB o = false) : Calls Tryz.prog 111 #[opV o] w fun e w' => e = .returned (.int .u64 (wordOp o)) ∧ Below w.heap.size w w' := by
 obtain ⟨k, a, v⟩ := o
 obtain ⟨h1, h2, h3, h4⟩ := wrongB_f h
 unfold opV wordOp
 simp only [] at *
 clear h
 have hB : Below w.heap.size w (w.alloc (.cells #[.int .i64 k, .int .i64 a, .int .u64 (v : Nat)] (107 : Nat))) := bZ _ _
 obtain ⟨c0, c1, c2⟩ := C3.new w (.int .i64 k) (.int .i64 a) (.int .u64 (v : Nat)) (107 : Nat)
 have hBd := hB.drew
 have fk : IntKind.u64.wrap k = k := by rw [IntKind.wrap_u64]; omega
 have fa : IntKind.u64.wrap a = a := by rw [IntKind.wrap_u64]; omega
 have hP1 := lh (fun w => put_k k w h1 h2)
 have hP2 := lh (fun w => put_a k a w h1 h2 h3 h4)
 go_enter Tryz.func111, Tryz.ntmps111
 go_wp2_with fail
 go_region_held3 (fun w' => w'.cell? ⟨w.heap.size, 0, none⟩ = some (.int .i64 k) ∧ w'.cell? ⟨w.heap.size, 1, none⟩ = some (.int .i64 a) ∧ Below w.heap.size w w')
  (((try go_split_ands); refine ⟨?_, ?_, ?_⟩ <;> first | assumption))
  (((try go_split_ands); first | ((with_reducible refine (hP1.out _).mono ?_); rintro e w8 ⟨rfl, rfl⟩) | ((with_reducible refine (hP2.out _).mono ?_); rintro e w8 ⟨rfl, rfl⟩)))
 go_split_ands
 go_wp2_with fail
 go_ret
 exact ⟨rfl, by assumption⟩
end Go.Proofs.YtkkbngcgphlikaaGreatDoor
end
section
namespace Go.Proofs.YtkkbngcgphlikaaGreatDoor
open Go.RowKit Go.ChangeShapes Go.WideShapes Go.Deep
def doN (x : Nat) (o : Ox) : Nat := if o.1 = 0 then o.2.2 else if o.1 = 1 then x ||| o.2.2 else if o.1 = 2 then x &&& o.2.2 else x
theorem doN_lt {x : Nat} {o : Ox} (hx : x < 18446744073709551616) (ho : o.2.2 < 18446744073709551616) : doN x o < 18446744073709551616 := by
 unfold doN
 split
 ·exact ho
 split
 ·exact Nat.or_lt_two_pow (n := 64) hx ho
 split
 ·exact Nat.lt_of_le_of_lt Nat.and_le_left hx
 exact hx
theorem op_set (x v : Nat) (k a : Int) (w : World) (hx : x < 18446744073709551616) (hv : v < 18446744073709551616) : Calls Tryz.prog 127 #[.agg #[.int .i64 k, .int .i64 a, .int .u64 (v : Nat)], .int .u64 (x : Nat)] w fun e w' => e = .returned (.int .u64 (v : Nat)) ∧ Below w.heap.size w w' := by
 have hB : Below w.heap.size w (w.alloc (.cells #[.int .i64 k, .int .i64 a, .int .u64 (v : Nat)] (179 : Nat))) := bZ _ _
 obtain ⟨c0, c1, c2⟩ := C3.new w (.int .i64 k) (.int .i64 a) (.int .u64 (v : Nat)) (179 : Nat)
 go_enter Tryz.func127, Tryz.ntmps127
 go_wp2_with fail
 go_ret
 exact ⟨rfl, hB⟩
theorem op_or (x v : Nat) (k a : Int) (w : World) (hx : x < 18446744073709551616) (hv : v < 18446744073709551616) : Calls Tryz.prog 128 #[.agg #[.int .i64 k, .int .i64 a, .int .u64 (v : Nat)], .int .u64 (x : Nat)] w fun e w' => e = .returned (.int .u64 (x ||| v : Nat)) ∧ Below w.heap.size w w' := by
 have e : bits .or .u64 (x : Int) (v : Int) = ((x ||| v : Nat) : Int) := u64_or_nat x v (by omega) (by omega)
 replace e := lh e
 have hB : Below w.heap.size w (w.alloc (.cells #[.int .i64 k, .int .i64 a, .int .u64 (v : Nat)] (179 : Nat))) := bZ _ _
 obtain ⟨c0, c1, c2⟩ := C3.new w (.int .i64 k) (.int .i64 a) (.int .u64 (v : Nat)) (179 : Nat)
 go_enter Tryz.func128, Tryz.ntmps128
 go_wp2_with fail
 go_ret
 exact ⟨by rw [← e.out]; rfl, hB⟩
theorem op_and (x v : Nat) (k a : Int) (w : World) (hx : x < 18446744073709551616) (hv : v < 18446744073709551616) : Calls Tryz.prog 129 #[.agg #[.int .i64 k, .int .i64 a, .int .u64 (v : Nat)], .int .u64 (x : Nat)] w fun e w' => e = .returned (.int .u64 (x &&& v : Nat)) ∧ Below w.heap.size w w' := by
 have e : bits .and .u64 (x : Int) (v : Int) = ((x &&& v : Nat) : Int) := u64_and_nat x v (by omega) (by omega)
 replace e := lh e
 have hB : Below w.heap.size w (w.alloc (.cells #[.int .i64 k, .int .i64 a, .int .u64 (v : Nat)] (179 : Nat))) := bZ _ _
 obtain ⟨c0, c1, c2⟩ := C3.new w (.int .i64 k) (.int .i64 a) (.int .u64 (v : Nat)) (179 : Nat)
 go_enter Tryz.func129, Tryz.ntmps129
 go_wp2_with fail
 go_ret
 exact ⟨by rw [← e.out]; rfl, hB⟩
theorem do_easy (x : Nat) (o : Ox) (w : World) (hx : x < 18446744073709551616) (h : o.1 < 0 ∨ 3 ≤ o.1) : Calls Tryz.prog 71 #[.int .u64 (x : Nat), opV o] w fun e w' => e = .returned (.int .u64 (x : Nat)) ∧ Below w.heap.size w w' := by
 obtain ⟨k, a, v⟩ := o
 unfold opV
 simp only [] at *
 have hB : Below w.heap.size w (w.alloc (.cells #[.int .i64 k, .int .i64 a, .int .u64 (v : Nat)] (107 : Nat))) := bZ _ _
 rcases h with h | h
 ·go_enter Tryz.func71, Tryz.ntmps71
  go_wp2_with fail
  go_ret
  exact ⟨rfl, hB.alloc hB.size _⟩
 have h' : ¬ k < 0 := by omega
 go_enter Tryz.func71, Tryz.ntmps71
 go_wp2_with fail
 go_ret
 exact ⟨rfl, hB.alloc hB.size _⟩
end Go.Proofs.YtkkbngcgphlikaaGreatDoor
end
section
namespace Go.Proofs.YtkkbngcgphlikaaGreatDoor
open Go.Lib Go.RowKit Go.ChangeShapes Go.WideShapes Go.Deep
structure Chg (S : Nat → Prop) (w w' : World) : Prop where
 os : w'.os = w.os
 tape : w'.tape = w.tape
 output : w'.output = w.output
 size : w.heap.size ≤ w'.heap.size
 block : ∀ k, k < w.heap.size → ¬ S k → w'.heap[k]? = w.heap[k]?
theorem Chg.refl (S : Nat → Prop) (w : World) : Chg S w w := ⟨rfl, rfl, rfl, Nat.le_refl _, fun _ _ _ => rfl⟩
theorem Chg.trans {S S2 : Nat → Prop} {a b c : World} (h : Chg S a b) (k : Chg S2 b c) (hs : ∀ j, S2 j → S j ∨ a.heap.size ≤ j) : Chg S a c :=
 ⟨k.os.trans h.os, k.tape.trans h.tape, k.output.trans h.output, Nat.le_trans h.size k.size, fun j hj hn => (k.block j (Nat.lt_of_lt_of_le hj h.size) (fun q => by rcases hs j q with q | q; exact hn q; omega)).trans (h.block j hj hn)⟩
theorem Chg.of_below (S : Nat → Prop) {w w' : World} (h : Below w.heap.size w w') : Chg S w w' := ⟨h.os, h.tape, h.output, h.size, fun k hk _ => h.block k hk⟩
theorem Chg.of_grown {S : Nat → Prop} {w w' : World} {row : Option Nat} (h : w.grownBy w' row) (hr : ∀ k, row = some k → S k ∨ w.heap.size ≤ k) : Chg S w w' :=
 ⟨h.os, h.tape, h.output, h.size, fun k hk hn => h.block k hk (fun e => by rcases hr k e.symm with q | q; exact hn q; omega)⟩
theorem size_setCell (w : World) (a : Addr) (v : Value) : (w.setCell a v).heap.size = w.heap.size := by simp [World.setCell]
theorem Chg.setCell {S : Nat → Prop} (w : World) (b o : Nat) (v : Value) (h : S b) : Chg S w (w.setCell ⟨b, o, none⟩ v) :=
 ⟨rfl, rfl, rfl, by rw [size_setCell]; exact Nat.le_refl _, fun k hk hn => Below.heap_setCell _ _ _ _ (fun e => hn (by simp only [] at e; rw [e]; exact h))⟩
theorem Chg.below {S : Nat → Prop} {w w' : World} {N : Nat} (h : Chg S w w') (hN : ∀ k, S k → N ≤ k) (hN2 : N ≤ w.heap.size) : Below N w w' :=
 ⟨h.os, h.tape, h.output, h.size, fun k hk => h.block k (by omega) (fun q => by have := hN k q; omega)⟩
theorem OwnE.chg {α : Type} {e : TypeId} {sz : Nat} {en : α → List Value} {S : Nat → Prop} {w w1 : World} {base : Nat} {v : Value} {l : List α} (h : OwnE e sz en w base v l) (hc : Chg S w w1) (hn : ∀ k, v.ownBlock = some k → ¬ S k) : OwnE e sz en w1 base v l := by
 refine ⟨h.1, ?_⟩
 rcases h.2 with h2 | ⟨g, cap, cur, hv, hbg, hg, h1, h2, h3, h4⟩
 ·exact .inl h2
 exact .inr ⟨g, cap, cur, hv, hbg, by rw [hc.block g (Array.getElem?_eq_some_iff.1 hg).1 (hn g (by rw [hv]; rfl))]; exact hg, h1, h2, h3, h4⟩
theorem OwnU.chg {F : Nat → Prop} {w w1 : World} {base : Nat} {v : Value} {l : List Nat} (h : OwnU w base v l) (hc : Chg F w w1) (hn : ∀ k, v.ownBlock = some k → ¬ F k) : OwnU w1 base v l := by
 refine ⟨h.1, ?_⟩
 rcases h.2 with h2 | ⟨g, cap, cur, hv, hbg, hg, h1, h2, h3, h4⟩
 ·exact .inl h2
 exact .inr ⟨g, cap, cur, hv, hbg, by rw [hc.block g (Array.getElem?_eq_some_iff.1 hg).1 (hn g (by rw [hv]; rfl))]; exact hg, h1, h2, h3, h4⟩
end Go.Proofs.YtkkbngcgphlikaaGreatDoor
end
section
namespace Go.Proofs.YtkkbngcgphlikaaGreatDoor
open Go.RowKit
def Deb (w : World) : Prop := True
theorem Deb.keep {W w1 : World} {n : Nat} (h : Deb W) (hb : Below n W w1) : Deb w1 := trivial
end Go.Proofs.YtkkbngcgphlikaaGreatDoor
end
section
namespace Go.Proofs.YtkkbngcgphlikaaGreatDoor
open Go.RowKit
def CC (w : World) (b : Nat) (x y : Int) : Prop := w.cell? ⟨b, 0, none⟩ = some (.int .i64 x) ∧ w.cell? ⟨b, 1, none⟩ = some (.int .i64 y)
theorem CC.lt {w : World} {b : Nat} {x y : Int} (h : CC w b x y) : b < w.heap.size := World.block_lt_of_cell? w _ h.1
theorem CC.keep {W w1 : World} {b : Nat} {x y : Int} (h : CC W b x y) (hb : Below W.heap.size W w1) : CC w1 b x y :=
 ⟨by rw [(bcell hb).1 _ _ h.lt]; exact h.1, by rw [(bcell hb).1 _ _ h.lt]; exact h.2⟩
def Pl (w : World) : Prop :=
 CC w 0 0 3 ∧ CC w 1 3 2 ∧ CC w 2 5 6 ∧ CC w 3 11 13 ∧ CC w 4 24 8
theorem Pl.keep {W w1 : World} (h : Pl W) (hb : Below W.heap.size W w1) : Pl w1 :=
 ⟨h.1.keep hb, h.2.1.keep hb, h.2.2.1.keep hb, h.2.2.2.1.keep hb, h.2.2.2.2.keep hb⟩
theorem or_add (k : Nat) (y x : Nat) (hy : y < 2 ^ k) (h : y + 2 ^ k * x < 18446744073709551616) : bits .or .u64 (y : Int) ((2 ^ k * x : Nat) : Int) = ((y + 2 ^ k * x : Nat) : Int) := by
 rw [u64_or_nat y (2 ^ k * x) (by omega) (by omega)]
 congr 1
 rw [Nat.or_comm, ← Nat.two_pow_add_eq_or_of_lt hy, Nat.add_comm]
theorem putI_zero (a m v : Nat) (hv : v < 2 ^ m) : putI 0 a m v = ((2 ^ a * v : Nat) : Int) := by
 unfold putI putN
 simp only [Int.toNat_natCast, Int.toNat_zero, Nat.zero_mod, Nat.zero_div, Nat.zero_mul, Nat.zero_add, Nat.add_zero, Nat.mod_eq_of_lt hv, Nat.mul_comm]
theorem pin_any (x : Int) (a m : Int) (w : World) (h0 : 0 ≤ x) (h1 : x < 18446744073709551616) (ha : 0 ≤ a) (hm : 1 ≤ m) (h2 : m ≤ 64) (h3 : a ≤ 64 - m) :
 Calls Tryz.prog 168 #[.agg #[.int .i64 a, .int .i64 m], .int .u64 x] w fun e w' => e = .returned (.int .u64 (getI x a m)) ∧ Below w.heap.size w w' := by
 go_enter Tryz.func168, Tryz.ntmps168
 go_wp2_with fail
 refine (get_yes x a m _ h0 h1 ha hm h2 h3).mono ?_
 rintro e w' ⟨rfl, rfl⟩
 go_wp2_with fail
 go_ret
 exact ⟨rfl, bZ _ _⟩
theorem pof_any (a m v : Int) (w : World) (ha : 0 ≤ a) (hm : 1 ≤ m) (h2 : m ≤ 64) (h3 : a ≤ 64 - m) (hv0 : 0 ≤ v) (hv1 : v < 18446744073709551616) :
 Calls Tryz.prog 172 #[.agg #[.int .i64 a, .int .i64 m], .int .u64 v] w fun e w' => e = .returned (.int .u64 (putI 0 a m v)) ∧ Below w.heap.size w w' := by
 go_enter Tryz.func172, Tryz.ntmps172
 go_wp2_with fail
 refine (put_yes 0 a m v _ (by omega) (by omega) ha hm h2 h3 hv0 hv1).mono ?_
 rintro e w' ⟨rfl, rfl⟩
 go_wp2_with fail
 go_ret
 exact ⟨rfl, bZ _ _⟩
theorem of_kind (v : Int) (w : World) (h0 : 0 ≤ v) (h1 : v < 8) :
 Calls Tryz.prog 172 #[.agg #[.int .i64 0, .int .i64 3], .int .u64 v] w fun e w' => e = .returned (.int .u64 v) ∧ Below w.heap.size w w' := by
 obtain ⟨n, rfl⟩ := Int.eq_ofNat_of_zero_le h0
 have := pof_any 0 3 n w (by omega) (by omega) (by omega) (by omega) (by omega) (by omega)
 rwa [show putI 0 0 3 (n : Int) = (n : Int) by have := putI_zero 0 3 n (by omega); simpa using this] at this
theorem of_class (v : Int) (w : World) (h0 : 0 ≤ v) (h1 : v < 4) :
 Calls Tryz.prog 172 #[.agg #[.int .i64 3, .int .i64 2], .int .u64 v] w fun e w' => e = .returned (.int .u64 (8 * v)) ∧ Below w.heap.size w w' := by
 obtain ⟨n, rfl⟩ := Int.eq_ofNat_of_zero_le h0
 have := pof_any 3 2 n w (by omega) (by omega) (by omega) (by omega) (by omega) (by omega)
 rwa [show putI 0 3 2 (n : Int) = 8 * (n : Int) by have := putI_zero 3 2 n (by omega); simpa using this] at this
theorem of_lane (v : Int) (w : World) (h0 : 0 ≤ v) (h1 : v < 64) :
 Calls Tryz.prog 172 #[.agg #[.int .i64 5, .int .i64 6], .int .u64 v] w fun e w' => e = .returned (.int .u64 (32 * v)) ∧ Below w.heap.size w w' := by
 obtain ⟨n, rfl⟩ := Int.eq_ofNat_of_zero_le h0
 have := pof_any 5 6 n w (by omega) (by omega) (by omega) (by omega) (by omega) (by omega)
 rwa [show putI 0 5 6 (n : Int) = 32 * (n : Int) by have := putI_zero 5 6 n (by omega); simpa using this] at this
theorem of_many (v : Int) (w : World) (h0 : 0 ≤ v) (h1 : v < 8192) :
 Calls Tryz.prog 172 #[.agg #[.int .i64 11, .int .i64 13], .int .u64 v] w fun e w' => e = .returned (.int .u64 (2048 * v)) ∧ Below w.heap.size w w' := by
 obtain ⟨n, rfl⟩ := Int.eq_ofNat_of_zero_le h0
 have := pof_any 11 13 n w (by omega) (by omega) (by omega) (by omega) (by omega) (by omega)
 rwa [show putI 0 11 13 (n : Int) = 2048 * (n : Int) by have := putI_zero 11 13 n (by omega); simpa using this] at this
theorem of_bits (v : Int) (w : World) (h0 : 0 ≤ v) (h1 : v < 256) :
 Calls Tryz.prog 172 #[.agg #[.int .i64 24, .int .i64 8], .int .u64 v] w fun e w' => e = .returned (.int .u64 (16777216 * v)) ∧ Below w.heap.size w w' := by
 obtain ⟨n, rfl⟩ := Int.eq_ofNat_of_zero_le h0
 have := pof_any 24 8 n w (by omega) (by omega) (by omega) (by omega) (by omega) (by omega)
 rwa [show putI 0 24 8 (n : Int) = 16777216 * (n : Int) by have := putI_zero 24 8 n (by omega); simpa using this] at this
theorem or_class (k c : Int) (k0 : 0 ≤ k) (k1 : k < 8) (c0 : 0 ≤ c) (c1 : c < 4) : bits .or .u64 k (8 * c) = k + 8 * c := by
 obtain ⟨k, rfl⟩ := Int.eq_ofNat_of_zero_le k0
 obtain ⟨c, rfl⟩ := Int.eq_ofNat_of_zero_le c0
 simpa using or_add 3 k c (by omega) (by omega)
theorem or_lane (y l : Int) (k0 : 0 ≤ y) (k1 : y < 32) (c0 : 0 ≤ l) (c1 : l < 64) : bits .or .u64 y (32 * l) = y + 32 * l := by
 obtain ⟨k, rfl⟩ := Int.eq_ofNat_of_zero_le k0
 obtain ⟨c, rfl⟩ := Int.eq_ofNat_of_zero_le c0
 simpa using or_add 5 k c (by omega) (by omega)
theorem or_many (y l : Int) (k0 : 0 ≤ y) (k1 : y < 2048) (c0 : 0 ≤ l) (c1 : l < 8192) : bits .or .u64 y (2048 * l) = y + 2048 * l := by
 obtain ⟨k, rfl⟩ := Int.eq_ofNat_of_zero_le k0
 obtain ⟨c, rfl⟩ := Int.eq_ofNat_of_zero_le c0
 simpa using or_add 11 k c (by omega) (by omega)
theorem or_bits (y l : Int) (k0 : 0 ≤ y) (k1 : y < 16777216) (c0 : 0 ≤ l) (c1 : l < 256) : bits .or .u64 y (16777216 * l) = y + 16777216 * l := by
 obtain ⟨k, rfl⟩ := Int.eq_ofNat_of_zero_le k0
 obtain ⟨c, rfl⟩ := Int.eq_ofNat_of_zero_le c0
 simpa using or_add 24 k c (by omega) (by omega)
def C5 (w : World) (g : Nat) (k c l m b : Int) : Prop :=
 w.cell? ⟨g, 0, none⟩ = some (.int .i64 k) ∧ w.cell? ⟨g, 1, none⟩ = some (.int .i64 c) ∧ w.cell? ⟨g, 2, none⟩ = some (.int .i64 l) ∧ w.cell? ⟨g, 3, none⟩ = some (.int .i64 m) ∧ w.cell? ⟨g, 4, none⟩ = some (.int .u64 b)
theorem C5.lt {w : World} {g : Nat} {k c l m b : Int} (h : C5 w g k c l m b) : g < w.heap.size := World.block_lt_of_cell? w _ h.1
theorem C5.keep {W w1 : World} {g : Nat} {k c l m b : Int} (h : C5 W g k c l m b) (hb : Below W.heap.size W w1) : C5 w1 g k c l m b := by
 obtain ⟨h0, h1, h2, h3, h4⟩ := id h
 have hl := h.lt
 refine ⟨?_, ?_, ?_, ?_, ?_⟩ <;> (rw [(bcell hb).1 _ _ hl]; assumption)
theorem C5.new (w : World) (k c l m b : Int) (t : TypeId) : C5 (w.alloc (.cells #[.int .i64 k, .int .i64 c, .int .i64 l, .int .i64 m, .int .u64 b] t)) w.heap.size k c l m b := by
 refine ⟨?_, ?_, ?_, ?_, ?_⟩ <;> simp [go_sem]
def wordI (k c l m b : Int) : Int := k + 8 * c + 32 * l + 2048 * m + 16777216 * b
theorem word_any (k c l m b : Int) (w : World) (hp : Pl w) (k0 : 0 ≤ k) (k1 : k < 8) (c0 : 0 ≤ c) (c1 : c < 4) (l0 : 0 ≤ l) (l1 : l < 64) (m0 : 0 ≤ m) (m1 : m < 8192) (b0 : 0 ≤ b) (b1 : b < 256) :
 Calls Tryz.prog 143 #[.agg #[.int .i64 k, .int .i64 c, .int .i64 l, .int .i64 m, .int .u64 b]] w fun e w' => e = .returned (.int .u64 (wordI k c l m b)) ∧ Below w.heap.size w w' := by
 have e1 := or_class k c k0 k1 c0 c1
 have e2 := or_lane (k + 8 * c) l (by omega) (by omega) l0 l1
 have e3 := or_many (k + 8 * c + 32 * l) m (by omega) (by omega) m0 m1
 have e4 := or_bits (k + 8 * c + 32 * l + 2048 * m) b (by omega) (by omega) b0 b1
 have f1 : IntKind.u64.wrap k = k := by rw [IntKind.wrap_u64]; omega
 have f2 : IntKind.u64.wrap c = c := by rw [IntKind.wrap_u64]; omega
 have f3 : IntKind.u64.wrap l = l := by rw [IntKind.wrap_u64]; omega
 have f4 : IntKind.u64.wrap m = m := by rw [IntKind.wrap_u64]; omega
 have hp1 := hp.keep (bZ w (.cells #[.int .i64 k, .int .i64 c, .int .i64 l, .int .i64 m, .int .u64 b] 109))
 obtain ⟨⟨p00, p01⟩, ⟨p10, p11⟩, ⟨p20, p21⟩, ⟨p30, p31⟩, ⟨p40, p41⟩⟩ := id hp1
 have hsz : 4 < w.heap.size ∧ 0 < w.heap.size ∧ 1 < w.heap.size ∧ 2 < w.heap.size ∧ 3 < w.heap.size := ⟨hp.2.2.2.2.lt, hp.1.lt, hp.2.1.lt, hp.2.2.1.lt, hp.2.2.2.1.lt⟩
 obtain ⟨z4, z0, z1, z2, z3⟩ := hsz
 clear hp
 go_enter Tryz.func143, Tryz.ntmps143
 go_wp2_with fail
 go_region_held3 (fun w' => w'.cell? ⟨w.heap.size, 0, none⟩ = some (.int .i64 k) ∧ w'.cell? ⟨w.heap.size, 1, none⟩ = some (.int .i64 c) ∧ w'.cell? ⟨w.heap.size, 2, none⟩ = some (.int .i64 l) ∧ w'.cell? ⟨w.heap.size, 3, none⟩ = some (.int .i64 m) ∧ w'.cell? ⟨w.heap.size, 4, none⟩ = some (.int .u64 b) ∧ w.heap.size < w'.heap.size ∧ Below w.heap.size w w' ∧ Pl w' ∧ w'.cell? ⟨0, 0, none⟩ = some (.int .i64 0) ∧ w'.cell? ⟨0, 1, none⟩ = some (.int .i64 3) ∧ w'.cell? ⟨1, 0, none⟩ = some (.int .i64 3) ∧ w'.cell? ⟨1, 1, none⟩ = some (.int .i64 2) ∧ w'.cell? ⟨2, 0, none⟩ = some (.int .i64 5) ∧ w'.cell? ⟨2, 1, none⟩ = some (.int .i64 6))
  (((try go_split_ands); refine ⟨?_, ?_, ?_, ?_, ?_, ?_, ?_, ?_, ?_, ?_, ?_, ?_, ?_, ?_⟩ <;> first | assumption | (exact hp1) | (rw [hb.cell (by assumption)]; assumption) | (rw [hb.cell (Nat.lt_trans z0 (by assumption))]; assumption) | (rw [hb.cell (Nat.lt_trans z1 (by assumption))]; assumption) | (rw [hb.cell (Nat.lt_trans z2 (by assumption))]; assumption) | (exact Pl.keep (by assumption) hb) | (have := hb.size; omega) | (exact Below.trans (by assumption) (hb.mono (Nat.le_of_lt (by assumption)))) | (go_keep; done) | (go_grown; done)))
  ((first | (go_at_call 172; (with_reducible refine (of_kind k _ k0 k1).mono ?_); rintro e w8 ⟨rfl, hb⟩) | (go_at_call 172; (with_reducible refine (of_class c _ c0 c1).mono ?_); rintro e w8 ⟨rfl, hb⟩) | (go_at_call 172; (with_reducible refine (of_lane l _ l0 l1).mono ?_); rintro e w8 ⟨rfl, hb⟩)))
 go_wp2_with fail
 go_split_ands
 clear hp1 p00 p01 p10 p11 p20 p21 p30 p31 p40 p41
 have hp2 := ‹Pl _›
 obtain ⟨_, _, _, ⟨p30, p31⟩, ⟨p40, p41⟩⟩ := id hp2
 go_region_held3 (fun w' => w'.cell? ⟨w.heap.size, 3, none⟩ = some (.int .i64 m) ∧ w'.cell? ⟨w.heap.size, 4, none⟩ = some (.int .u64 b) ∧ w.heap.size < w'.heap.size ∧ Below w.heap.size w w' ∧ w'.cell? ⟨3, 0, none⟩ = some (.int .i64 11) ∧ w'.cell? ⟨3, 1, none⟩ = some (.int .i64 13) ∧ w'.cell? ⟨4, 0, none⟩ = some (.int .i64 24) ∧ w'.cell? ⟨4, 1, none⟩ = some (.int .i64 8))
  (((try go_split_ands); refine ⟨?_, ?_, ?_, ?_, ?_, ?_, ?_, ?_⟩ <;> first | assumption | (rw [hb.cell (by assumption)]; assumption) | (rw [hb.cell (Nat.lt_trans z3 (by assumption))]; assumption) | (rw [hb.cell (Nat.lt_trans z4 (by assumption))]; assumption) | (have := hb.size; omega) | (exact Below.trans (by assumption) (hb.mono (Nat.le_of_lt (by assumption)))) | (go_keep; done) | (go_grown; done)))
  ((first | (go_at_call 172; (with_reducible refine (of_many m _ m0 m1).mono ?_); rintro e w8 ⟨rfl, hb⟩) | (go_at_call 172; (with_reducible refine (of_bits b _ b0 b1).mono ?_); rintro e w8 ⟨rfl, hb⟩)))
 go_wp2_with fail
 go_ret
 go_split_ands
 exact ⟨ret_i (by first | rfl | (unfold wordI; omega)), by assumption⟩
end Go.Proofs.YtkkbngcgphlikaaGreatDoor
end
section
set_option maxRecDepth 100000
namespace Go.Proofs.YtkkbngcgphlikaaGreatDoor
open Go.Lib Go.Shelf Go.RowKit
def nV (a t n : Int) : Value := .agg #[.int .i64 a, .int .i64 t, .int .u64 n]
end Go.Proofs.YtkkbngcgphlikaaGreatDoor
end
section
namespace Go.Proofs.YtkkbngcgphlikaaGreatDoor
open Go.RowKit
def romJ (s : Int) : Int := if s < 0 then 0 else if s ≤ 2 then 4 else if s ≤ 6 then 8 else if s ≤ 14 then 16 else if s ≤ 4096 then (s + 33) / 32 * 32 else 0
end Go.Proofs.YtkkbngcgphlikaaGreatDoor
end
section
namespace Go.Proofs.YtkkbngcgphlikaaGreatDoor
open Go.RowKit Go.ChangeShapes
theorem pair_of_head {P : Program} {W : World} {name : String} {x y : Int} {rest : List (String × DataW Unit)} {g : Nat} {t : TypeId} {f0 f1 : Field}
 (hg : P.globalNamed name = some g) (hty : (P.globals[g]?).map (·.type) = some t) (hs : P.underlying t = some (.struct #[f0, f1])) (o0 : f0.offset = 0) (o1 : f1.offset = 1)
 (e0 : P.underlying f0.type = some (.int .i64)) (e1 : P.underlying f1.type = some (.int .i64)) (c0 : P.cellsOf f0.type = 1) (c1 : P.cellsOf f1.type = 1)
 (h : laidMet P ((name, .agg [.lit (.int .i64 x), .lit (.int .i64 y)]) :: rest) W) : CC W g x y := by
 obtain ⟨ps, ⟨g', t', cs, fuel, p, q, hg', ht', hvar, hd, _, _⟩, _⟩ := h
 obtain rfl := Option.some.inj (hg.symm.trans hg')
 obtain rfl := Option.some.inj (hty.symm.trans ht')
 obtain ⟨y0, y1, n, hx, hl, h0, h1⟩ := trod_struct2 hs hd
 rw [o0, c0] at h0
 rw [o1, c1] at h1
 obtain ⟨n0, hc0, hy0, _⟩ := DataW.trod_int e0 h0
 obtain ⟨n1, hc1, hy1, _⟩ := DataW.trod_int e1 h1
 rw [hy0, hy1] at hx
 simp only [Prod.mk.injEq, DataW.agg.injEq, List.cons.injEq, DataW.lit.injEq, Lit.int.injEq, true_and, and_true] at hx
 obtain ⟨⟨rfl, rfl⟩, _⟩ := hx
 have a0 : cs[0]? = some (.int .i64 x) := by
  have := congrArg (·[0]?) hc0
  simpa [List.getElem?_take, List.getElem?_drop] using this
 have a1 : cs[1]? = some (.int .i64 y) := by
  have := congrArg (·[0]?) hc1
  simpa [List.getElem?_take, List.getElem?_drop] using this
 exact ⟨(World.var?_cell hg hvar 0).trans a0, (World.var?_cell hg hvar 1).trans a1⟩
end Go.Proofs.YtkkbngcgphlikaaGreatDoor
end
