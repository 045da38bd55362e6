/-
  Part of the proof of MendTouches.
-/
import Derived.Test.YtkdhdibjbabgfaaGreatDoorVt2
import Derived.Test.YtkdhdibjbabgfaaGreatDoorVt3
import Derived.Test.YtkdhdibjbabgfaaGreatDoorVt4
import Derived.ArgAppend
import Derived.Lib.AppendZerosOnto
import Derived.Test.YtkdhdibjbabgfaaGreatDoorVt0
set_option maxRecDepth 10000
set_option maxHeartbeats 1000000
set_option linter.unusedVariables false
set_option linter.unusedSimpArgs false
section
namespace Go.Proofs.YtkdhdibjbabgfaaGreatDoor
open Go.RowKit
theorem own_ge {w : World} {base e n : Nat} {v : Value} {xs : List Value} (h : w.ownsRow base e 1 v n xs) : ∀ k, v.ownBlock = some k → base ≤ k := by
 intro k hk
 rcases h.2 with ⟨hv, _⟩ | ⟨g, cap, cur, hv, hb, hg, _⟩
 ·subst hv; simp [Value.ownBlock] at hk
 ·subst hv; simp [Value.ownBlock] at hk; omega
theorem wv_succ (l : List Nat) (x : Nat) : wv (l ++ [x]) = wv l ++ [.int .u64 (x : Int)] := by simp [wv]
theorem SL.of_owns {w : World} {base e : Nat} {v : Value} {l : List Nat} (h : w.ownsRow base e 1 v l.length (wv l)) : SL w v l := by
 have h' := h
 rcases h.2 with ⟨hv, hn⟩ | ⟨g, cap, cur, hv, hb, hg, h1, h2, h3, h4⟩
 ·exact .inl ⟨List.length_eq_zero_iff.1 hn, none, 0, by rw [hv]⟩
 ·subst hv
  refine .inr ⟨g, 0, cap, rfl, (Array.getElem?_eq_some_iff.1 hg).1, h1, fun i hi => ?_⟩
  rw [Nat.zero_add, h'.cellAt i (by omega), wv_at l i hi]
end Go.Proofs.YtkdhdibjbabgfaaGreatDoor
end
section
namespace Go.Proofs.YtkdhdibjbabgfaaGreatDoor
open Go.RowKit
theorem append_sum {w5 : World} {base gx n cx gb m : Nat} {xs : List Nat} (hown : w5.ownsRow base 25 1 (.slice (some ⟨gx, 0, none⟩) n cx) n (wv xs)) (hn : xs.length = n) (hcell : w5.cell? ⟨gb, 0, none⟩ = some (.int .u64 (m : Nat))) (hbase : base ≤ w5.heap.size) (hsm : n ≤ 40) (hpos : 0 < n) :
 ∃ v3 w6, (Builtin.append_ #[23, 23] 23 #[.slice (some ⟨gx, 0, none⟩) n cx, .slice (some ⟨gb, 0, none⟩) 1 1]).run Tryz.prog w5 = .ok v3 w6 ∧ SL w6 v3 (xs ++ [m]) ∧ SL w6 (.slice (some ⟨gx, 0, none⟩) n cx) xs ∧ Below base w5 w6 := by
 obtain ⟨i0, hi, hz0, hz1, hz2⟩ := info_parts infoU64
 have hnews : ∀ j u, [Value.int .u64 (m : Int)][j]? = some u → w5.cell? ((⟨gb, 0, none⟩ : Addr).add j) = some u := fun j u hj => by
  have h0 : j = 0 := by
   have := (List.getElem?_eq_some_iff.1 hj).1
   simp at this
   omega
  subst h0
  simp only [List.getElem?_cons_zero] at hj
  rw [← hj]
  simpa [Addr.add] using hcell
 have h1 : ∀ u ∈ [Value.int .u64 (m : Int)], u.oneCell' = true := fun u hu => by simp at hu; subst hu; rfl
 have hlx : (xs ++ [m]).length = n + 1 := by simp [hn]
 have hge := own_ge hown gx rfl
 by_cases hroom : n + 1 ≤ cx
 ·obtain ⟨w6, hrun, ho6, hg6⟩ := run_append_fits (P := Tryz.prog) w5 base 23 23 25 i0 1 Tryz.underlying23 hi hz1 gx n cx (wv xs) hown ⟨gb, 0, none⟩ 1 1 [.int .u64 (m : Int)] rfl hnews h1 hroom
  rw [← wv_succ, ← hlx] at ho6
  have hS := SL.of_owns ho6
  refine ⟨_, w6, hrun, by rw [← hlx]; exact hS, ?_, (Below.refl _ _).grown hg6 hbase (fun k hk => by simp at hk; omega)⟩
  obtain ⟨g3, o3, c3, hv3, hg3, hc3, hcells⟩ := hS.pos hlx
  rw [hlx] at hv3
  simp only [Value.slice.injEq, Option.some.injEq, Addr.mk.injEq, and_true, true_and] at hv3
  obtain ⟨⟨rfl, rfl⟩, rfl⟩ := hv3
  refine .inr ⟨gx, 0, cx, by rw [hn], hg3, by omega, fun i hi => ?_⟩
  have := hcells i (by omega)
  rw [this, List.getD_eq_getElem?_getD, List.getD_eq_getElem?_getD, List.getElem?_append_left hi]
 ·have hold := hown.cells (g := gx) rfl
  obtain ⟨v3, w6, hrun, ho6, hg6⟩ := run_append_arg_grows (P := Tryz.prog) w5 23 23 25 i0 (.int .u64 0) 1 8 Tryz.underlying23 hi hz0 hz1 hz2 rfl (by decide) ⟨gx, 0, none⟩ n cx (wv xs) (by rw [wv_len]; omega) hold ⟨gb, 0, none⟩ 1 1 [.int .u64 (m : Int)] rfl hnews (by omega) (by unfold maxLen; omega) (by omega)
  rw [← wv_succ, ← hlx] at ho6
  have hB6 : Below w5.heap.size w5 w6 := (Below.refl _ _).grown hg6 (Nat.le_refl _) (by simp)
  have hX : SL w5 (.slice (some ⟨gx, 0, none⟩) xs.length cx) xs := SL.of_owns (by rw [hn]; exact hown)
  rw [hn] at hX
  exact ⟨v3, w6, hrun, SL.of_owns ho6, hX.keep hB6, hB6.mono hbase⟩
end Go.Proofs.YtkdhdibjbabgfaaGreatDoor
end
section
namespace Go.Proofs.YtkdhdibjbabgfaaGreatDoor
open Go.RowKit
def Rw (w : World) (g : Nat) (l : List Nat) : Prop := w.heap[g]? = some (.cells (wv l).toArray 25 (0, 0))
theorem Rw.keep {w w1 : World} {g B : Nat} {l : List Nat} (h : Rw w g l) (hb : Below B w w1) (hg : g < B) : Rw w1 g l := (hb.block g hg).trans h
theorem Rw.lt {w : World} {g : Nat} {l : List Nat} (h : Rw w g l) : g < w.heap.size := (Array.getElem?_eq_some_iff.1 h).1
theorem Rw.sl {w : World} {g : Nat} {l : List Nat} (h : Rw w g l) : SL w (.slice (some ⟨g, 0, none⟩) l.length l.length) l :=
 .inr ⟨g, 0, _, rfl, h.lt, Nat.le_refl _, fun i hi => by
  rw [(row_cell h _).1, Nat.zero_add, List.getElem?_toArray, wv_at l i hi]⟩
theorem Rw.own {w : World} {g : Nat} {l : List Nat} (h : Rw w g l) (hl : l.length ≤ 100000) : w.ownsRow g 25 1 (.slice (some ⟨g, 0, none⟩) l.length l.length) l.length (wv l) :=
 ⟨by rw [wv_len, Nat.mul_one], .inr ⟨g, _, _, rfl, Nat.le_refl _, h, Nat.le_refl _, by unfold maxLen; omega, by simp [wv_len], by simp [wv_len, List.take_of_length_le]⟩⟩
theorem wv_append (a b : List Nat) : wv (a ++ b) = wv a ++ wv b := by simp [wv]
theorem seal_own (v : Value) (l : List Nat) (w : World) (hl : WL l) (hlen : l.length ≤ 900) (hv : SL w v l) :
 Calls Tryz.prog 108 #[v] w fun e w' => e = .returned (.slice (some ⟨w.heap.size, 0, none⟩) (l.length + 1) (l.length + 1)) ∧ Rw w' w.heap.size (l ++ [moreN 0 l]) ∧ Below w.heap.size w w' := by
 obtain ⟨i0, hi, hz0, hz1, hz2⟩ := info_parts infoU64
 have hvv := hv
 have hv1 : ∃ sp cap, v = .slice sp l.length cap := by
  rcases hv with ⟨rfl, sp, cap, rfl⟩ | ⟨g, off, cap, rfl, _⟩
  ·exact ⟨_, _, rfl⟩
  ·exact ⟨_, _, rfl⟩
 obtain ⟨sp, cap, rfl⟩ := hv1
 have hn1 := lh (show ((l.length : Int) + 1) = ((l.length + 1 : Nat) : Int) by omega)
 go_enter Tryz.func108, Tryz.ntmps108
 go_wp2_with (at_make; refine wpList_make_full _ rfl _ _ 23 rfl w.heap.size 25 i0 (.int .u64 0) 1 Tryz.underlying23 hi hz0 hz1 .i64 .i64 _ _ (l.length + 1) rfl rfl hn1.out hn1.out (by rw [hz2]; omega) (by unfold maxLen; omega) (Nat.le_refl _) ?_; intro w1 hown hgr)
 have hrow := row_of_owns hown rfl
 rw [show (madeCells (Value.int IntKind.u64 0).cells ((l.length + 1) * 1)).toList = List.replicate (l.length + 1) (Value.int .u64 0) by
  rw [Nat.mul_one]; exact toList_madeCells_one _ _] at hrow
 have hB1 : Below w.heap.size w w1 := (Below.refl _ _).grown hgr (Nat.le_refl _) (by simp)
 obtain ⟨w2, hrun, hrow2, hb2⟩ := copyW l hrow (hvv.keep hB1)
 rw [show Nat.min l.length (l.length + 1) = l.length from Nat.min_eq_left (by omega), List.take_of_length_le (Nat.le_refl _), show l.length + 1 - l.length = 1 by omega] at hrow2
 rw [hrun]
 have hB2 : Below w.heap.size w w2 := hB1.trans hb2
 have hg2 : w.heap.size < w2.heap.size := (Array.getElem?_eq_some_iff.1 hrow2).1
 have hO := lh (of_any _ l w2 hl (by omega) (hvv.keep hB2))
 have hS2 := lh (hvv.keep hB2)
 have hR := lh (row_cell hrow2)
 replace hrow2 := lh hrow2
 clear hrun hrow hown hgr hvv hb2 hB1
 go_wp2_with fail
 refine hO.out.mono ?_
 rintro e w3 ⟨rfl, hb3⟩
 have hB3 : Below w.heap.size w w3 := hB2.trans (hb3.mono hB2.size)
 have hc3 : w3.cell? ⟨w.heap.size, l.length, none⟩ = some (.int .u64 0) := by
  rw [(bcell hb3).1 _ _ hg2, (hR.out l.length).1]
  simp [wv]
 have hf3 : w3.frozen? ⟨w.heap.size, l.length, none⟩ = false := by rw [(bcell hb3).2 _ _ hg2]; exact (hR.out l.length).2
 have hrow3 := lh ((hb3.block w.heap.size hg2).trans hrow2.out)
 have hm := moreN_lt 0 l
 generalize hmm : moreN 0 l = m at *
 replace hmm := lh hmm
 go_wp2_with fail
 go_ret
 refine ⟨rfl, ?_, hB3.setCell (Nat.le_refl _) _⟩
 unfold Rw
 rw [heap_setCell_same w3 _ _ _ _ _ hrow3.out, wv_append]
 congr 3
 apply Array.ext'
 simp only [Array.toList_setIfInBounds, List.replicate_one]
 rw [show l.length = (wv l).length by rw [wv_len], hmm.out]
 simp [wv]
end Go.Proofs.YtkdhdibjbabgfaaGreatDoor
end
section
namespace Go.Proofs.YtkdhdibjbabgfaaGreatDoor
open Go.RowKit Go.ChangeShapes Go.WideShapes Go.Deep
abbrev Ox := Int × Int × Nat
def opE (o : Ox) : List Value := [.int .i64 o.1, .int .i64 o.2.1, .int .u64 (o.2.2 : Nat)]
def opV (o : Ox) : Value := .agg #[.int .i64 o.1, .int .i64 o.2.1, .int .u64 (o.2.2 : Nat)]
theorem opE_len (o : Ox) : (opE o).length = 3 := rfl
theorem infoOp : (Tryz.prog.info? 53).map (fun i => (i.zero, i.size, i.bytes)) = some (some (.agg #[.int .i64 0, .int .i64 0, .int .u64 0]), 3, 24) := by kernel_rfl
theorem opT : ElT Tryz.prog 35 53 3 24 opE :=
 ⟨Tryz.underlying35, by obtain ⟨i0, h1, h2, h3, h4⟩ := info_parts infoOp; exact ⟨i0, _, h1, h2, h3, h4, rfl⟩, opE_len, fun x u hu => by simp only [opE, List.mem_cons, List.not_mem_nil, or_false] at hu; rcases hu with rfl | rfl | rfl <;> rfl, by decide, by decide⟩
def OPL (w : World) (v : Value) (l : List Ox) : Prop := EL 3 opE w v l
theorem OPL.keep {w w1 : World} {v : Value} {l : List Ox} (h : OPL w v l) (hb : Below w.heap.size w w1) : OPL w1 v l := EL.keep h hb
theorem OPL.form {w : World} {v : Value} {l : List Ox} {n : Nat} (h : OPL w v l) (hn : l.length = n) : ∃ A cap, v = .slice A n cap ∧
 ∀ w1 i, Below w.heap.size w w1 → i < n → ∃ g off, A = some ⟨g, off, none⟩ ∧ n ≤ cap ∧ g < w.heap.size ∧ g < w1.heap.size ∧ w1.cell? ⟨g, off + i * 3, none⟩ = some (.int .i64 (l.getD i default).1) ∧ w1.cell? ⟨g, off + i * 3 + 1, none⟩ = some (.int .i64 (l.getD i default).2.1) ∧ w1.cell? ⟨g, off + i * 3 + 2, none⟩ = some (.int .u64 ((l.getD i default).2.2 : Nat)) := by
 obtain ⟨A, cap, hv, h⟩ := EL.form h hn
 refine ⟨A, cap, hv, fun w1 i hb hi => ?_⟩
 obtain ⟨g, off, hA, h1, h2, h3, hc⟩ := h w1 i hb hi
 exact ⟨g, off, hA, h1, h2, h3, hc 0 (by omega), hc 1 (by omega), hc 2 (by omega)⟩
def C3 (w : World) (b : Nat) (x y z : Value) : Prop := w.cell? ⟨b, 0, none⟩ = some x ∧ w.cell? ⟨b, 1, none⟩ = some y ∧ w.cell? ⟨b, 2, none⟩ = some z
theorem C3.lt {w : World} {b : Nat} {x y z : Value} (h : C3 w b x y z) : b < w.heap.size := World.block_lt_of_cell? w _ h.1
theorem C3.keep {W w1 : World} {b : Nat} {x y z : Value} (h : C3 W b x y z) (hb : Below W.heap.size W w1) : C3 w1 b x y z :=
 ⟨by rw [(bcell hb).1 _ _ h.lt]; exact h.1, by rw [(bcell hb).1 _ _ h.lt]; exact h.2.1, by rw [(bcell hb).1 _ _ h.lt]; exact h.2.2⟩
theorem C3.new (w : World) (x y z : Value) (t : TypeId) : C3 (w.alloc (.cells #[x, y, z] t)) w.heap.size x y z := by
 refine ⟨?_, ?_, ?_⟩ <;> simp [go_sem]
theorem C3.alloc {W : World} {b : Nat} {x y z : Value} (h : C3 W b x y z) (o : Obj) : C3 (W.alloc o) b x y z := h.keep (bZ _ _)
def wrongB (o : Ox) : Bool := decide (o.1 < 0) || decide (2 < o.1) || decide (o.2.1 < 0) || decide (65536 ≤ o.2.1)
theorem wrongB_f {o : Ox} (h : wrongB o = false) : 0 ≤ o.1 ∧ o.1 ≤ 2 ∧ 0 ≤ o.2.1 ∧ o.2.1 < 65536 := by
 simp only [wrongB, Bool.or_eq_false_iff, decide_eq_false_iff_not] at h; omega
theorem wrong_any (o : Ox) (w : World) : Calls Tryz.prog 128 #[opV o] w fun e w' => e = .returned (.bool (wrongB o)) ∧ Below w.heap.size w w' := by
 obtain ⟨k, a, v⟩ := o
 unfold opV
 simp only []
 have fin : ∀ b : Bool, b = wrongB (k, a, v) → ∀ w1, Below w.heap.size w w1 → Ending.returned (.bool b) = .returned (.bool (wrongB (k, a, v))) ∧ Below w.heap.size w w1 := fun b h w1 hb => ⟨by rw [h], hb⟩
 replace fin := lh fin
 have hB : Below w.heap.size w (w.alloc (.cells #[.int .i64 k, .int .i64 a, .int .u64 (v : Nat)] (53 : Nat))) := bZ _ _
 obtain ⟨c0, c1, c2⟩ := C3.new w (.int .i64 k) (.int .i64 a) (.int .u64 (v : Nat)) (53 : Nat)
 by_cases h1 : k < 0
 ·have e := lh (show true = wrongB (k, a, v) from by simp [wrongB, h1])
  go_enter Tryz.func128, Tryz.ntmps128
  go_wp2_with fail
  go_ret
  first | exact fin.out _ e.out _ hB | exact fin.out _ (by rw [← e.out]; simp; omega) _ hB
 by_cases h2 : 2 < k
 ·have e := lh (show true = wrongB (k, a, v) from by simp [wrongB, h2])
  go_enter Tryz.func128, Tryz.ntmps128
  go_wp2_with fail
  go_ret
  first | exact fin.out _ e.out _ hB | exact fin.out _ (by rw [← e.out]; simp; omega) _ hB
 by_cases h3 : a < 0
 ·have e := lh (show true = wrongB (k, a, v) from by simp [wrongB, h3])
  go_enter Tryz.func128, Tryz.ntmps128
  go_wp2_with fail
  go_ret
  first | exact fin.out _ e.out _ hB | exact fin.out _ (by rw [← e.out]; simp; omega) _ hB
 by_cases h4 : 65536 ≤ a
 ·have e := lh (show true = wrongB (k, a, v) from by simp [wrongB, h4])
  go_enter Tryz.func128, Tryz.ntmps128
  go_wp2_with fail
  go_ret
  first | exact fin.out _ e.out _ hB | exact fin.out _ (by rw [← e.out]; simp; omega) _ hB
 ·have e := lh (show false = wrongB (k, a, v) from by simp [wrongB]; omega)
  go_enter Tryz.func128, Tryz.ntmps128
  go_wp2_with fail
  go_ret
  first | exact fin.out _ e.out _ hB | exact fin.out _ (by rw [← e.out]; simp; omega) _ hB
theorem can_any_rd (o : Ox) (w : World) : Calls Tryz.prog 62 #[opV o] w fun e w' => e = .returned (.bool (!wrongB o)) ∧ Below w.heap.size w w' := by
 obtain ⟨k, a, v⟩ := o
 unfold opV
 simp only []
 have fin : ∀ b : Bool, b = !wrongB (k, a, v) → ∀ w1, Below w.heap.size w w1 → Ending.returned (.bool b) = .returned (.bool (!wrongB (k, a, v))) ∧ Below w.heap.size w w1 := fun b h w1 hb => ⟨by rw [h], hb⟩
 replace fin := lh fin
 have hB : Below w.heap.size w (w.alloc (.cells #[.int .i64 k, .int .i64 a, .int .u64 (v : Nat)] (53 : Nat))) := bZ _ _
 obtain ⟨c0, c1, c2⟩ := C3.new w (.int .i64 k) (.int .i64 a) (.int .u64 (v : Nat)) (53 : Nat)
 by_cases h1 : k < 0
 ·have e := lh (show false = !wrongB (k, a, v) from by simp [wrongB, h1])
  have h1' : ¬ (0 ≤ k) := by omega
  go_enter Tryz.func62, Tryz.ntmps62
  go_wp2_with fail
  go_ret
  first | exact fin.out _ e.out _ hB | exact fin.out _ (by rw [← e.out]; simp; omega) _ hB
 by_cases h2 : 2 < k
 ·have e := lh (show false = !wrongB (k, a, v) from by simp [wrongB, h2])
  have h1' : 0 ≤ k := by omega
  go_enter Tryz.func62, Tryz.ntmps62
  go_wp2_with fail
  go_ret
  first | exact fin.out _ e.out _ hB | exact fin.out _ (by rw [← e.out]; simp; omega) _ hB
 by_cases h3 : a < 0
 ·have e := lh (show false = !wrongB (k, a, v) from by simp [wrongB, h3])
  have h1' : 0 ≤ k := by omega
  have h2' : k ≤ 2 := by omega
  have h3' : ¬ (0 ≤ a) := by omega
  go_enter Tryz.func62, Tryz.ntmps62
  go_wp2_with fail
  go_ret
  first | exact fin.out _ e.out _ hB | exact fin.out _ (by rw [← e.out]; simp; omega) _ hB
 by_cases h4 : 65536 ≤ a
 ·have e := lh (show false = !wrongB (k, a, v) from by simp [wrongB, h4])
  have h1' : 0 ≤ k := by omega
  have h2' : k ≤ 2 := by omega
  have h3' : 0 ≤ a := by omega
  have h4' : 65535 < a := by omega
  go_enter Tryz.func62, Tryz.ntmps62
  go_wp2_with fail
  go_ret
  first | exact fin.out _ e.out _ hB | exact fin.out _ (by rw [← e.out]; simp; omega) _ hB
 ·have e := lh (show true = !wrongB (k, a, v) from by simp [wrongB]; omega)
  have h1' : 0 ≤ k := by omega
  have h2' : k ≤ 2 := by omega
  have h3' : 0 ≤ a := by omega
  have h4' : a ≤ 65535 := by omega
  go_enter Tryz.func62, Tryz.ntmps62
  go_wp2_with fail
  go_ret
  first | exact fin.out _ e.out _ hB | exact fin.out _ (by rw [← e.out]; simp; omega) _ hB
def wordOp (o : Ox) : Int := 4 * o.2.1 + o.1
theorem put_k (k : Int) (w : World) (h0 : 0 ≤ k) (h1 : k ≤ 2) :
 Calls Tryz.prog 113 #[.int .u64 0, .int .i64 0, .int .i64 2, .int .u64 k] w fun e w' => e = .returned (.int .u64 k) ∧ w = w' := by
 refine (put_yes 0 0 2 k w (by omega) (by omega) (by omega) (by omega) (by omega) (by omega) h0 (by omega)).mono ?_
 rintro e w' ⟨rfl, rfl⟩
 refine ⟨?_, rfl⟩
 obtain ⟨V, rfl⟩ := Int.eq_ofNat_of_zero_le h0
 have e : V % 4 = V := Nat.mod_eq_of_lt (by omega)
 simp [putI, putN, e]
theorem put_a (k a : Int) (w : World) (h0 : 0 ≤ k) (h1 : k ≤ 2) (h2 : 0 ≤ a) (h3 : a < 65536) :
 Calls Tryz.prog 113 #[.int .u64 k, .int .i64 2, .int .i64 20, .int .u64 a] w fun e w' => e = .returned (.int .u64 (4 * a + k)) ∧ w = w' := by
 refine (put_yes k 2 20 a w (by omega) (by omega) (by omega) (by omega) (by omega) (by omega) h2 (by omega)).mono ?_
 rintro e w' ⟨rfl, rfl⟩
 refine ⟨?_, rfl⟩
 obtain ⟨V, rfl⟩ := Int.eq_ofNat_of_zero_le h2
 obtain ⟨K, rfl⟩ := Int.eq_ofNat_of_zero_le h0
 have e : V % 1048576 = V := Nat.mod_eq_of_lt (by omega)
 have e2 : K % 4 = K := Nat.mod_eq_of_lt (by omega)
 have e3 : K / 4194304 = 0 := by omega
 simp [putI, putN, e, e2, e3]
 omega
theorem first_any_rd (o : Ox) (w : World) (h : wrongB o = false) : Calls Tryz.prog 129 #[opV o] w fun e w' => e = .returned (.int .u64 (wordOp o)) ∧ Below w.heap.size w w' := by
 obtain ⟨k, a, v⟩ := o
 obtain ⟨h1, h2, h3, h4⟩ := wrongB_f h
 unfold opV wordOp
 simp only [] at *
 clear h
 have hB : Below w.heap.size w (w.alloc (.cells #[.int .i64 k, .int .i64 a, .int .u64 (v : Nat)] (53 : Nat))) := bZ _ _
 obtain ⟨c0, c1, c2⟩ := C3.new w (.int .i64 k) (.int .i64 a) (.int .u64 (v : Nat)) (53 : Nat)
 have hBd := hB.drew
 have fk : IntKind.u64.wrap k = k := by rw [IntKind.wrap_u64]; omega
 have fa : IntKind.u64.wrap a = a := by rw [IntKind.wrap_u64]; omega
 have hP1 := lh (fun w => put_k k w h1 h2)
 have hP2 := lh (fun w => put_a k a w h1 h2 h3 h4)
 go_enter Tryz.func129, Tryz.ntmps129
 go_wp2_with fail
 go_region_held3 (fun w' => w'.cell? ⟨w.heap.size, 0, none⟩ = some (.int .i64 k) ∧ w'.cell? ⟨w.heap.size, 1, none⟩ = some (.int .i64 a) ∧ Below w.heap.size w w')
  (((try go_split_ands); refine ⟨?_, ?_, ?_⟩ <;> first | assumption))
  (((try go_split_ands); first | ((with_reducible refine (hP1.out _).mono ?_); rintro e w8 ⟨rfl, rfl⟩) | ((with_reducible refine (hP2.out _).mono ?_); rintro e w8 ⟨rfl, rfl⟩)))
 go_split_ands
 go_wp2_with fail
 go_ret
 exact ⟨rfl, by assumption⟩
end Go.Proofs.YtkdhdibjbabgfaaGreatDoor
end
section
namespace Go.Proofs.YtkdhdibjbabgfaaGreatDoor
open Go.Lib Go.RowKit Go.ChangeShapes Go.WideShapes Go.Deep
structure Chg (S : Nat → Prop) (w w' : World) : Prop where
 os : w'.os = w.os
 tape : w'.tape = w.tape
 output : w'.output = w.output
 size : w.heap.size ≤ w'.heap.size
 block : ∀ k, k < w.heap.size → ¬ S k → w'.heap[k]? = w.heap[k]?
theorem Chg.refl (S : Nat → Prop) (w : World) : Chg S w w := ⟨rfl, rfl, rfl, Nat.le_refl _, fun _ _ _ => rfl⟩
theorem Chg.trans {S S2 : Nat → Prop} {a b c : World} (h : Chg S a b) (k : Chg S2 b c) (hs : ∀ j, S2 j → S j ∨ a.heap.size ≤ j) : Chg S a c :=
 ⟨k.os.trans h.os, k.tape.trans h.tape, k.output.trans h.output, Nat.le_trans h.size k.size, fun j hj hn => (k.block j (Nat.lt_of_lt_of_le hj h.size) (fun q => by rcases hs j q with q | q; exact hn q; omega)).trans (h.block j hj hn)⟩
theorem Chg.of_below (S : Nat → Prop) {w w' : World} (h : Below w.heap.size w w') : Chg S w w' := ⟨h.os, h.tape, h.output, h.size, fun k hk _ => h.block k hk⟩
theorem Chg.of_grown {S : Nat → Prop} {w w' : World} {row : Option Nat} (h : w.grownBy w' row) (hr : ∀ k, row = some k → S k ∨ w.heap.size ≤ k) : Chg S w w' :=
 ⟨h.os, h.tape, h.output, h.size, fun k hk hn => h.block k hk (fun e => by rcases hr k e.symm with q | q; exact hn q; omega)⟩
theorem size_setCell (w : World) (a : Addr) (v : Value) : (w.setCell a v).heap.size = w.heap.size := by simp [World.setCell]
theorem Chg.setCell {S : Nat → Prop} (w : World) (b o : Nat) (v : Value) (h : S b) : Chg S w (w.setCell ⟨b, o, none⟩ v) :=
 ⟨rfl, rfl, rfl, by rw [size_setCell]; exact Nat.le_refl _, fun k hk hn => Below.heap_setCell _ _ _ _ (fun e => hn (by simp only [] at e; rw [e]; exact h))⟩
theorem Chg.below {S : Nat → Prop} {w w' : World} {N : Nat} (h : Chg S w w') (hN : ∀ k, S k → N ≤ k) (hN2 : N ≤ w.heap.size) : Below N w w' :=
 ⟨h.os, h.tape, h.output, h.size, fun k hk => h.block k (by omega) (fun q => by have := hN k q; omega)⟩
theorem OwnE.chg {α : Type} {e : TypeId} {sz : Nat} {en : α → List Value} {S : Nat → Prop} {w w1 : World} {base : Nat} {v : Value} {l : List α} (h : OwnE e sz en w base v l) (hc : Chg S w w1) (hn : ∀ k, v.ownBlock = some k → ¬ S k) : OwnE e sz en w1 base v l := by
 refine ⟨h.1, ?_⟩
 rcases h.2 with h2 | ⟨g, cap, cur, hv, hbg, hg, h1, h2, h3, h4⟩
 ·exact .inl h2
 ·exact .inr ⟨g, cap, cur, hv, hbg, by rw [hc.block g (Array.getElem?_eq_some_iff.1 hg).1 (hn g (by rw [hv]; rfl))]; exact hg, h1, h2, h3, h4⟩
theorem OwnU.chg {F : Nat → Prop} {w w1 : World} {base : Nat} {v : Value} {l : List Nat} (h : OwnU w base v l) (hc : Chg F w w1) (hn : ∀ k, v.ownBlock = some k → ¬ F k) : OwnU w1 base v l := by
 refine ⟨h.1, ?_⟩
 rcases h.2 with h2 | ⟨g, cap, cur, hv, hbg, hg, h1, h2, h3, h4⟩
 ·exact .inl h2
 ·exact .inr ⟨g, cap, cur, hv, hbg, by rw [hc.block g (Array.getElem?_eq_some_iff.1 hg).1 (hn g (by rw [hv]; rfl))]; exact hg, h1, h2, h3, h4⟩
end Go.Proofs.YtkdhdibjbabgfaaGreatDoor
end
