/-
  Part of the proof of MendAgain.
-/
import Derived.Test.YtkdhdibjbabgfaaGreatDoorVa13
import Derived.Test.YtkdhdibjbabgfaaGreatDoorVa21
import Derived.Test.YtkdhdibjbabgfaaGreatDoorVa4
import Derived.Lib.AppendZerosOnto
import Derived.Laws.EntriesVeiled
section
set_option linter.unusedVariables false
set_option linter.unusedSimpArgs false
namespace Go.Proofs.YtkdhdibjbabgfaaGreatDoor
open Go.RowKit
def Rw (w : World) (g : Nat) (l : List Nat) : Prop := w.heap[g]? = some (.cells (wv l).toArray 25 (0, 0))
theorem Rw.keep {w w1 : World} {g B : Nat} {l : List Nat} (h : Rw w g l) (hb : Below B w w1) (hg : g < B) : Rw w1 g l := (hb.block g hg).trans h
theorem Rw.lt {w : World} {g : Nat} {l : List Nat} (h : Rw w g l) : g < w.heap.size := (Array.getElem?_eq_some_iff.1 h).1
theorem Rw.sl {w : World} {g : Nat} {l : List Nat} (h : Rw w g l) : SL w (.slice (some ⟨g, 0, none⟩) l.length l.length) l :=
 .inr ⟨g, 0, _, rfl, h.lt, Nat.le_refl _, fun i hi => by
  rw [(row_cell h _).1, Nat.zero_add, List.getElem?_toArray, wv_at l i hi]⟩
theorem Rw.own {w : World} {g : Nat} {l : List Nat} (h : Rw w g l) (hl : l.length ≤ 100000) : w.ownsRow g 25 1 (.slice (some ⟨g, 0, none⟩) l.length l.length) l.length (wv l) :=
 ⟨by rw [wv_len, Nat.mul_one], .inr ⟨g, _, _, rfl, Nat.le_refl _, h, Nat.le_refl _, by unfold maxLen; omega, by simp [wv_len], by simp [wv_len, List.take_of_length_le]⟩⟩
theorem wv_append (a b : List Nat) : wv (a ++ b) = wv a ++ wv b := by simp [wv]
set_option maxRecDepth 10000 in
set_option maxHeartbeats 1000000 in
theorem seal_own (v : Value) (l : List Nat) (w : World) (hl : WL l) (hlen : l.length ≤ 900) (hv : SL w v l) :
 Calls Tryz.prog 108 #[v] w fun e w' => e = .returned (.slice (some ⟨w.heap.size, 0, none⟩) (l.length + 1) (l.length + 1)) ∧ Rw w' w.heap.size (l ++ [moreN 0 l]) ∧ Below w.heap.size w w' := by
 obtain ⟨i0, hi, hz0, hz1, hz2⟩ := info_parts infoU64
 have hvv := hv
 have hv1 : ∃ sp cap, v = .slice sp l.length cap := by
  rcases hv with ⟨rfl, sp, cap, rfl⟩ | ⟨g, off, cap, rfl, _⟩
  ·exact ⟨_, _, rfl⟩
  ·exact ⟨_, _, rfl⟩
 obtain ⟨sp, cap, rfl⟩ := hv1
 have hn1 := Lib.hid (show ((l.length : Int) + 1) = ((l.length + 1 : Nat) : Int) by omega)
 go_enter Tryz.func108, Tryz.ntmps108
 go_wp2_with (at_make; refine wpList_make_full _ rfl _ _ 23 rfl w.heap.size 25 i0 (.int .u64 0) 1 Tryz.underlying23 hi hz0 hz1 .i64 .i64 _ _ (l.length + 1) rfl rfl hn1.out hn1.out (by rw [hz2]; omega) (by unfold maxLen; omega) (Nat.le_refl _) ?_; intro w1 hown hgr)
 have hrow := row_of_owns hown rfl
 rw [show (madeCells (Value.int IntKind.u64 0).cells ((l.length + 1) * 1)).toList = List.replicate (l.length + 1) (Value.int .u64 0) by
  rw [Nat.mul_one]; exact toList_madeCells_one _ _] at hrow
 have hB1 : Below w.heap.size w w1 := (Below.refl _ _).grown hgr (Nat.le_refl _) (by simp)
 obtain ⟨w2, hrun, hrow2, hb2⟩ := copyW l hrow (hvv.keep hB1)
 rw [show Nat.min l.length (l.length + 1) = l.length from Nat.min_eq_left (by omega), List.take_of_length_le (Nat.le_refl _), show l.length + 1 - l.length = 1 by omega] at hrow2
 rw [hrun]
 have hB2 : Below w.heap.size w w2 := hB1.trans hb2
 have hg2 : w.heap.size < w2.heap.size := (Array.getElem?_eq_some_iff.1 hrow2).1
 have hO := Lib.hid (of_any _ l w2 hl (by omega) (hvv.keep hB2))
 have hS2 := Lib.hid (hvv.keep hB2)
 have hR := Lib.hid (row_cell hrow2)
 replace hrow2 := Lib.hid hrow2
 clear hrun hrow hown hgr hvv hb2 hB1
 go_wp2_with fail
 refine hO.out.mono ?_
 rintro e w3 ⟨rfl, hb3⟩
 have hB3 : Below w.heap.size w w3 := hB2.trans (hb3.mono hB2.size)
 have hc3 : w3.cell? ⟨w.heap.size, l.length, none⟩ = some (.int .u64 0) := by
  rw [(bcell hb3).1 _ _ hg2, (hR.out l.length).1]
  simp [wv]
 have hf3 : w3.frozen? ⟨w.heap.size, l.length, none⟩ = false := by rw [(bcell hb3).2 _ _ hg2]; exact (hR.out l.length).2
 have hrow3 := Lib.hid ((hb3.block w.heap.size hg2).trans hrow2.out)
 have hm := moreN_lt 0 l
 generalize hmm : moreN 0 l = m at *
 replace hmm := Lib.hid hmm
 go_wp2_with fail
 go_ret
 refine ⟨rfl, ?_, hB3.setCell (Nat.le_refl _) _⟩
 unfold Rw
 rw [heap_setCell_same w3 _ _ _ _ _ hrow3.out, wv_append]
 congr 3
 apply Array.ext'
 simp only [Array.toList_setIfInBounds, List.replicate_one]
 rw [show l.length = (wv l).length by rw [wv_len], hmm.out]
 simp [wv]
end Go.Proofs.YtkdhdibjbabgfaaGreatDoor
end
section
set_option linter.unusedVariables false
set_option linter.unusedSimpArgs false
namespace Go.Proofs.YtkdhdibjbabgfaaGreatDoor
open Go.RowKit Go.ChangeShapes Go.WideShapes Go.Deep
set_option maxRecDepth 10000 in
set_option maxHeartbeats 1000000 in
theorem swapRange_any (F : Value) (x y m lo hi base g n cap : Nat) (d0 : List Nat) (w0 w : World) (S0 : SD w0 base g n cap d0 w) (h1 : lo ≤ x) (h2 : x + m ≤ y) (h3 : y + m ≤ hi) (h4 : hi ≤ n) (hn : n ≤ 100000) :
 Calls Tryz.prog 149 #[.slice (some ⟨g, 0, none⟩) n cap, .int .i64 x, .int .i64 y, .int .i64 m, F] w fun e w' => e = .returned (.tuple #[]) ∧ ∃ d1, SD w0 base g n cap d1 w' ∧ SwR d0 d1 x y m ∧ Mv lo hi d0 d1 := by
 have hl0 := Lib.hid S0.len
 replace S0 := Lib.hid S0
 go_enter Tryz.func149, Tryz.ntmps149
 go_wp2_with fail
 go_loopw [10] (fun i wr => ∃ (k : Nat) (d : List Nat), k ≤ m ∧ i = .int .i64 k ∧ Hid (SD w0 base g n cap d wr) ∧ Hid (SwR d0 d x y k) ∧ Hid (Mv lo hi d0 d)) (fun i _ => m + 1 - (intOf i).toNat)
 case atStart => exact ⟨0, d0, Nat.zero_le _, rfl, S0, SwR.zero _ _ _, Mv.refl _ _ _⟩
 case round =>
  obtain ⟨k, d, hk, rfl, S1, R1, M1⟩ := hrel
  by_cases hlt : k < m
  ·have hltz : (k : Int) < (m : Int) := by omega
   obtain ⟨i, hi'⟩ : ∃ i, x + k = i := ⟨_, rfl⟩
   obtain ⟨j, hj'⟩ : ∃ j, y + k = j := ⟨_, rfl⟩
   have hin : i < n := by omega
   have hjn : j < n := by omega
   have hl1 := Lib.hid S1.out.len
   have R2 := Lib.hid (R1.out.step (by omega) (by rw [hl0.out]; omega))
   rw [hi', hj'] at R2
   have M2 := Lib.hid (M1.out.trans (Mv.swap (d := d) (i := i) (j := j) (by omega) (by omega) (by omega) (by omega) (by rw [hl1.out]; omega)))
   have e1 : (x : Int) + (k : Int) = (i : Int) := by omega
   have e2 : (y : Int) + (k : Int) = (j : Int) := by omega
   have e3 : IntKind.i64.wrap (i : Int) = (i : Int) := by rw [IntKind.wrap_i64]; omega
   have e4 : IntKind.i64.wrap (j : Int) = (j : Int) := by rw [IntKind.wrap_i64]; omega
   have b1 : (i : Int) < (n : Int) := by omega
   have b2 : (j : Int) < (n : Int) := by omega
   obtain ⟨a, ha⟩ : ∃ a, d.getD i 0 = a := ⟨_, rfl⟩
   obtain ⟨c, hc⟩ : ∃ c, d.getD j 0 = c := ⟨_, rfl⟩
   have hS := Lib.hid (S1.out.swap i j a c hin hjn ha hc)
   obtain ⟨c0, f0⟩ := S1.out.cell i hin
   obtain ⟨c1, f1⟩ := S1.out.cell j hjn
   rw [ha] at c0
   rw [hc] at c1
   obtain ⟨u9, c9⟩ := S1.out.other i j c hin hjn
   clear ha hc hi' hj' S1 R1 M1
   go_wp2_with fail
   go_big_region
   (try simp only [Exit.inBlock, Exit.then])
   go_wp2_with fail
   go_roundw
   case rel => exact ⟨k + 1, _, by omega, by go_num, hS, R2, M2⟩
   case measure => first | (simp [intOf]; done) | (simp [intOf]; omega)
  ·obtain rfl : k = m := by omega
   go_wp2_with fail
   go_end0
   exact ⟨rfl, d, S1.out, R1.out, M1.out⟩
set_option maxRecDepth 10000 in
set_option maxHeartbeats 1000000 in
theorem rotate_any (F : Value) (a m b base g n cap : Nat) (d0 : List Nat) (w0 w : World) (S0 : SD w0 base g n cap d0 w) (h1 : a < m) (h2 : m < b) (h4 : b ≤ n) (hn : n ≤ 100000) :
 Calls Tryz.prog 147 #[.slice (some ⟨g, 0, none⟩) n cap, .int .i64 a, .int .i64 m, .int .i64 b, F] w fun e w' => e = .returned (.tuple #[]) ∧ ∃ d1, SD w0 base g n cap d1 w' ∧ (∀ k, d1.getD k 0 = rotF d0 a m b k) ∧ Mv a b d0 d1 := by
 replace S0 := Lib.hid S0
 have e1 : (m : Int) - (a : Int) = ((m - a : Nat) : Int) := by omega
 have e2 : (b : Int) - (m : Int) = ((b - m : Nat) : Int) := by omega
 go_enter Tryz.func147, Tryz.ntmps147
 go_wp2_with fail
 try rw [e1, e2]
 clear e1 e2
 go_loopw [10, 11] (fun u v wr => ∃ (i j : Nat) (d : List Nat), 0 < i ∧ 0 < j ∧ i ≤ m - a ∧ j ≤ b - m ∧ u = .int .i64 i ∧ v = .int .i64 j ∧ Hid (SD w0 base g n cap d wr) ∧ Hid (∀ k, rotF d (m - i) m (m + j) k = rotF d0 a m b k) ∧ Hid (Mv a b d0 d)) (fun u v _ => (intOf u).toNat + (intOf v).toNat)
 case atStart => exact ⟨m - a, b - m, d0, by omega, by omega, Nat.le_refl _, Nat.le_refl _, rfl, rfl, S0, (show ∀ k, _ from by rw [show m - (m - a) = a by omega, show m + (b - m) = b by omega]; exact fun _ => rfl), Mv.refl _ _ _⟩
 case round =>
  obtain ⟨i, j, d, hi0, hj0, hia, hjb, rfl, rfl, S1, R1, M1⟩ := hrel
  have e3 : (m : Int) - (i : Int) = ((m - i : Nat) : Int) := by omega
  have e4 : (m : Int) + (j : Int) - (i : Int) = ((m + j - i : Nat) : Int) := by omega
  rcases Nat.lt_trichotomy i j with q | q | q
  ·have q1 : ((i : Int) != (j : Int)) = true := by rw [bne_iff_ne]; omega
   have q2 : ¬ (i : Int) = (j : Int) := by omega
   have q3 : ¬ ((i : Int) > (j : Int)) := by omega
   have q4 : (j : Int) - (i : Int) = ((j - i : Nat) : Int) := by omega
   have hS := Lib.hid (fun (w : World) (S1 : SD w0 base g n cap d w) F => swapRange_any F (m - i) (m + j - i) i a b base g n cap d w0 w S1 (by omega) (by omega) (by omega) h4 hn)
   replace q4 := Lib.hid q4
   replace e4 := Lib.hid e4
   replace e3 := Lib.hid e3
   go_wp2_with fail
   rw [e4.out, e3.out]
   refine (hS.out _ S1.out _).mono ?_
   rintro e w1 ⟨rfl, d1, S2, W2, M2⟩
   have R2 := Lib.hid (fun k => (show rotF d1 (m - i) m (m + (j - i)) k = rotF d0 a m b k from by
    have := rot_right (d := d) (e := d1) (lo := m - i) (m := m) (hi := m + j) (by rw [show m - (m - i) = i by omega]; exact W2) (by omega) (by omega) k
    rw [show m + j - (m - (m - i)) = m + (j - i) by omega] at this
    rw [this]; exact R1.out k))
   have M3 := Lib.hid (M1.out.trans M2)
   replace S2 := Lib.hid S2
   go_wp2_with fail
   rw [q4.out]
   go_roundw
   case rel => exact ⟨i, j - i, d1, by omega, by omega, hia, by omega, rfl, rfl, S2, R2, M3⟩
   case measure => first | (simp [intOf]; done) | (simp [intOf]; omega)
  ·subst q
   have q1 : ((i : Int) != (i : Int)) = false := by rw [bne_eq_false_iff_eq]
   have hS := Lib.hid (fun (w : World) (S1 : SD w0 base g n cap d w) F => swapRange_any F (m - i) m i a b base g n cap d w0 w S1 (by omega) (by omega) (by omega) h4 hn)
   replace e3 := Lib.hid e3
   go_wp2_with fail
   rw [e3.out]
   refine (hS.out _ S1.out _).mono ?_
   rintro e w1 ⟨rfl, d1, S2, W2, M2⟩
   have R2 := Lib.hid (fun k => (show d1.getD k 0 = rotF d0 a m b k from by
    rw [← R1.out k]
    exact rot_even (d := d) (e := d1) (lo := m - i) (m := m) (hi := m + i) (by rw [show m - (m - i) = i by omega]; exact W2) (by omega) (by omega) (by omega) k))
   have M3 := Lib.hid (M1.out.trans M2)
   go_wp2_with fail
   go_end0
   exact ⟨rfl, d1, S2, R2.out, M3.out⟩
  ·have q1 : ((i : Int) != (j : Int)) = true := by rw [bne_iff_ne]; omega
   have q2 : ¬ (i : Int) = (j : Int) := by omega
   have q3 : ((i : Int) > (j : Int)) := by omega
   have q4 : (i : Int) - (j : Int) = ((i - j : Nat) : Int) := by omega
   have hS := Lib.hid (fun (w : World) (S1 : SD w0 base g n cap d w) F => swapRange_any F (m - i) m j a b base g n cap d w0 w S1 (by omega) (by omega) (by omega) h4 hn)
   replace q4 := Lib.hid q4
   replace e4 := Lib.hid e4
   replace e3 := Lib.hid e3
   go_wp2_with fail
   rw [e3.out]
   refine (hS.out _ S1.out _).mono ?_
   rintro e w1 ⟨rfl, d1, S2, W2, M2⟩
   have R2 := Lib.hid (fun k => (show rotF d1 (m - (i - j)) m (m + j) k = rotF d0 a m b k from by
    have := rot_left (d := d) (e := d1) (lo := m - i) (m := m) (hi := m + j) (by rw [show m + j - m = j by omega]; exact W2) (by omega) (by omega) k
    rw [show m - i + (m + j - m) = m - (i - j) by omega] at this
    rw [this]; exact R1.out k))
   have M3 := Lib.hid (M1.out.trans M2)
   replace S2 := Lib.hid S2
   go_wp2_with fail
   rw [q4.out]
   go_roundw
   case rel => exact ⟨i - j, j, d1, by omega, by omega, by omega, hjb, rfl, rfl, S2, R2, M3⟩
   case measure => first | (simp [intOf]; done) | (simp [intOf]; omega)
end Go.Proofs.YtkdhdibjbabgfaaGreatDoor
end
section
set_option linter.unusedVariables false
set_option linter.unusedSimpArgs false
namespace Go.Proofs.YtkdhdibjbabgfaaGreatDoor
open Go.RowKit Go.ChangeShapes Go.WideShapes Go.Deep
def doN (x : Nat) (o : Ox) : Nat := if o.1 = 0 then o.2.2 else if o.1 = 1 then x ||| o.2.2 else if o.1 = 2 then x &&& o.2.2 else x
theorem doN_lt {x : Nat} {o : Ox} (hx : x < 18446744073709551616) (ho : o.2.2 < 18446744073709551616) : doN x o < 18446744073709551616 := by
 unfold doN
 split
 ·exact ho
 split
 ·exact Nat.or_lt_two_pow (n := 64) hx ho
 split
 ·exact Nat.lt_of_le_of_lt Nat.and_le_left hx
 ·exact hx
set_option maxRecDepth 10000 in
theorem op_set (x v : Nat) (k a : Int) (w : World) (hx : x < 18446744073709551616) (hv : v < 18446744073709551616) : Calls Tryz.prog 110 #[.agg #[.int .i64 k, .int .i64 a, .int .u64 (v : Nat)], .int .u64 (x : Nat)] w fun e w' => e = .returned (.int .u64 (v : Nat)) ∧ Below w.heap.size w w' := by
 have hB : Below w.heap.size w (w.alloc (.cells #[.int .i64 k, .int .i64 a, .int .u64 (v : Nat)] (137 : Nat))) := (Below.refl _ _).alloc (Nat.le_refl _) _
 obtain ⟨c0, c1, c2⟩ := C3.new w (.int .i64 k) (.int .i64 a) (.int .u64 (v : Nat)) (137 : Nat)
 go_enter Tryz.func110, Tryz.ntmps110
 go_wp2_with fail
 go_ret
 exact ⟨rfl, hB⟩
set_option maxRecDepth 10000 in
theorem op_or (x v : Nat) (k a : Int) (w : World) (hx : x < 18446744073709551616) (hv : v < 18446744073709551616) : Calls Tryz.prog 111 #[.agg #[.int .i64 k, .int .i64 a, .int .u64 (v : Nat)], .int .u64 (x : Nat)] w fun e w' => e = .returned (.int .u64 (x ||| v : Nat)) ∧ Below w.heap.size w w' := by
 have e : bits .or .u64 (x : Int) (v : Int) = ((x ||| v : Nat) : Int) := u64_or_nat x v (by omega) (by omega)
 replace e := Lib.hid e
 have hB : Below w.heap.size w (w.alloc (.cells #[.int .i64 k, .int .i64 a, .int .u64 (v : Nat)] (137 : Nat))) := (Below.refl _ _).alloc (Nat.le_refl _) _
 obtain ⟨c0, c1, c2⟩ := C3.new w (.int .i64 k) (.int .i64 a) (.int .u64 (v : Nat)) (137 : Nat)
 go_enter Tryz.func111, Tryz.ntmps111
 go_wp2_with fail
 go_ret
 exact ⟨by rw [← e.out]; rfl, hB⟩
set_option maxRecDepth 10000 in
theorem op_and (x v : Nat) (k a : Int) (w : World) (hx : x < 18446744073709551616) (hv : v < 18446744073709551616) : Calls Tryz.prog 112 #[.agg #[.int .i64 k, .int .i64 a, .int .u64 (v : Nat)], .int .u64 (x : Nat)] w fun e w' => e = .returned (.int .u64 (x &&& v : Nat)) ∧ Below w.heap.size w w' := by
 have e : bits .and .u64 (x : Int) (v : Int) = ((x &&& v : Nat) : Int) := u64_and_nat x v (by omega) (by omega)
 replace e := Lib.hid e
 have hB : Below w.heap.size w (w.alloc (.cells #[.int .i64 k, .int .i64 a, .int .u64 (v : Nat)] (137 : Nat))) := (Below.refl _ _).alloc (Nat.le_refl _) _
 obtain ⟨c0, c1, c2⟩ := C3.new w (.int .i64 k) (.int .i64 a) (.int .u64 (v : Nat)) (137 : Nat)
 go_enter Tryz.func112, Tryz.ntmps112
 go_wp2_with fail
 go_ret
 exact ⟨by rw [← e.out]; rfl, hB⟩
set_option maxRecDepth 10000 in
set_option maxHeartbeats 400000 in
theorem do_easy (x : Nat) (o : Ox) (w : World) (hx : x < 18446744073709551616) (h : o.1 < 0 ∨ 3 ≤ o.1) : Calls Tryz.prog 83 #[.int .u64 (x : Nat), opV o] w fun e w' => e = .returned (.int .u64 (x : Nat)) ∧ Below w.heap.size w w' := by
 obtain ⟨k, a, v⟩ := o
 unfold opV
 simp only [] at *
 have hB : Below w.heap.size w (w.alloc (.cells #[.int .i64 k, .int .i64 a, .int .u64 (v : Nat)] (53 : Nat))) := (Below.refl _ _).alloc (Nat.le_refl _) _
 rcases h with h | h
 ·go_enter Tryz.func83, Tryz.ntmps83
  go_wp2_with fail
  go_ret
  exact ⟨rfl, hB.alloc hB.size _⟩
 ·have h' : ¬ k < 0 := by omega
  go_enter Tryz.func83, Tryz.ntmps83
  go_wp2_with fail
  go_ret
  exact ⟨rfl, hB.alloc hB.size _⟩
end Go.Proofs.YtkdhdibjbabgfaaGreatDoor
end
