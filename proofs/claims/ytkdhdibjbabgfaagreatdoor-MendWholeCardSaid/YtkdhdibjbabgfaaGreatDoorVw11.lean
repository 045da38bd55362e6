/-
  Part of the proof of MendWhole.
-/
import Derived.Test.YtkdhdibjbabgfaaGreatDoorVw10
import Derived.Test.YtkdhdibjbabgfaaGreatDoorVw26
import Derived.Test.YtkdhdibjbabgfaaGreatDoorVw0
set_option maxRecDepth 10000
set_option maxHeartbeats 1000000
set_option linter.unusedVariables false
set_option linter.unusedSimpArgs false
section
namespace Go.Proofs.YtkdhdibjbabgfaaGreatDoor
open Go.RowKit
theorem room_ok (W L : Int) (w : World) (h : gOk W L = true) :
 Calls Tryz.prog 93 #[.agg #[.int .i64 W, .int .i64 L]] w fun e w' => e = .returned (.int .i64 (gN W L)) ∧ Below w.heap.size w w' := by
 obtain ⟨h1, h2, h3, h4⟩ := gOk_t h
 have e : (W - (10 + 73 * L)).tdiv 33 = gN W L := by rw [Int.tdiv_eq_ediv_of_nonneg (by omega)]; rfl
 rw [← e]
 exact room_any W L w h1 h2 (by omega) h3
theorem table_t (W L : Int) (w : World) (h : gOk W L = true) :
 Calls Tryz.prog 67 #[.agg #[.int .i64 W, .int .i64 L]] w fun e w' => e = .returned (.agg #[.int .i64 (10 + 73 * L), .int .i64 (gN W L)]) ∧ Below w.heap.size w w' := by
 obtain ⟨h1, h2, _, _⟩ := gOk_t h
 have H := lh h
 clear h
 go_enter Tryz.func67, Tryz.ntmps67
 go_wp2_with fail
 refine (right_t W L _ H.out).mono ?_
 rintro e w1 ⟨rfl, hb1⟩
 have j1 := ((C2.new w (.int .i64 W) (.int .i64 L) 33).alloc (.cells #[.int .i64 0, .int .i64 0] 51)).keep hb1
 have k1 := (C2.new (w.alloc (.cells #[.int .i64 W, .int .i64 L] 33)) (.int .i64 0) (.int .i64 0) 51).keep hb1
 have f1 := (F2.new (w.alloc (.cells #[.int .i64 W, .int .i64 L] 33)) (.int .i64 0) (.int .i64 0) 51).keep (by simp) hb1
 simp only [World.size_alloc] at k1 f1
 have lt1 := j1.lt
 have lt2 := k1.lt
 obtain ⟨c0, c1⟩ := id k1
 obtain ⟨d0, d1⟩ := id j1
 obtain ⟨g0, g1⟩ := id f1
 have hB : Below w.heap.size w w1 := ((bZ _ _).alloc (by simp) _).trans (hb1.mono (by simp; omega))
 go_wp2_with fail
 go_region_with (first
  | (go_at_call 92; refine (table_any W L _ h1 h2).mono ?_; rintro e w6 ⟨rfl, hb⟩; have BB : Below w.heap.size w w6 := (by first | exact BB.trans (hb.mono (Nat.le_of_lt jj.lt)) | exact hB.drew.trans (hb.mono (Nat.le_of_lt j1.drew.lt)) | exact hB.trans (hb.mono (Nat.le_of_lt j1.lt))); have jj : C2 w6 w.heap.size (.int .i64 W) (.int .i64 L) := (by first | exact jj.keep hb | exact j1.drew.keep hb | exact j1.keep hb); have ff : F2 w6 (w.heap.size + 1) := (by first | exact ff.keep kk.lt hb | exact f1.drew.keep k1.drew.lt hb | exact f1.keep k1.lt hb); have kk : C2 w6 (w.heap.size + 1) (.int .i64 0) (.int .i64 0) := (by first | exact kk.keep hb | exact k1.drew.keep hb | exact k1.keep hb); obtain ⟨d0, d1⟩ := id jj; obtain ⟨c0, c1⟩ := id kk; obtain ⟨g0, g1⟩ := id ff)
  | (go_at_call 93; refine (room_ok W L _ H.out).mono ?_; rintro e w7 ⟨rfl, hb⟩; have BB : Below w.heap.size w w7 := (by first | exact BB.trans (hb.mono (Nat.le_of_lt jj.lt)) | exact hB.drew.trans (hb.mono (Nat.le_of_lt j1.drew.lt)) | exact hB.trans (hb.mono (Nat.le_of_lt j1.lt))); have jj : C2 w7 w.heap.size (.int .i64 W) (.int .i64 L) := (by first | exact jj.keep hb | exact j1.drew.keep hb | exact j1.keep hb); have ff : F2 w7 (w.heap.size + 1) := (by first | exact ff.keep kk.lt hb | exact f1.drew.keep k1.drew.lt hb | exact f1.keep k1.lt hb); have kk : C2 w7 (w.heap.size + 1) (.int .i64 0) (.int .i64 0) := (by first | exact kk.keep hb | exact k1.drew.keep hb | exact k1.keep hb); obtain ⟨d0, d1⟩ := id jj; obtain ⟨c0, c1⟩ := id kk; obtain ⟨g0, g1⟩ := id ff))
 all_goals
  go_wp2_with fail
  refine bodyPost_ret (v := .agg #[.int .i64 (10 + 73 * L), .int .i64 (gN W L)]) (by simp [results, Tryz.results67, go_sem, c0, c1]) rfl ⟨rfl, ?_⟩
  exact (BB.setCell (by simp) _).setCell (by simp) _
end Go.Proofs.YtkdhdibjbabgfaaGreatDoor
end
section
namespace Go.Proofs.YtkdhdibjbabgfaaGreatDoor
open Go.RowKit Go.ChangeShapes Go.WideShapes Go.Deep
theorem swapRange_any (F : Value) (x y m lo hi base g n cap : Nat) (d0 : List Nat) (w0 w : World) (S0 : SD w0 base g n cap d0 w) (h1 : lo ≤ x) (h2 : x + m ≤ y) (h3 : y + m ≤ hi) (h4 : hi ≤ n) (hn : n ≤ 100000) :
 Calls Tryz.prog 149 #[.slice (some ⟨g, 0, none⟩) n cap, .int .i64 x, .int .i64 y, .int .i64 m, F] w fun e w' => e = .returned (.tuple #[]) ∧ ∃ d1, SD w0 base g n cap d1 w' ∧ SwR d0 d1 x y m ∧ Mv lo hi d0 d1 := by
 have hl0 := lh S0.len
 replace S0 := lh S0
 go_enter Tryz.func149, Tryz.ntmps149
 go_wp2_with fail
 go_loopw [10] (fun i wr => ∃ (k : Nat) (d : List Nat), k ≤ m ∧ i = .int .i64 k ∧ Hid (SD w0 base g n cap d wr) ∧ Hid (SwR d0 d x y k) ∧ Hid (Mv lo hi d0 d)) (fun i _ => m + 1 - (intOf i).toNat)
 case atStart => exact ⟨0, d0, Nat.zero_le _, rfl, S0, SwR.zero _ _ _, Mv.refl _ _ _⟩
 case round =>
  obtain ⟨k, d, hk, rfl, S1, R1, M1⟩ := hrel
  by_cases hlt : k < m
  ·have hltz : (k : Int) < (m : Int) := by omega
   obtain ⟨i, hi'⟩ : ∃ i, x + k = i := ⟨_, rfl⟩
   obtain ⟨j, hj'⟩ : ∃ j, y + k = j := ⟨_, rfl⟩
   have hin : i < n := by omega
   have hjn : j < n := by omega
   have hl1 := lh S1.out.len
   have R2 := lh (R1.out.step (by omega) (by rw [hl0.out]; omega))
   rw [hi', hj'] at R2
   have M2 := lh (M1.out.trans (Mv.swap (d := d) (i := i) (j := j) (by omega) (by omega) (by omega) (by omega) (by rw [hl1.out]; omega)))
   have e1 : (x : Int) + (k : Int) = (i : Int) := by omega
   have e2 : (y : Int) + (k : Int) = (j : Int) := by omega
   have e3 : IntKind.i64.wrap (i : Int) = (i : Int) := by rw [IntKind.wrap_i64]; omega
   have e4 : IntKind.i64.wrap (j : Int) = (j : Int) := by rw [IntKind.wrap_i64]; omega
   have b1 : (i : Int) < (n : Int) := by omega
   have b2 : (j : Int) < (n : Int) := by omega
   obtain ⟨a, ha⟩ : ∃ a, d.getD i 0 = a := ⟨_, rfl⟩
   obtain ⟨c, hc⟩ : ∃ c, d.getD j 0 = c := ⟨_, rfl⟩
   have hS := lh (S1.out.swap i j a c hin hjn ha hc)
   obtain ⟨c0, f0⟩ := S1.out.cell i hin
   obtain ⟨c1, f1⟩ := S1.out.cell j hjn
   rw [ha] at c0
   rw [hc] at c1
   obtain ⟨u9, c9⟩ := S1.out.other i j c hin hjn
   clear ha hc hi' hj' S1 R1 M1
   go_wp2_with fail
   go_big_region
   (try simp only [Exit.inBlock, Exit.then])
   go_wp2_with fail
   go_roundw
   case rel => exact ⟨k + 1, _, by omega, by go_num, hS, R2, M2⟩
   case measure => first | (simp [intOf]; done) | (simp [intOf]; omega)
  ·obtain rfl : k = m := by omega
   go_wp2_with fail
   go_end0
   exact ⟨rfl, d, S1.out, R1.out, M1.out⟩
theorem rotate_any (F : Value) (a m b base g n cap : Nat) (d0 : List Nat) (w0 w : World) (S0 : SD w0 base g n cap d0 w) (h1 : a < m) (h2 : m < b) (h4 : b ≤ n) (hn : n ≤ 100000) :
 Calls Tryz.prog 147 #[.slice (some ⟨g, 0, none⟩) n cap, .int .i64 a, .int .i64 m, .int .i64 b, F] w fun e w' => e = .returned (.tuple #[]) ∧ ∃ d1, SD w0 base g n cap d1 w' ∧ (∀ k, d1.getD k 0 = rotF d0 a m b k) ∧ Mv a b d0 d1 := by
 replace S0 := lh S0
 have e1 : (m : Int) - (a : Int) = ((m - a : Nat) : Int) := by omega
 have e2 : (b : Int) - (m : Int) = ((b - m : Nat) : Int) := by omega
 go_enter Tryz.func147, Tryz.ntmps147
 go_wp2_with fail
 try rw [e1, e2]
 clear e1 e2
 go_loopw [10, 11] (fun u v wr => ∃ (i j : Nat) (d : List Nat), 0 < i ∧ 0 < j ∧ i ≤ m - a ∧ j ≤ b - m ∧ u = .int .i64 i ∧ v = .int .i64 j ∧ Hid (SD w0 base g n cap d wr) ∧ Hid (∀ k, rotF d (m - i) m (m + j) k = rotF d0 a m b k) ∧ Hid (Mv a b d0 d)) (fun u v _ => (intOf u).toNat + (intOf v).toNat)
 case atStart => exact ⟨m - a, b - m, d0, by omega, by omega, Nat.le_refl _, Nat.le_refl _, rfl, rfl, S0, (show ∀ k, _ from by rw [show m - (m - a) = a by omega, show m + (b - m) = b by omega]; exact fun _ => rfl), Mv.refl _ _ _⟩
 case round =>
  obtain ⟨i, j, d, hi0, hj0, hia, hjb, rfl, rfl, S1, R1, M1⟩ := hrel
  have e3 : (m : Int) - (i : Int) = ((m - i : Nat) : Int) := by omega
  have e4 : (m : Int) + (j : Int) - (i : Int) = ((m + j - i : Nat) : Int) := by omega
  rcases Nat.lt_trichotomy i j with q | q | q
  ·have q1 : ((i : Int) != (j : Int)) = true := by rw [bne_iff_ne]; omega
   have q2 : ¬ (i : Int) = (j : Int) := by omega
   have q3 : ¬ ((i : Int) > (j : Int)) := by omega
   have q4 : (j : Int) - (i : Int) = ((j - i : Nat) : Int) := by omega
   have hS := lh (fun (w : World) (S1 : SD w0 base g n cap d w) F => swapRange_any F (m - i) (m + j - i) i a b base g n cap d w0 w S1 (by omega) (by omega) (by omega) h4 hn)
   replace q4 := lh q4
   replace e4 := lh e4
   replace e3 := lh e3
   go_wp2_with fail
   rw [e4.out, e3.out]
   refine (hS.out _ S1.out _).mono ?_
   rintro e w1 ⟨rfl, d1, S2, W2, M2⟩
   have R2 := lh (fun k => (show rotF d1 (m - i) m (m + (j - i)) k = rotF d0 a m b k from by
    have := rot_right (d := d) (e := d1) (lo := m - i) (m := m) (hi := m + j) (by rw [show m - (m - i) = i by omega]; exact W2) (by omega) (by omega) k
    rw [show m + j - (m - (m - i)) = m + (j - i) by omega] at this
    rw [this]; exact R1.out k))
   have M3 := lh (M1.out.trans M2)
   replace S2 := lh S2
   go_wp2_with fail
   rw [q4.out]
   go_roundw
   case rel => exact ⟨i, j - i, d1, by omega, by omega, hia, by omega, rfl, rfl, S2, R2, M3⟩
   case measure => first | (simp [intOf]; done) | (simp [intOf]; omega)
  ·subst q
   have q1 : ((i : Int) != (i : Int)) = false := by rw [bne_eq_false_iff_eq]
   have hS := lh (fun (w : World) (S1 : SD w0 base g n cap d w) F => swapRange_any F (m - i) m i a b base g n cap d w0 w S1 (by omega) (by omega) (by omega) h4 hn)
   replace e3 := lh e3
   go_wp2_with fail
   rw [e3.out]
   refine (hS.out _ S1.out _).mono ?_
   rintro e w1 ⟨rfl, d1, S2, W2, M2⟩
   have R2 := lh (fun k => (show d1.getD k 0 = rotF d0 a m b k from by
    rw [← R1.out k]
    exact rot_even (d := d) (e := d1) (lo := m - i) (m := m) (hi := m + i) (by rw [show m - (m - i) = i by omega]; exact W2) (by omega) (by omega) (by omega) k))
   have M3 := lh (M1.out.trans M2)
   go_wp2_with fail
   go_end0
   exact ⟨rfl, d1, S2, R2.out, M3.out⟩
  ·have q1 : ((i : Int) != (j : Int)) = true := by rw [bne_iff_ne]; omega
   have q2 : ¬ (i : Int) = (j : Int) := by omega
   have q3 : ((i : Int) > (j : Int)) := by omega
   have q4 : (i : Int) - (j : Int) = ((i - j : Nat) : Int) := by omega
   have hS := lh (fun (w : World) (S1 : SD w0 base g n cap d w) F => swapRange_any F (m - i) m j a b base g n cap d w0 w S1 (by omega) (by omega) (by omega) h4 hn)
   replace q4 := lh q4
   replace e4 := lh e4
   replace e3 := lh e3
   go_wp2_with fail
   rw [e3.out]
   refine (hS.out _ S1.out _).mono ?_
   rintro e w1 ⟨rfl, d1, S2, W2, M2⟩
   have R2 := lh (fun k => (show rotF d1 (m - (i - j)) m (m + j) k = rotF d0 a m b k from by
    have := rot_left (d := d) (e := d1) (lo := m - i) (m := m) (hi := m + j) (by rw [show m + j - m = j by omega]; exact W2) (by omega) (by omega) k
    rw [show m - i + (m + j - m) = m - (i - j) by omega] at this
    rw [this]; exact R1.out k))
   have M3 := lh (M1.out.trans M2)
   replace S2 := lh S2
   go_wp2_with fail
   rw [q4.out]
   go_roundw
   case rel => exact ⟨i - j, j, d1, by omega, by omega, by omega, hjb, rfl, rfl, S2, R2, M3⟩
   case measure => first | (simp [intOf]; done) | (simp [intOf]; omega)
end Go.Proofs.YtkdhdibjbabgfaaGreatDoor
end
