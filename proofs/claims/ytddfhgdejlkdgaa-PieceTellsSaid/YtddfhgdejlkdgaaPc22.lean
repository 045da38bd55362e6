/-
  The laws of package piece: PieceTells.
-/
import Derived.Test.YtddfhgdejlkdgaaPc20
import Derived.Test.YtddfhgdejlkdgaaPc21
import Derived.Test.YtddfhgdejlkdgaaRegX
set_option linter.unusedVariables false
namespace Go.Proofs.Ytddfhgdejlkdgaa
open Go.RowKit

set_option maxHeartbeats 1000000 in
theorem pieceTells_n1 (v : Value) (l : List Sp) (i s1 s2 : Int) (w : World) (hl : PI l) (hv : PL w v l) (hi1 : -9223372036854775808 ≤ i) (hi2 : i ≤ 9223372036854775807) (hs1 : -9223372036854775808 ≤ s1) (hs2 : s1 ≤ 9223372036854775807) (hs3 : -9223372036854775808 ≤ s2) (hs4 : s2 ≤ 9223372036854775807) (hf : fewL l = false) :
    Calls Try.prog 3 #[v, .int .i64 i, .agg #[.int .i64 s1, .int .i64 s2]] w fun e w' => e = .returned (.bool true) ∧ Below w.heap.size w w' := by
  have hF := Lib.hid (fun w1 (hb : Below w.heap.size w w1) => few_any v l w1 (hv.keep hb) hl.1)
  rw [hf] at hF
  have kk := C2.new w (.int .i64 s1) (.int .i64 s2) (24 : Nat)
  have hB0 : Below w.heap.size w (w.alloc (.cells #[.int .i64 s1, .int .i64 s2] (24 : Nat))) := (Below.refl _ _).alloc (Nat.le_refl _) _
  clear hl hv hf
  go_enter Try.func3, Try.ntmps3
  go_wp2_with fail
  refine (awake14 _).mono ?_
  rintro e w1 ⟨rfl, hb1⟩
  have hB1 := hB0.trans (hb1.mono hB0.size)
  replace kk := kk.keep hb1
  clear hb1 hB0
  go_wp2_with fail
  refine (hF.out _ hB1).mono ?_
  rintro e w2 ⟨rfl, hb2⟩
  have hB2 := hB1.trans (hb2.mono hB1.size)
  replace kk := kk.keep hb2
  clear hb2 hB1
  obtain ⟨c0, c1⟩ := id kk
  go_wp2_with fail
  go_ret
  exact ⟨rfl, hB2⟩
set_option maxHeartbeats 4000000 in
theorem pieceTells_n2 (v : Value) (l : List Sp) (i s1 s2 : Int) (w : World) (hl : PI l) (hv : PL w v l) (hi1 : -9223372036854775808 ≤ i) (hi2 : i ≤ 9223372036854775807) (hs1 : -9223372036854775808 ≤ s1) (hs2 : s1 ≤ 9223372036854775807) (hs3 : -9223372036854775808 ≤ s2) (hs4 : s2 ≤ 9223372036854775807) (hf : fewL l = true) (hno : (s1 < -1099511627776) ∨ (-1099511627776 ≤ s1 ∧ 1099511627776 < s1) ∨ (-1099511627776 ≤ s1 ∧ s1 ≤ 1099511627776 ∧ s2 < -1099511627776) ∨ (-1099511627776 ≤ s1 ∧ s1 ≤ 1099511627776 ∧ -1099511627776 ≤ s2 ∧ 1099511627776 < s2) ∨ (-1099511627776 ≤ s1 ∧ s1 ≤ 1099511627776 ∧ -1099511627776 ≤ s2 ∧ s2 ≤ 1099511627776 ∧ i < -1099511627776) ∨ (-1099511627776 ≤ s1 ∧ s1 ≤ 1099511627776 ∧ -1099511627776 ≤ s2 ∧ s2 ≤ 1099511627776 ∧ -1099511627776 ≤ i ∧ 1099511627776 < i)) :
    Calls Try.prog 3 #[v, .int .i64 i, .agg #[.int .i64 s1, .int .i64 s2]] w fun e w' => e = .returned (.bool true) ∧ Below w.heap.size w w' := by
  have hF := Lib.hid (fun w1 (hb : Below w.heap.size w w1) => few_any v l w1 (hv.keep hb) hl.1)
  rw [hf] at hF
  have kk := C2.new w (.int .i64 s1) (.int .i64 s2) (24 : Nat)
  have hB0 : Below w.heap.size w (w.alloc (.cells #[.int .i64 s1, .int .i64 s2] (24 : Nat))) := (Below.refl _ _).alloc (Nat.le_refl _) _
  clear hl hv hf
  rcases hno with q0 | ⟨q0, q1⟩ | ⟨q0, q1, q2⟩ | ⟨q0, q1, q2, q3⟩ | ⟨q0, q1, q2, q3, q4⟩ | ⟨q0, q1, q2, q3, q4, q5⟩
  all_goals
    go_enter Try.func3, Try.ntmps3
    go_wp2_with fail
    refine (awake14 _).mono ?_
    rintro e w1 ⟨rfl, hb1⟩
    have hB1 := hB0.trans (hb1.mono hB0.size)
    replace kk := kk.keep hb1
    clear hb1 hB0
    go_wp2_with fail
    refine (hF.out _ hB1).mono ?_
    rintro e w2 ⟨rfl, hb2⟩
    have hB2 := hB1.trans (hb2.mono hB1.size)
    replace kk := kk.keep hb2
    clear hb2 hB1
    obtain ⟨c0, c1⟩ := id kk
    go_wp2_with fail
    go_ret
    exact ⟨rfl, hB2⟩
set_option maxRecDepth 10000 in
set_option maxHeartbeats 4000000 in
theorem pieceTells_yes (v : Value) (l : List Sp) (i s1 s2 : Int) (w : World) (hl : PI l) (hv : PL w v l) (hi1 : -9223372036854775808 ≤ i) (hi2 : i ≤ 9223372036854775807) (hs1 : -9223372036854775808 ≤ s1) (hs2 : s1 ≤ 9223372036854775807) (hs3 : -9223372036854775808 ≤ s2) (hs4 : s2 ≤ 9223372036854775807) (hf : fewL l = true) (q0 : -1099511627776 ≤ s1) (q1 : s1 ≤ 1099511627776) (q2 : -1099511627776 ≤ s2) (q3 : s2 ≤ 1099511627776) (q4 : -1099511627776 ≤ i) (q5 : i ≤ 1099511627776) :
    Calls Try.prog 3 #[v, .int .i64 i, .agg #[.int .i64 s1, .int .i64 s2]] w fun e w' => e = .returned (.bool true) ∧ Below w.heap.size w w' := by
  have hF := Lib.hid (fun w1 (hb : Below w.heap.size w w1) => few_any v l w1 (hv.keep hb) hl.1)
  rw [hf] at hF
  have kk := C2.new w (.int .i64 s1) (.int .i64 s2) (24 : Nat)
  have hB0 : Below w.heap.size w (w.alloc (.cells #[.int .i64 s1, .int .i64 s2] (24 : Nat))) := (Below.refl _ _).alloc (Nat.le_refl _) _
  obtain ⟨f1, f2, f3⟩ := few_of hf
  obtain ⟨T, hT⟩ : ∃ T, (placesL l).length = T := ⟨_, rfl⟩
  have h1 := placesL_len l f1
  have h2 : totS l = (T : Int) := by omega
  have hTo := fun w1 (hb : Below w.heap.size w w1) => total_any v l w1 f2 (by omega) (hv.keep hb)
  rw [h2] at hTo
  replace hTo := Lib.hid hTo
  have hPl := Lib.hid (fun w1 (hb : Below w.heap.size w w1) => refPlaces_any v l w1 f1 (by omega) (hv.keep hb))
  have hA1 := Lib.hid (fun w1 (hb : Below w.heap.size w w1) => at_any v l i w1 f1 (by omega) (by omega) (by omega) (hv.keep hb))
  have hA2 := Lib.hid (fun w1 (hb : Below w.heap.size w w1) => refAt_any v l i w1 f1 (by omega) (hv.keep hb))
  have hC1 := Lib.hid (fun w1 (hb : Below w.heap.size w w1) => cut_any v l (s1, s2) w1 f1 (by omega) (by simp only []; omega) (by simp only []; omega) (by simp only []; omega) (by simp only []; omega) (hv.keep hb))
  have hC2 := Lib.hid (fun w1 (hb : Below w.heap.size w w1) => refCut_any v l (s1, s2) w1 f1 (by omega) (by simp only []; omega) (by simp only []; omega) (by simp only []; omega) (by simp only []; omega) (hv.keep hb))
  have hcl := (cut_pb (s1, s2) f1).2
  have hSm := fun a b w1 ha hb => same_any a b (cutL l (s1, s2)) (cutL l (s1, s2)) w1 (by omega) ha hb
  rw [show decide (cutL l (s1, s2) = cutL l (s1, s2)) = true from by simp] at hSm
  replace hSm := Lib.hid hSm
  generalize placesL l = P at *
  generalize atL l i = X at *
  generalize cutL l (s1, s2) = C at *
  replace hT := Lib.hid hT
  clear hl hv hf f1 f2 f3 h1 h2 hcl
  go_enter Try.func3, Try.ntmps3
  go_wp2_with fail
  refine (awake14 _).mono ?_
  rintro e w1 ⟨rfl, hb1⟩
  have hB1 := hB0.trans (hb1.mono hB0.size)
  replace kk := kk.keep hb1
  clear hb1 hB0
  go_wp2_with fail
  refine (hF.out _ hB1).mono ?_
  rintro e w2 ⟨rfl, hb2⟩
  have hB2 := hB1.trans (hb2.mono hB1.size)
  replace kk := kk.keep hb2
  clear hb2 hB1
  obtain ⟨c0, c1⟩ := id kk
  have hT2 : Two w w.heap.size 0 (.int .i64 s1) w.heap.size 1 (.int .i64 s2) w2.drew := (Two.mk c0 c1 hB2).drew
  go_wp2_with fail
  clear c0 c1 kk hB2
  refine wp_region_held_drew (S := (fun w' => Two w w.heap.size 0 (.int .i64 s1) w.heap.size 1 (.int .i64 s2) w')) (by kernel_rfl) ?_ (fun hHeld => ?_)
  · (try dsimp only)
    (first | assumption | (exact Two.keep (by assumption) (by assumption)))
  refine takeL 0 (v := ?_) rfl (by kernel_rfl) (by kernel_rfl) (by kernel_rfl) (fun _ _ _ h => h) (by rfl) (by assumption) ?_ ?_
  rotate_left
  · (intro w hSw; (try dsimp only at hSw); have hS1 := hSw.one; have hS2 := hSw.two; clear hSw; go_simp <;> with_reducible rfl)
  try simp only [Act.put, List.setIfInBounds_toArray, List.set_cons_zero, List.set_cons_succ]
  refine takeL 1 (v := ?_) rfl (by kernel_rfl) (by kernel_rfl) (by kernel_rfl) (fun _ _ _ h => h) (by rfl) (by assumption) ?_ ?_
  rotate_left
  · (intro w hSw; (try dsimp only at hSw); have hS1 := hSw.one; have hS2 := hSw.two; clear hSw; go_simp <;> with_reducible rfl)
  try simp only [Act.put, List.setIfInBounds_toArray, List.set_cons_zero, List.set_cons_succ]
  refine takeL 2 (v := ?_) rfl (by kernel_rfl) (by kernel_rfl) (by kernel_rfl) (fun _ _ _ h => h) (by rfl) (by assumption) ?_ ?_
  rotate_left
  · (intro w hSw; (try dsimp only at hSw); have hS1 := hSw.one; have hS2 := hSw.two; clear hSw; go_simp <;> with_reducible rfl)
  try simp only [Act.put, List.setIfInBounds_toArray, List.set_cons_zero, List.set_cons_succ]
  refine takeL 4 (v := ?_) rfl (by kernel_rfl) (by kernel_rfl) (by kernel_rfl) (fun _ _ _ h => h) (by rfl) (by assumption) ?_ ?_
  rotate_left
  · (intro w hSw; (try dsimp only at hSw); have hS1 := hSw.one; have hS2 := hSw.two; clear hSw; go_simp <;> with_reducible rfl)
  try simp only [Act.put, List.setIfInBounds_toArray, List.set_cons_zero, List.set_cons_succ]
  refine oneL 3 rfl (by kernel_rfl) (fun K hK => ?_)
  go_simp
  (obtain hq := id hHeld; with_reducible refine (hTo.out _ hq.bel).mono ?_; rintro e w8 ⟨rfl, hb⟩)
  refine hK.out _ _ ?_ (fun hHeld2 => ?_)
  · (try dsimp only)
    (first | assumption | (exact Two.keep (by assumption) (by assumption)))
  clear hK K hHeld
  have hHeld := hHeld2
  clear hHeld2
  try simp only [Act.put, List.setIfInBounds_toArray, List.set_cons_zero, List.set_cons_succ]
  refine oneL 5 rfl (by kernel_rfl) (fun K hK => ?_)
  go_simp
  (obtain hq := id hHeld; refine (hPl.out _ hq.bel).mono ?_; rintro e w8 ⟨vP, rfl, hoP, hb⟩; obtain ⟨A, cap, rfl, _⟩ := hoP.il.form hT.out; clear hoP)
  refine hK.out _ _ ?_ (fun hHeld2 => ?_)
  · (try dsimp only)
    (first | assumption | (exact Two.keep (by assumption) (by assumption)))
  clear hK K hHeld
  have hHeld := hHeld2
  clear hHeld2
  try simp only [Act.put, List.setIfInBounds_toArray, List.set_cons_zero, List.set_cons_succ]
  refine takeL 6 (v := ?_) rfl (by kernel_rfl) (by kernel_rfl) (by kernel_rfl) (fun _ _ _ h => h) (by rfl) (by assumption) ?_ ?_
  rotate_left
  · (intro w hSw; (try dsimp only at hSw); have hS1 := hSw.one; have hS2 := hSw.two; clear hSw; go_simp <;> with_reducible rfl)
  try simp only [Act.put, List.setIfInBounds_toArray, List.set_cons_zero, List.set_cons_succ]
  refine takeL 7 (v := ?_) rfl (by kernel_rfl) (by kernel_rfl) (by kernel_rfl) (fun _ _ _ h => h) (by rfl) (by assumption) ?_ ?_
  rotate_left
  · (intro w hSw; (try dsimp only at hSw); have hS1 := hSw.one; have hS2 := hSw.two; clear hSw; go_simp <;> with_reducible rfl)
  try simp only [Act.put, List.setIfInBounds_toArray, List.set_cons_zero, List.set_cons_succ]
  refine takeL 8 (v := ?_) rfl (by kernel_rfl) (by kernel_rfl) (by kernel_rfl) (fun _ _ _ h => h) (by rfl) (by assumption) ?_ ?_
  rotate_left
  · (intro w hSw; (try dsimp only at hSw); have hS1 := hSw.one; have hS2 := hSw.two; clear hSw; go_simp <;> with_reducible rfl)
  try simp only [Act.put, List.setIfInBounds_toArray, List.set_cons_zero, List.set_cons_succ]
  refine takeL 9 (v := ?_) rfl (by kernel_rfl) (by kernel_rfl) (by kernel_rfl) (fun _ _ _ h => h) (by rfl) (by assumption) ?_ ?_
  rotate_left
  · (intro w hSw; (try dsimp only at hSw); have hS1 := hSw.one; have hS2 := hSw.two; clear hSw; go_simp <;> with_reducible rfl)
  try simp only [Act.put, List.setIfInBounds_toArray, List.set_cons_zero, List.set_cons_succ]
  refine takeL 10 (v := ?_) rfl (by kernel_rfl) (by kernel_rfl) (by kernel_rfl) (fun _ _ _ h => h) (by rfl) (by assumption) ?_ ?_
  rotate_left
  · (intro w hSw; (try dsimp only at hSw); have hS1 := hSw.one; have hS2 := hSw.two; clear hSw; go_simp <;> with_reducible rfl)
  try simp only [Act.put, List.setIfInBounds_toArray, List.set_cons_zero, List.set_cons_succ]
  refine takeL 11 (v := ?_) rfl (by kernel_rfl) (by kernel_rfl) (by kernel_rfl) (fun _ _ _ h => h) (by rfl) (by assumption) ?_ ?_
  rotate_left
  · (intro w hSw; (try dsimp only at hSw); have hS1 := hSw.one; have hS2 := hSw.two; clear hSw; go_simp <;> with_reducible rfl)
  try simp only [Act.put, List.setIfInBounds_toArray, List.set_cons_zero, List.set_cons_succ]
  refine takeL 13 (v := ?_) rfl (by kernel_rfl) (by kernel_rfl) (by kernel_rfl) (fun _ _ _ h => h) (by rfl) (by assumption) ?_ ?_
  rotate_left
  · (intro w hSw; (try dsimp only at hSw); have hS1 := hSw.one; have hS2 := hSw.two; clear hSw; go_simp <;> with_reducible rfl)
  try simp only [Act.put, List.setIfInBounds_toArray, List.set_cons_zero, List.set_cons_succ]
  refine takeL 14 (v := ?_) rfl (by kernel_rfl) (by kernel_rfl) (by kernel_rfl) (fun _ _ _ h => h) (by rfl) (by assumption) ?_ ?_
  rotate_left
  · (intro w hSw; (try dsimp only at hSw); have hS1 := hSw.one; have hS2 := hSw.two; clear hSw; go_simp <;> with_reducible rfl)
  try simp only [Act.put, List.setIfInBounds_toArray, List.set_cons_zero, List.set_cons_succ]
  refine oneL 12 rfl (by kernel_rfl) (fun K hK => ?_)
  go_simp
  (obtain hq := id hHeld; with_reducible refine (hA1.out _ hq.bel).mono ?_; rintro e w8 ⟨rfl, hb⟩)
  refine hK.out _ _ ?_ (fun hHeld2 => ?_)
  · (try dsimp only)
    (first | assumption | (exact Two.keep (by assumption) (by assumption)))
  clear hK K hHeld
  have hHeld := hHeld2
  clear hHeld2
  try simp only [Act.put, List.setIfInBounds_toArray, List.set_cons_zero, List.set_cons_succ]
  refine oneL 15 rfl (by kernel_rfl) (fun K hK => ?_)
  go_simp
  (obtain hq := id hHeld; with_reducible refine (hA2.out _ hq.bel).mono ?_; rintro e w8 ⟨rfl, hb⟩)
  refine hK.out _ _ ?_ (fun hHeld2 => ?_)
  · (try dsimp only)
    (first | assumption | (exact Two.keep (by assumption) (by assumption)))
  clear hK K hHeld
  have hHeld := hHeld2
  clear hHeld2
  try simp only [Act.put, List.setIfInBounds_toArray, List.set_cons_zero, List.set_cons_succ]
  refine takeL 16 (v := ?_) rfl (by kernel_rfl) (by kernel_rfl) (by kernel_rfl) (fun _ _ _ h => h) (by rfl) (by assumption) ?_ ?_
  rotate_left
  · (intro w hSw; (try dsimp only at hSw); have hS1 := hSw.one; have hS2 := hSw.two; clear hSw; go_simp <;> with_reducible rfl)
  try simp only [Act.put, List.setIfInBounds_toArray, List.set_cons_zero, List.set_cons_succ]
  refine takeL 17 (v := ?_) rfl (by kernel_rfl) (by kernel_rfl) (by kernel_rfl) (fun _ _ _ h => h) (by rfl) (by assumption) ?_ ?_
  rotate_left
  · (intro w hSw; (try dsimp only at hSw); have hS1 := hSw.one; have hS2 := hSw.two; clear hSw; go_simp <;> with_reducible rfl)
  try simp only [Act.put, List.setIfInBounds_toArray, List.set_cons_zero, List.set_cons_succ]
  refine takeL 18 (v := ?_) rfl (by kernel_rfl) (by kernel_rfl) (by kernel_rfl) (fun _ _ _ h => h) (by rfl) (by assumption) ?_ ?_
  rotate_left
  · (intro w hSw; (try dsimp only at hSw); have hS1 := hSw.one; have hS2 := hSw.two; clear hSw; go_simp <;> with_reducible rfl)
  try simp only [Act.put, List.setIfInBounds_toArray, List.set_cons_zero, List.set_cons_succ]
  refine takeL 19 (v := ?_) rfl (by kernel_rfl) (by kernel_rfl) (by kernel_rfl) (fun _ _ _ h => h) (by rfl) (by assumption) ?_ ?_
  rotate_left
  · (intro w hSw; (try dsimp only at hSw); have hS1 := hSw.one; have hS2 := hSw.two; clear hSw; go_simp <;> with_reducible rfl)
  try simp only [Act.put, List.setIfInBounds_toArray, List.set_cons_zero, List.set_cons_succ]
  refine takeL 20 (v := ?_) rfl (by kernel_rfl) (by kernel_rfl) (by kernel_rfl) (fun _ _ _ h => h) (by rfl) (by assumption) ?_ ?_
  rotate_left
  · (intro w hSw; (try dsimp only at hSw); have hS1 := hSw.one; have hS2 := hSw.two; clear hSw; go_simp <;> with_reducible rfl)
  try simp only [Act.put, List.setIfInBounds_toArray, List.set_cons_zero, List.set_cons_succ]
  refine takeL 22 (v := ?_) rfl (by kernel_rfl) (by kernel_rfl) (by kernel_rfl) (fun _ _ _ h => h) (by rfl) (by assumption) ?_ ?_
  rotate_left
  · (intro w hSw; (try dsimp only at hSw); have hS1 := hSw.one; have hS2 := hSw.two; clear hSw; go_simp <;> with_reducible rfl)
  try simp only [Act.put, List.setIfInBounds_toArray, List.set_cons_zero, List.set_cons_succ]
  refine takeL 23 (v := ?_) rfl (by kernel_rfl) (by kernel_rfl) (by kernel_rfl) (fun _ _ _ h => h) (by rfl) (by assumption) ?_ ?_
  rotate_left
  · (intro w hSw; (try dsimp only at hSw); have hS1 := hSw.one; have hS2 := hSw.two; clear hSw; go_simp <;> with_reducible rfl)
  try simp only [Act.put, List.setIfInBounds_toArray, List.set_cons_zero, List.set_cons_succ]
  refine oneL 21 rfl (by kernel_rfl) (fun K hK => ?_)
  go_simp
  (obtain hq := id hHeld; refine (hC1.out _ hq.bel).mono ?_; rintro e w8 ⟨vA, rfl, hoA, hb⟩; have pA := hoA.pl; clear hoA; (try replace pB := pB.keep hb))
  refine hK.out _ _ ?_ (fun hHeld2 => ?_)
  · (try dsimp only)
    (first | assumption | (exact Two.keep (by assumption) (by assumption)))
  clear hK K hHeld
  have hHeld := hHeld2
  clear hHeld2
  try simp only [Act.put, List.setIfInBounds_toArray, List.set_cons_zero, List.set_cons_succ]
  refine oneL 24 rfl (by kernel_rfl) (fun K hK => ?_)
  go_simp
  (obtain hq := id hHeld; refine (hC2.out _ hq.bel).mono ?_; rintro e w8 ⟨vB, rfl, hoB, hb⟩; have pB := hoB.pl; clear hoB; (try replace pA := pA.keep hb))
  refine hK.out _ _ ?_ (fun hHeld2 => ?_)
  · (try dsimp only)
    (first | assumption | (exact Two.keep (by assumption) (by assumption)))
  clear hK K hHeld
  have hHeld := hHeld2
  clear hHeld2
  try simp only [Act.put, List.setIfInBounds_toArray, List.set_cons_zero, List.set_cons_succ]
  refine oneL 25 rfl (by kernel_rfl) (fun K hK => ?_)
  go_simp
  (refine (hSm.out _ _ _ pA pB).mono ?_; rintro e w8 ⟨rfl, hb⟩; clear pA pB)
  refine hK.out _ _ ?_ (fun hHeld2 => ?_)
  · (try dsimp only)
    (first | assumption | (exact Two.keep (by assumption) (by assumption)))
  clear hK K hHeld
  have hHeld := hHeld2
  clear hHeld2
  try simp only [Act.put, List.setIfInBounds_toArray, List.set_cons_zero, List.set_cons_succ]
  refine takeL 26 (v := ?_) rfl (by kernel_rfl) (by kernel_rfl) (by kernel_rfl) (fun _ _ _ h => h) (by rfl) (by assumption) ?_ ?_
  rotate_left
  · (intro w hSw; (try dsimp only at hSw); have hS1 := hSw.one; have hS2 := hSw.two; clear hSw; go_simp <;> with_reducible rfl)
  try simp only [Act.put, List.setIfInBounds_toArray, List.set_cons_zero, List.set_cons_succ]
  refine takeL 27 (v := ?_) rfl (by kernel_rfl) (by kernel_rfl) (by kernel_rfl) (fun _ _ _ h => h) (by rfl) (by assumption) ?_ ?_
  rotate_left
  · (intro w hSw; (try dsimp only at hSw); have hS1 := hSw.one; have hS2 := hSw.two; clear hSw; go_simp <;> with_reducible rfl)
  try simp only [Act.put, List.setIfInBounds_toArray, List.set_cons_zero, List.set_cons_succ]
  refine wpAnyH_done (by kernel_rfl) ?_ _
  have hB9 := hHeld.bel
  go_wp2_with fail
  go_ret
  exact ⟨rfl, hB9⟩
theorem pieceTells (v : Value) (l : List Sp) (i s1 s2 : Int) (w : World) (hl : PI l) (hv : PL w v l) (hi1 : -9223372036854775808 ≤ i) (hi2 : i ≤ 9223372036854775807) (hs1 : -9223372036854775808 ≤ s1) (hs2 : s1 ≤ 9223372036854775807) (hs3 : -9223372036854775808 ≤ s2) (hs4 : s2 ≤ 9223372036854775807) :
    Calls Try.prog 3 #[v, .int .i64 i, .agg #[.int .i64 s1, .int .i64 s2]] w fun e w' => e = .returned (.bool true) ∧ Below w.heap.size w w' := by
  cases hf : fewL l
  · exact pieceTells_n1 v l i s1 s2 w hl hv hi1 hi2 hs1 hs2 hs3 hs4 hf
  by_cases hno : (s1 < -1099511627776) ∨ (-1099511627776 ≤ s1 ∧ 1099511627776 < s1) ∨ (-1099511627776 ≤ s1 ∧ s1 ≤ 1099511627776 ∧ s2 < -1099511627776) ∨ (-1099511627776 ≤ s1 ∧ s1 ≤ 1099511627776 ∧ -1099511627776 ≤ s2 ∧ 1099511627776 < s2) ∨ (-1099511627776 ≤ s1 ∧ s1 ≤ 1099511627776 ∧ -1099511627776 ≤ s2 ∧ s2 ≤ 1099511627776 ∧ i < -1099511627776) ∨ (-1099511627776 ≤ s1 ∧ s1 ≤ 1099511627776 ∧ -1099511627776 ≤ s2 ∧ s2 ≤ 1099511627776 ∧ -1099511627776 ≤ i ∧ 1099511627776 < i)
  · exact pieceTells_n2 v l i s1 s2 w hl hv hi1 hi2 hs1 hs2 hs3 hs4 hf hno
  · exact pieceTells_yes v l i s1 s2 w hl hv hi1 hi2 hs1 hs2 hs3 hs4 hf (by omega) (by omega) (by omega) (by omega) (by omega) (by omega)
end Go.Proofs.Ytddfhgdejlkdgaa
