/-
  The laws of package chunk: ChunkRooms.
-/
import Derived.Test.YtnhbpenejlocaaaDoorChunk11
set_option linter.unusedVariables false
namespace Go.Proofs.YtnhbpenejlocaaaDoor
open Go.RowKit

theorem bit_both (i : Int) : ∃ v, (∀ w, Lw w → Calls Tryd.prog 35 #[.int .i64 i] w fun e w' => e = .returned (.int .u64 v) ∧ Below w.heap.size w w') ∧ (∀ w, Calls Tryd.prog 36 #[.int .i64 i] w fun e w' => e = .returned (.int .u64 v) ∧ w = w') := by
  by_cases h0 : i < 0
  · exact ⟨0, fun w _ => bit_no i w h0, fun w => refBit_no i w (.inl h0)⟩
  by_cases h7 : 7 < i
  · exact ⟨0, fun w hw => bit_big i w hw (by omega), fun w => refBit_no i w (.inr h7)⟩
  obtain ⟨n, rfl⟩ := Int.eq_ofNat_of_zero_le (show 0 ≤ i by omega)
  exact ⟨16777216 * pwI n, fun w hw => bit_any n w hw (by omega), fun w => refBit_yes n w (by omega)⟩
theorem room_both (k c l m b : Int) (b0 : 0 ≤ b) (h : rightB k c l m b = true) : ∃ v, (∀ w, Lw w → Calls Tryd.prog 39 #[.agg #[.int .i64 k, .int .i64 c, .int .i64 l, .int .i64 m, .int .u64 b]] w fun e w' => e = .returned (.int .i64 v) ∧ Below w.heap.size w w') ∧ (∀ w, Calls Tryd.prog 40 #[.agg #[.int .i64 k, .int .i64 c, .int .i64 l, .int .i64 m, .int .u64 b]] w fun e w' => e = .returned (.int .i64 v) ∧ Below w.heap.size w w') := by
  by_cases hk : k = 1
  · subst hk
    have hr := rightB_t h
    have hc : 0 ≤ c ∧ c < 3 ∧ b < 256 := by unfold RightP at hr; omega
    obtain ⟨cn, rfl⟩ := Int.eq_ofNat_of_zero_le hc.1
    obtain ⟨bn, rfl⟩ := Int.eq_ofNat_of_zero_le b0
    exact ⟨roomI cn bn, fun w hw => room_run cn l m bn w hw (by omega), fun w => refRoom_run cn l m bn w (by omega) (by omega)⟩
  · exact ⟨-1, fun w _ => room_no k c l m b w hk, fun w => refRoom_no k c l m b w hk⟩

set_option maxRecDepth 20000 in
set_option maxHeartbeats 4000000 in
theorem chunkRooms_yes (k c l m b i : Int) (w : World) (hw : Lw w) (b0 : 0 ≤ b) (h : rightB k c l m b = true) :
    Calls Tryd.prog 10 #[.agg #[.int .i64 k, .int .i64 c, .int .i64 l, .int .i64 m, .int .u64 b], .int .i64 i] w fun e w' => e = .returned (.bool true) ∧ Below w.heap.size w w' := by
  have hw1 := Lib.hid (hw.alloc (.cells #[.int .i64 k, .int .i64 c, .int .i64 l, .int .i64 m, .int .u64 b] 47))
  clear hw
  have hA := (Below.refl w.heap.size w).alloc (Nat.le_refl _) (.cells #[.int .i64 k, .int .i64 c, .int .i64 l, .int .i64 m, .int .u64 b] 47)
  have hk0 := C5.new w k c l m b 47
  have hR := Lib.hid (fun w (hw : Lw w) => show Calls Tryd.prog 32 #[.agg #[.int .i64 k, .int .i64 c, .int .i64 l, .int .i64 m, .int .u64 b]] w fun e w' => e = .returned (.bool true) ∧ Below w.heap.size w w' from by
    have := refRight_any k c l m b w hw.2.2.1 hw.2.2.2.1 b0
    rwa [h] at this)
  obtain ⟨v, hB1, hB2⟩ := bit_both i
  replace hB1 := Lib.hid hB1
  replace hB2 := Lib.hid hB2
  have hv : (v == v) = true := by simp
  obtain ⟨u, hR1, hR2⟩ := room_both k c l m b b0 h
  replace hR1 := Lib.hid hR1
  replace hR2 := Lib.hid hR2
  have hE1 := Lib.hid (empty_any k c l m b)
  have hE2 := Lib.hid (refEmpty_any k c l m b)
  generalize decide (k = 1 ∧ b = 0) = y at hE1 hE2
  have hu : (u == u) = true := by simp
  clear h
  go_enter Tryd.func10, Tryd.ntmps10
  go_wp2_with fail
  refine (awake10 _ hw1.out).mono ?_
  rintro e w1 ⟨rfl, hb1⟩
  have hw2 := Lib.hid (hw1.out.keep hb1)
  have hk1 := hk0.keep hb1
  have hB1' : Below w.heap.size w w1 := hA.trans (hb1.mono (by simp))
  clear hw1 hk0 hA hb1
  have hk1' := Lib.hid hk1
  obtain ⟨x0, x1, x2, x3, x4⟩ := hk1
  go_wp2_with fail
  refine (hR.out _ hw2.out).mono ?_
  rintro e w2 ⟨rfl, hb2⟩
  have hw3 := Lib.hid (hw2.out.keep hb2)
  have hB2' : Below w.heap.size w w2 := hB1'.trans (hb2.mono hB1'.size)
  have hk2 := Lib.hid (hk1'.out.keep hb2)
  clear hw2 hk1' hB1' hb2 x0 x1 x2 x3 x4
  go_wp2_with fail
  refine (hB1.out _ hw3.out).mono ?_
  rintro e w3 ⟨rfl, hb3⟩
  have hw4 : Lw w3 := hw3.out.keep hb3
  have hB3' : Below w.heap.size w w3 := hB2'.trans (hb3.mono hB2'.size)
  have hk3 := hk2.out.keep hb3
  clear hw3 hk2 hB2' hb3
  obtain ⟨x0, x1, x2, x3, x4⟩ := hk3
  go_wp2_with fail
  refine (hB2.out _).mono ?_
  rintro e w4 ⟨rfl, rfl⟩
  have hd4 : Lw w3.drew := hw4
  have hdB : Below w.heap.size w w3.drew := hB3'.drew
  go_wp2_with fail
  go_region_held3 (fun w' => w'.cell? ⟨w.heap.size, 0, none⟩ = some (.int .i64 k) ∧ w'.cell? ⟨w.heap.size, 1, none⟩ = some (.int .i64 c) ∧ w'.cell? ⟨w.heap.size, 2, none⟩ = some (.int .i64 l) ∧ w'.cell? ⟨w.heap.size, 3, none⟩ = some (.int .i64 m) ∧ w'.cell? ⟨w.heap.size, 4, none⟩ = some (.int .u64 b) ∧ Lw w' ∧ Below w.heap.size w w')
    (((try go_split_ands); refine ⟨?_, ?_, ?_, ?_, ?_, ?_, ?_⟩ <;> first | assumption | (exact Lw.keep (by assumption) hb) | (exact cellK (by assumption) hb) | (exact Below.trans (by assumption) (hb.mono (Below.size (by assumption))))))
    (((try go_split_ands); first | (go_at_call 37; (with_reducible refine (hE1.out _).mono ?_); rintro e w8 ⟨rfl, hb⟩) | (go_at_call 38; (with_reducible refine (hE2.out _).mono ?_); rintro e w8 ⟨rfl, hb⟩) | (go_at_call 39; (with_reducible refine (hR1.out _ (by assumption)).mono ?_); rintro e w8 ⟨rfl, hb⟩) | (go_at_call 40; (with_reducible refine (hR2.out _).mono ?_); rintro e w8 ⟨rfl, hb⟩)))
  all_goals (try go_wp2_with fail)
  all_goals
    go_ret
    go_split_ands
    exact ⟨ret_b (by first | rfl | (simp; done) | (cases y <;> rfl)), by assumption⟩

set_option maxRecDepth 20000 in
set_option maxHeartbeats 4000000 in
theorem chunkRooms_no (k c l m b i : Int) (w : World) (hw : Lw w) (b0 : 0 ≤ b) (h : rightB k c l m b = false) :
    Calls Tryd.prog 10 #[.agg #[.int .i64 k, .int .i64 c, .int .i64 l, .int .i64 m, .int .u64 b], .int .i64 i] w fun e w' => e = .returned (.bool true) ∧ Below w.heap.size w w' := by
  have hw1 := Lib.hid (hw.alloc (.cells #[.int .i64 k, .int .i64 c, .int .i64 l, .int .i64 m, .int .u64 b] 47))
  clear hw
  have hA := (Below.refl w.heap.size w).alloc (Nat.le_refl _) (.cells #[.int .i64 k, .int .i64 c, .int .i64 l, .int .i64 m, .int .u64 b] 47)
  have hk0 := C5.new w k c l m b 47
  have hR := Lib.hid (fun w (hw : Lw w) => show Calls Tryd.prog 32 #[.agg #[.int .i64 k, .int .i64 c, .int .i64 l, .int .i64 m, .int .u64 b]] w fun e w' => e = .returned (.bool false) ∧ Below w.heap.size w w' from by
    have := refRight_any k c l m b w hw.2.2.1 hw.2.2.2.1 b0
    rwa [h] at this)
  obtain ⟨v, hB1, hB2⟩ := bit_both i
  replace hB1 := Lib.hid hB1
  replace hB2 := Lib.hid hB2
  have hv : (v == v) = true := by simp
  clear h
  go_enter Tryd.func10, Tryd.ntmps10
  go_wp2_with fail
  refine (awake10 _ hw1.out).mono ?_
  rintro e w1 ⟨rfl, hb1⟩
  have hw2 := Lib.hid (hw1.out.keep hb1)
  have hk1 := hk0.keep hb1
  have hB1' : Below w.heap.size w w1 := hA.trans (hb1.mono (by simp))
  clear hw1 hk0 hA hb1
  have hk1' := Lib.hid hk1
  obtain ⟨x0, x1, x2, x3, x4⟩ := hk1
  go_wp2_with fail
  refine (hR.out _ hw2.out).mono ?_
  rintro e w2 ⟨rfl, hb2⟩
  have hw3 := Lib.hid (hw2.out.keep hb2)
  have hB2' : Below w.heap.size w w2 := hB1'.trans (hb2.mono hB1'.size)
  have hk2 := Lib.hid (hk1'.out.keep hb2)
  clear hw2 hk1' hB1' hb2 x0 x1 x2 x3 x4
  go_wp2_with fail
  refine (hB1.out _ hw3.out).mono ?_
  rintro e w3 ⟨rfl, hb3⟩
  have hw4 : Lw w3 := hw3.out.keep hb3
  have hB3' : Below w.heap.size w w3 := hB2'.trans (hb3.mono hB2'.size)
  have hk3 := hk2.out.keep hb3
  clear hw3 hk2 hB2' hb3
  obtain ⟨x0, x1, x2, x3, x4⟩ := hk3
  go_wp2_with fail
  refine (hB2.out _).mono ?_
  rintro e w4 ⟨rfl, rfl⟩
  have hd4 : Lw w3.drew := hw4
  have hdB : Below w.heap.size w w3.drew := hB3'.drew
  go_wp2_with fail
  refine wp_region_held_drew (S := (fun w' => w'.cell? ⟨w.heap.size, 0, none⟩ = some (.int .i64 k) ∧ w'.cell? ⟨w.heap.size, 1, none⟩ = some (.int .i64 c) ∧ w'.cell? ⟨w.heap.size, 2, none⟩ = some (.int .i64 l) ∧ w'.cell? ⟨w.heap.size, 3, none⟩ = some (.int .i64 m) ∧ w'.cell? ⟨w.heap.size, 4, none⟩ = some (.int .u64 b) ∧ Lw w' ∧ Below w.heap.size w w')) (by kernel_rfl) ?_ (fun hHeld => ?_)
  · (try dsimp only)
    first | exact hHeld | exact ⟨x0, x1, x2, x3, x4, hd4, hdB⟩
  refine takeL 0 (v := ?_) rfl (by kernel_rfl) (by kernel_rfl) (by kernel_rfl) (fun _ _ _ h => h) (by rfl) (by assumption) ?_ ?_
  rotate_left
  · (intro w hSw; (try dsimp only at hSw); go_simp <;> with_reducible rfl)
  try simp only [Act.put, List.setIfInBounds_toArray, List.set_cons_zero, List.set_cons_succ]
  refine takeL 1 (v := ?_) rfl (by kernel_rfl) (by kernel_rfl) (by kernel_rfl) (fun _ _ _ h => h) (by rfl) (by assumption) ?_ ?_
  rotate_left
  · (intro w hSw; (try dsimp only at hSw); go_simp <;> with_reducible rfl)
  try simp only [Act.put, List.setIfInBounds_toArray, List.set_cons_zero, List.set_cons_succ]
  refine takeL 2 (v := ?_) rfl (by kernel_rfl) (by kernel_rfl) (by kernel_rfl) (fun _ _ _ h => h) (by rfl) (by assumption) ?_ ?_
  rotate_left
  · (intro w hSw; (try dsimp only at hSw); go_simp <;> with_reducible rfl)
  try simp only [Act.put, List.setIfInBounds_toArray, List.set_cons_zero, List.set_cons_succ]
  refine takeL 3 (v := ?_) rfl (by kernel_rfl) (by kernel_rfl) (by kernel_rfl) (fun _ _ _ h => h) (by rfl) (by assumption) ?_ ?_
  rotate_left
  · (intro w hSw; (try dsimp only at hSw); go_simp <;> with_reducible rfl)
  try simp only [Act.put, List.setIfInBounds_toArray, List.set_cons_zero, List.set_cons_succ]
  refine takeL 4 (v := ?_) rfl (by kernel_rfl) (by kernel_rfl) (by kernel_rfl) (fun _ _ _ h => h) (by rfl) (by assumption) ?_ ?_
  rotate_left
  · (intro w hSw; (try dsimp only at hSw); go_simp <;> with_reducible rfl)
  try simp only [Act.put, List.setIfInBounds_toArray, List.set_cons_zero, List.set_cons_succ]
  refine idleL 5 rfl (by kernel_rfl) (by kernel_rfl) (by kernel_rfl) (fun _ _ _ h => h) (by rfl) (by assumption) ?_
  try simp only [Act.put, List.setIfInBounds_toArray, List.set_cons_zero, List.set_cons_succ]
  refine idleL 6 rfl (by kernel_rfl) (by kernel_rfl) (by kernel_rfl) (fun _ _ _ h => h) (by rfl) (by assumption) ?_
  try simp only [Act.put, List.setIfInBounds_toArray, List.set_cons_zero, List.set_cons_succ]
  refine idleL 7 rfl (by kernel_rfl) (by kernel_rfl) (by kernel_rfl) (fun _ _ _ h => h) (by rfl) (by assumption) ?_
  try simp only [Act.put, List.setIfInBounds_toArray, List.set_cons_zero, List.set_cons_succ]
  refine idleL 8 rfl (by kernel_rfl) (by kernel_rfl) (by kernel_rfl) (fun _ _ _ h => h) (by rfl) (by assumption) ?_
  try simp only [Act.put, List.setIfInBounds_toArray, List.set_cons_zero, List.set_cons_succ]
  refine idleL 9 rfl (by kernel_rfl) (by kernel_rfl) (by kernel_rfl) (fun _ _ _ h => h) (by rfl) (by assumption) ?_
  try simp only [Act.put, List.setIfInBounds_toArray, List.set_cons_zero, List.set_cons_succ]
  refine idleL 10 rfl (by kernel_rfl) (by kernel_rfl) (by kernel_rfl) (fun _ _ _ h => h) (by rfl) (by assumption) ?_
  try simp only [Act.put, List.setIfInBounds_toArray, List.set_cons_zero, List.set_cons_succ]
  refine idleL 11 rfl (by kernel_rfl) (by kernel_rfl) (by kernel_rfl) (fun _ _ _ h => h) (by rfl) (by assumption) ?_
  try simp only [Act.put, List.setIfInBounds_toArray, List.set_cons_zero, List.set_cons_succ]
  refine idleL 12 rfl (by kernel_rfl) (by kernel_rfl) (by kernel_rfl) (fun _ _ _ h => h) (by rfl) (by assumption) ?_
  try simp only [Act.put, List.setIfInBounds_toArray, List.set_cons_zero, List.set_cons_succ]
  refine idleL 13 rfl (by kernel_rfl) (by kernel_rfl) (by kernel_rfl) (fun _ _ _ h => h) (by rfl) (by assumption) ?_
  try simp only [Act.put, List.setIfInBounds_toArray, List.set_cons_zero, List.set_cons_succ]
  refine idleL 14 rfl (by kernel_rfl) (by kernel_rfl) (by kernel_rfl) (fun _ _ _ h => h) (by rfl) (by assumption) ?_
  try simp only [Act.put, List.setIfInBounds_toArray, List.set_cons_zero, List.set_cons_succ]
  refine idleL 15 rfl (by kernel_rfl) (by kernel_rfl) (by kernel_rfl) (fun _ _ _ h => h) (by rfl) (by assumption) ?_
  try simp only [Act.put, List.setIfInBounds_toArray, List.set_cons_zero, List.set_cons_succ]
  refine idleL 16 rfl (by kernel_rfl) (by kernel_rfl) (by kernel_rfl) (fun _ _ _ h => h) (by rfl) (by assumption) ?_
  try simp only [Act.put, List.setIfInBounds_toArray, List.set_cons_zero, List.set_cons_succ]
  refine takeL 17 (v := ?_) rfl (by kernel_rfl) (by kernel_rfl) (by kernel_rfl) (fun _ _ _ h => h) (by rfl) (by assumption) ?_ ?_
  rotate_left
  · (intro w hSw; (try dsimp only at hSw); go_simp <;> with_reducible rfl)
  try simp only [Act.put, List.setIfInBounds_toArray, List.set_cons_zero, List.set_cons_succ]
  refine takeL 18 (v := ?_) rfl (by kernel_rfl) (by kernel_rfl) (by kernel_rfl) (fun _ _ _ h => h) (by rfl) (by assumption) ?_ ?_
  rotate_left
  · (intro w hSw; (try dsimp only at hSw); go_simp <;> with_reducible rfl)
  try simp only [Act.put, List.setIfInBounds_toArray, List.set_cons_zero, List.set_cons_succ]
  refine takeL 19 (v := ?_) rfl (by kernel_rfl) (by kernel_rfl) (by kernel_rfl) (fun _ _ _ h => h) (by rfl) (by assumption) ?_ ?_
  rotate_left
  · (intro w hSw; (try dsimp only at hSw); go_simp <;> with_reducible rfl)
  try simp only [Act.put, List.setIfInBounds_toArray, List.set_cons_zero, List.set_cons_succ]
  refine wpAnyH_done (by kernel_rfl) ?_ _
  go_wp2_with fail
  go_ret
  exact ⟨rfl, hdB⟩

theorem chunkRooms (k c l m b i : Int) (w : World) (hw : Lw w) (b0 : 0 ≤ b) :
    Calls Tryd.prog 10 #[.agg #[.int .i64 k, .int .i64 c, .int .i64 l, .int .i64 m, .int .u64 b], .int .i64 i] w fun e w' => e = .returned (.bool true) ∧ Below w.heap.size w w' := by
  cases h : rightB k c l m b
  · exact chunkRooms_no k c l m b i w hw b0 h
  · exact chunkRooms_yes k c l m b i w hw b0 h
end Go.Proofs.YtnhbpenejlocaaaDoor