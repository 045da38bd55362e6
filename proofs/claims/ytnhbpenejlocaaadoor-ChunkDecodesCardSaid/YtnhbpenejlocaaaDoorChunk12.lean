/-
  The laws of package chunk: ChunkEncodes, ChunkDecodes.
-/
import Derived.Test.YtnhbpenejlocaaaDoorChunk11
set_option linter.unusedVariables false
namespace Go.Proofs.YtnhbpenejlocaaaDoor
open Go.RowKit

theorem Lw.cell {w w1 : World} (h : Lw w) (hb : Below w.heap.size w w1) : Lw w1 := h.keep hb

set_option maxRecDepth 20000 in
set_option maxHeartbeats 2000000 in
theorem chunkEncodes_yes (k c l m b : Int) (w : World) (hw : Lw w) (b0 : 0 ≤ b) (h : rightB k c l m b = true) :
    Calls Tryd.prog 8 #[.agg #[.int .i64 k, .int .i64 c, .int .i64 l, .int .i64 m, .int .u64 b]] w fun e w' => e = .returned (.bool true) ∧ Below w.heap.size w w' := by
  have hw1 := Lib.hid (hw.alloc (.cells #[.int .i64 k, .int .i64 c, .int .i64 l, .int .i64 m, .int .u64 b] 47))
  clear hw
  have HR := Lib.hid (fun w (hw : Lw w) => show Calls Tryd.prog 31 #[.agg #[.int .i64 k, .int .i64 c, .int .i64 l, .int .i64 m, .int .u64 b]] w fun e w' => e = .returned (.bool true) ∧ Below w.heap.size w w' from by
    have := right_any k c l m b w hw.2.2.1 hw.2.2.2.1 b0
    rwa [h] at this)
  have HS := Lib.hid (fun w (hw : Lw w) => show Calls Tryd.prog 32 #[.agg #[.int .i64 k, .int .i64 c, .int .i64 l, .int .i64 m, .int .u64 b]] w fun e w' => e = .returned (.bool true) ∧ Below w.heap.size w w' from by
    have := refRight_any k c l m b w hw.2.2.1 hw.2.2.2.1 b0
    rwa [h] at this)
  have hk0 := C5.new w k c l m b 47
  have hA := (Below.refl w.heap.size w).alloc (Nat.le_refl _) (.cells #[.int .i64 k, .int .i64 c, .int .i64 l, .int .i64 m, .int .u64 b] 47)
  go_enter Tryd.func8, Tryd.ntmps8
  go_wp2_with fail
  refine (awake10 _ hw1.out).mono ?_
  rintro e w1 ⟨rfl, hb1⟩
  have hw2 := Lib.hid (hw1.out.keep hb1)
  have hk1 := hk0.keep hb1
  have hB1 : Below w.heap.size w w1 := hA.trans (hb1.mono (by simp))
  clear hw1 hk0 hA hb1
  have hk1' := Lib.hid hk1
  obtain ⟨c0, c1, c2, c3, c4⟩ := hk1
  go_wp2_with fail
  refine (enc_yes k c l m b _ hw2.out b0 h).mono ?_
  rintro e w2 ⟨rfl, hb2⟩
  have hw3 := Lib.hid (hw2.out.keep hb2)
  have hB2 : Below w.heap.size w w2 := hB1.trans (hb2.mono hB1.size)
  have hk2 := hk1'.out.keep hb2
  clear hw2 hk1' hB1 hb2 c0 c1 c2 c3 c4
  have hk2' := Lib.hid hk2
  obtain ⟨c0, c1, c2, c3, c4⟩ := hk2
  go_wp2_with fail
  refine (refEnc_yes k c l m b _ hw3.out b0 h).mono ?_
  rintro e w3 ⟨rfl, hb3⟩
  have hw4 := (hw3.out.keep hb3)
  have hB3 : Below w.heap.size w w3 := hB2.trans (hb3.mono hB2.size)
  have hk3 := hk2'.out.keep hb3
  clear hw3 hk2' hB2 hb3 c0 c1 c2 c3 c4
  obtain ⟨c0, c1, c2, c3, c4⟩ := hk3
  have hq : (wordI k c l m b == wordI k c l m b) = true := by simp
  have hd4 : Lw w3.drew := hw4
  have hdB : Below w.heap.size w w3.drew := hB3.drew
  go_wp2_with fail
  go_region_held3 (fun w' => w'.cell? ⟨w.heap.size, 0, none⟩ = some (.int .i64 k) ∧ w'.cell? ⟨w.heap.size, 1, none⟩ = some (.int .i64 c) ∧ w'.cell? ⟨w.heap.size, 2, none⟩ = some (.int .i64 l) ∧ w'.cell? ⟨w.heap.size, 3, none⟩ = some (.int .i64 m) ∧ w'.cell? ⟨w.heap.size, 4, none⟩ = some (.int .u64 b) ∧ Lw w' ∧ Below w.heap.size w w')
    (((try go_split_ands); refine ⟨?_, ?_, ?_, ?_, ?_, ?_, ?_⟩ <;> first | assumption | (exact Lw.keep (by assumption) hb) | (exact cellK (by assumption) hb) | (exact Below.trans (by assumption) (hb.mono (Below.size (by assumption))))))
    (((try go_split_ands); first | (go_at_call 31; (with_reducible refine (HR.out _ (by assumption)).mono ?_); rintro e w8 ⟨rfl, hb⟩) | (go_at_call 32; (with_reducible refine (HS.out _ (by assumption)).mono ?_); rintro e w8 ⟨rfl, hb⟩)))
  go_wp2_with fail
  go_ret
  go_split_ands
  exact ⟨rfl, by assumption⟩

set_option maxRecDepth 20000 in
set_option maxHeartbeats 2000000 in
theorem chunkEncodes_no (k c l m b : Int) (w : World) (hw : Lw w) (b0 : 0 ≤ b) (h : rightB k c l m b = false) :
    Calls Tryd.prog 8 #[.agg #[.int .i64 k, .int .i64 c, .int .i64 l, .int .i64 m, .int .u64 b]] w fun e w' => e = .returned (.bool true) ∧ Below w.heap.size w w' := by
  have hw1 := Lib.hid (hw.alloc (.cells #[.int .i64 k, .int .i64 c, .int .i64 l, .int .i64 m, .int .u64 b] 47))
  clear hw
  have HR := Lib.hid (fun w (hw : Lw w) => show Calls Tryd.prog 31 #[.agg #[.int .i64 k, .int .i64 c, .int .i64 l, .int .i64 m, .int .u64 b]] w fun e w' => e = .returned (.bool false) ∧ Below w.heap.size w w' from by
    have := right_any k c l m b w hw.2.2.1 hw.2.2.2.1 b0
    rwa [h] at this)
  have HS := Lib.hid (fun w (hw : Lw w) => show Calls Tryd.prog 32 #[.agg #[.int .i64 k, .int .i64 c, .int .i64 l, .int .i64 m, .int .u64 b]] w fun e w' => e = .returned (.bool false) ∧ Below w.heap.size w w' from by
    have := refRight_any k c l m b w hw.2.2.1 hw.2.2.2.1 b0
    rwa [h] at this)
  have hk0 := C5.new w k c l m b 47
  have hA := (Below.refl w.heap.size w).alloc (Nat.le_refl _) (.cells #[.int .i64 k, .int .i64 c, .int .i64 l, .int .i64 m, .int .u64 b] 47)
  go_enter Tryd.func8, Tryd.ntmps8
  go_wp2_with fail
  refine (awake10 _ hw1.out).mono ?_
  rintro e w1 ⟨rfl, hb1⟩
  have hw2 := Lib.hid (hw1.out.keep hb1)
  have hk1 := hk0.keep hb1
  have hB1 : Below w.heap.size w w1 := hA.trans (hb1.mono (by simp))
  clear hw1 hk0 hA hb1
  have hk1' := Lib.hid hk1
  obtain ⟨c0, c1, c2, c3, c4⟩ := hk1
  go_wp2_with fail
  refine (enc_no k c l m b _ hw2.out b0 h).mono ?_
  rintro e w2 ⟨rfl, hb2⟩
  have hw3 := Lib.hid (hw2.out.keep hb2)
  have hB2 : Below w.heap.size w w2 := hB1.trans (hb2.mono hB1.size)
  have hk2 := hk1'.out.keep hb2
  clear hw2 hk1' hB1 hb2 c0 c1 c2 c3 c4
  have hk2' := Lib.hid hk2
  obtain ⟨c0, c1, c2, c3, c4⟩ := hk2
  go_wp2_with fail
  refine (refEnc_no k c l m b _ hw3.out b0 h).mono ?_
  rintro e w3 ⟨rfl, hb3⟩
  have hw4 := (hw3.out.keep hb3)
  have hB3 : Below w.heap.size w w3 := hB2.trans (hb3.mono hB2.size)
  have hk3 := hk2'.out.keep hb3
  clear hw3 hk2' hB2 hb3 c0 c1 c2 c3 c4
  obtain ⟨c0, c1, c2, c3, c4⟩ := hk3
  have hq : (wordI k c l m b == wordI k c l m b) = true := by simp
  have hd4 : Lw w3.drew := hw4
  have hdB : Below w.heap.size w w3.drew := hB3.drew
  go_wp2_with fail
  go_region_held3 (fun w' => w'.cell? ⟨w.heap.size, 0, none⟩ = some (.int .i64 k) ∧ w'.cell? ⟨w.heap.size, 1, none⟩ = some (.int .i64 c) ∧ w'.cell? ⟨w.heap.size, 2, none⟩ = some (.int .i64 l) ∧ w'.cell? ⟨w.heap.size, 3, none⟩ = some (.int .i64 m) ∧ w'.cell? ⟨w.heap.size, 4, none⟩ = some (.int .u64 b) ∧ Lw w' ∧ Below w.heap.size w w')
    (((try go_split_ands); refine ⟨?_, ?_, ?_, ?_, ?_, ?_, ?_⟩ <;> first | assumption | (exact Lw.keep (by assumption) hb) | (exact cellK (by assumption) hb) | (exact Below.trans (by assumption) (hb.mono (Below.size (by assumption))))))
    (((try go_split_ands); first | (go_at_call 31; (with_reducible refine (HR.out _ (by assumption)).mono ?_); rintro e w8 ⟨rfl, hb⟩) | (go_at_call 32; (with_reducible refine (HS.out _ (by assumption)).mono ?_); rintro e w8 ⟨rfl, hb⟩)))
  go_wp2_with fail
  go_ret
  go_split_ands
  exact ⟨rfl, by assumption⟩

set_option maxRecDepth 20000 in
set_option maxHeartbeats 2000000 in
theorem chunkDecodes_yes (x : Int) (w : World) (hw : Lw w) (h0 : 0 ≤ x) (h1 : x < 18446744073709551616) (h : decB x = true) :
    Calls Tryd.prog 9 #[.int .u64 x] w fun e w' => e = .returned (.bool true) ∧ Below w.heap.size w w' := by
  have hw1 := Lib.hid hw
  clear hw
  have HR := Lib.hid (fun w (hw : Lw w) => dec_yes x w hw h0 h1 h)
  have HS := Lib.hid (fun w (hw : Lw w) => show Calls Tryd.prog 34 #[.int .u64 x] w fun e w' => e = .returned (.tuple #[(.agg #[.int .i64 (getI x 0 3), .int .i64 (getI x 3 2), .int .i64 (getI x 5 6), .int .i64 (getI x 11 13), .int .u64 (getI x 24 8)]), .bool true]) ∧ Below w.heap.size w w' from by
    have := refDecode_any x w hw h0 h1
    rwa [show decV x = (.agg #[.int .i64 (getI x 0 3), .int .i64 (getI x 3 2), .int .i64 (getI x 5 6), .int .i64 (getI x 11 13), .int .u64 (getI x 24 8)]) by unfold decV; rw [if_pos h], h] at this)
  have q0 : (getI x 0 3 == getI x 0 3) = true := by simp
  have q1 : (getI x 3 2 == getI x 3 2) = true := by simp
  have q2 : (getI x 5 6 == getI x 5 6) = true := by simp
  have q3 : (getI x 11 13 == getI x 11 13) = true := by simp
  have q4 : (getI x 24 8 == getI x 24 8) = true := by simp
  clear h
  go_enter Tryd.func9, Tryd.ntmps9
  go_wp2_with fail
  refine (awake10 _ hw1.out).mono ?_
  rintro e w1 ⟨rfl, hb1⟩
  have hw2 := Lib.hid (hw1.out.keep hb1)
  go_wp2_with fail
  refine (HR.out _ hw2.out).mono ?_
  rintro e w2 ⟨rfl, hb2⟩
  have hw3 := Lib.hid ((hw2.out.keep hb2).alloc (.cells #[.int .i64 (getI x 0 3), .int .i64 (getI x 3 2), .int .i64 (getI x 5 6), .int .i64 (getI x 11 13), .int .u64 (getI x 24 8)] 47))
  have hB2 : Below w.heap.size w w2 := hb1.trans (hb2.mono hb1.size)
  have hB3 : Below w.heap.size w (w2.alloc (.cells #[.int .i64 (getI x 0 3), .int .i64 (getI x 3 2), .int .i64 (getI x 5 6), .int .i64 (getI x 11 13), .int .u64 (getI x 24 8)] 47)) := hB2.alloc hB2.size _
  have hk := C5.new w2 (getI x 0 3) (getI x 3 2) (getI x 5 6) (getI x 11 13) (getI x 24 8) 47
  clear hw1 hw2 hb1 hb2 hB2
  go_wp2_with fail
  refine (HS.out _ hw3.out).mono ?_
  rintro e w3 ⟨rfl, hb3⟩
  have hB4 : Below w.heap.size w w3 := hB3.trans (hb3.mono hB3.size)
  have hk2 := hk.keep hb3
  have hlt : w2.heap.size < w3.heap.size := hk2.lt
  obtain ⟨c0, c1, c2, c3, c4⟩ := hk2
  clear hk hw3 hB3 hb3
  go_wp2_with fail
  go_ret
  exact ⟨rfl, hB4.alloc hB4.size _⟩

set_option maxRecDepth 20000 in
set_option maxHeartbeats 2000000 in
theorem chunkDecodes_no (x : Int) (w : World) (hw : Lw w) (h0 : 0 ≤ x) (h1 : x < 18446744073709551616) (h : decB x = false) :
    Calls Tryd.prog 9 #[.int .u64 x] w fun e w' => e = .returned (.bool true) ∧ Below w.heap.size w w' := by
  have hw1 := Lib.hid hw
  clear hw
  have HR := Lib.hid (fun w (hw : Lw w) => dec_no x w hw h0 h1 h)
  have HS := Lib.hid (fun w (hw : Lw w) => show Calls Tryd.prog 34 #[.int .u64 x] w fun e w' => e = .returned (.tuple #[(.agg #[.int .i64 0, .int .i64 0, .int .i64 0, .int .i64 0, .int .u64 0]), .bool false]) ∧ Below w.heap.size w w' from by
    have := refDecode_any x w hw h0 h1
    rwa [show decV x = (.agg #[.int .i64 0, .int .i64 0, .int .i64 0, .int .i64 0, .int .u64 0]) by unfold decV; rw [if_neg (by simp [h])], h] at this)
  clear h
  go_enter Tryd.func9, Tryd.ntmps9
  go_wp2_with fail
  refine (awake10 _ hw1.out).mono ?_
  rintro e w1 ⟨rfl, hb1⟩
  have hw2 := Lib.hid (hw1.out.keep hb1)
  go_wp2_with fail
  refine (HR.out _ hw2.out).mono ?_
  rintro e w2 ⟨rfl, hb2⟩
  have hw3 := Lib.hid ((hw2.out.keep hb2).alloc (.cells #[.int .i64 0, .int .i64 0, .int .i64 0, .int .i64 0, .int .u64 0] 47))
  have hB2 : Below w.heap.size w w2 := hb1.trans (hb2.mono hb1.size)
  have hB3 : Below w.heap.size w (w2.alloc (.cells #[.int .i64 0, .int .i64 0, .int .i64 0, .int .i64 0, .int .u64 0] 47)) := hB2.alloc hB2.size _
  have hk := C5.new w2 0 0 0 0 0 47
  clear hw1 hw2 hb1 hb2 hB2
  go_wp2_with fail
  refine (HS.out _ hw3.out).mono ?_
  rintro e w3 ⟨rfl, hb3⟩
  have hB4 : Below w.heap.size w w3 := hB3.trans (hb3.mono hB3.size)
  have hk2 := hk.keep hb3
  have hlt : w2.heap.size < w3.heap.size := hk2.lt
  obtain ⟨c0, c1, c2, c3, c4⟩ := hk2
  clear hk hw3 hB3 hb3
  go_wp2_with fail
  go_ret
  exact ⟨rfl, hB4.alloc hB4.size _⟩

end Go.Proofs.YtnhbpenejlocaaaDoor