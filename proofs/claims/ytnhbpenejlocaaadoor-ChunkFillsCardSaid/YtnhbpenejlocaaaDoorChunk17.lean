/-
  The laws of package chunk: ChunkFills.
-/
import Derived.Test.YtnhbpenejlocaaaDoorChunk16
set_option linter.unusedVariables false
namespace Go.Proofs.YtnhbpenejlocaaaDoor
open Go.RowKit

/-- the lowest i blocks -/
def lowP (i : Nat) : Nat := 2 ^ i - 1
def fillB (c i : Nat) : Bool := decide (roomI c (lowP i) = i) && decide (lowP i ||| 2 ^ i = lowP (i + 1)) && decide (lowP i < 256)
theorem fill_0 : ∀ i : Nat, i < 8 → fillB 0 i = true := by decide +kernel
theorem fill_1 : ∀ i : Nat, i < 4 → fillB 1 i = true := by decide +kernel
theorem fill_2 : ∀ i : Nat, i < 2 → fillB 2 i = true := by decide +kernel
theorem lowP_bd : ∀ i : Nat, i ≤ 8 → lowP i < 256 ∧ (lowP i = 0 ↔ i = 0) := by decide +kernel

set_option maxRecDepth 20000 in
set_option maxHeartbeats 3000000 in
theorem chunkFills_0 (k : Int) (w : World) (hw : Lw w) (k0 : 0 ≤ k) (k1 : k ≤ 255) (hk : k % 3 = 0) :
    Calls Tryd.prog 13 #[.int .u8 k] w fun e w' => e = .returned (.bool true) ∧ Below w.heap.size w w' := by
  replace hk := Lib.hid hk
  have hw1 := Lib.hid hw
  clear hw
  go_enter Tryd.func13, Tryd.ntmps13
  go_wp2_with fail
  refine (awake10 _ hw1.out).mono ?_
  rintro e w1 ⟨rfl, hb1⟩
  have hw2 := Lib.hid (hw1.out.keep hb1)
  go_wp2_with fail
  simp only [hk.out]
  refine (refMny_0 0 _ rfl).mono ?_
  rintro e w2 ⟨rfl, rfl⟩
  go_wp2_with fail
  (try simp only [hk.out])
  refine (enc_yes 1 0 0 0 0 _ hw2.out (by decide) (by decide +kernel)).mono ?_
  rintro e w2 ⟨rfl, hb2⟩
  have hw3 := Lib.hid (hw2.out.keep hb2)
  have hB2 : Below w.heap.size w w2 := hb1.trans (hb2.mono hb1.size)
  clear hk k0 k1 hw1 hw2 hb1 hb2
  go_wp2_with fail
  go_loopw [6, 8] (fun v k wr => ∃ i : Nat, i ≤ 8 ∧ k = .int .i64 i ∧ v = .int .u64 (wordI 1 0 0 0 (lowP i : Nat)) ∧ Lw wr ∧ Below w.heap.size w wr) (fun _ k _ => 9 - (intOf k).toNat)
  case atStart => exact ⟨0, by omega, rfl, rfl, hw3.out, hB2⟩
  case round =>
    obtain ⟨i, hi, rfl, rfl, hL, hB⟩ := hrel
    have hL0 := Lib.hid hL
    clear hL hw3 hB2
    obtain ⟨hp1, hpz⟩ := lowP_bd i (by omega)
    by_cases hlt : i < 8
    · have hlt' : (i : Int) < 8 := by omega
      have hf := fill_0 i hlt
      unfold fillB at hf
      simp only [Bool.and_eq_true, decide_eq_true_eq] at hf
      obtain ⟨⟨f1, f2⟩, f3⟩ := hf
      have hrr : rightB 1 0 0 0 (lowP i : Nat) = true := by
        have h8 : lowP i < 256 := by
          have : 2 ^ i < 2 ^ 8 := Nat.pow_lt_pow_right (by omega) hlt
          unfold lowP; omega
        exact run_right 0 (lowP i : Nat) (by omega)
      have hOr := Lib.hid (show bits .or .u64 (wordI 1 0 0 0 (lowP i : Nat)) (16777216 * pwI i) = wordI 1 0 0 0 (lowP (i + 1) : Nat) from by rw [← f2]; exact word_or 0 (lowP i) i (by omega) (by omega) (by omega) (by omega))
      have hDec := Lib.hid (fun w (hw : Lw w) => dec_word 1 0 0 0 (lowP i : Nat) w hw (by omega) hrr)
      have hRm := Lib.hid (fun w (hw : Lw w) => show Calls Tryd.prog 39 #[.agg #[.int .i64 1, .int .i64 0, .int .i64 0, .int .i64 0, .int .u64 (lowP i : Nat)]] w fun e w' => e = .returned (.int .i64 i) ∧ Below w.heap.size w w' from
        (room_run 0 0 0 (lowP i) w hw (by omega)).mono (fun e w' ⟨h, k⟩ => ⟨by rw [h, ← f1]; rfl, k⟩))
      have hBit := Lib.hid (fun w (hw : Lw w) => bit_any i w hw (by omega))
      clear f1 f2 f3 hrr
      generalize hP2' : lowP (i + 1) = p2 at *
      have hP2 := Lib.hid hP2'
      clear hP2'
      generalize lowP i = p at *
      by_cases h0 : i = 0
      · have hp0 : p = 0 := hpz.2 h0
        replace hpz := Lib.hid hpz
        subst h0
        have hE := Lib.hid (fun w => show Calls Tryd.prog 37 #[.agg #[.int .i64 1, .int .i64 0, .int .i64 0, .int .i64 0, .int .u64 p]] w fun e w' => e = .returned (.bool true) ∧ Below w.heap.size w w' from
          (empty_any 1 0 0 0 p w).mono (fun e w' ⟨h, k⟩ => ⟨by rw [h]; simp [hp0], k⟩))
        clear hp0
        go_wp2_with fail
        refine (hDec.out _ hL0.out).mono ?_
        rintro e w2 ⟨rfl, hb2⟩
        have hL2 := Lib.hid ((hL0.out.keep hb2).alloc (.cells #[.int .i64 1, .int .i64 0, .int .i64 0, .int .i64 0, .int .u64 p] 47))
        have hB2' : Below w.heap.size w w2 := hB.trans (hb2.mono hB.size)
        have hB2 := hB2'.alloc hB2'.size (.cells #[.int .i64 1, .int .i64 0, .int .i64 0, .int .i64 0, .int .u64 p] 47)
        have hC2 := Lib.hid (C5.new w2 1 0 0 0 p 47)
        clear hB2' hb2
        go_wp2_with fail
        refine (hRm.out _ hL2.out).mono ?_
        rintro e w3 ⟨rfl, hb3⟩
        have hL3 := Lib.hid (hL2.out.keep hb3)
        have hB3 : Below w.heap.size w w3 := hB2.trans (hb3.mono hB2.size)
        have hC3 := hC2.out.keep hb3
        have hlt3 := hC3.lt
        obtain ⟨x0, x1, x2, x3, x4⟩ := hC3
        clear hL2 hB2 hC2 hb3
        go_wp2_with fail
        refine (hE.out _).mono ?_
        rintro e w4 ⟨rfl, hb4⟩
        have hL4 := Lib.hid (hL3.out.keep hb4)
        have hB4 : Below w.heap.size w w4 := hB3.trans (hb4.mono hB3.size)
        clear x0 x1 x2 x3 x4 hL3 hB3 hb4
        go_wp2_with fail
        refine (hBit.out _ hL4.out).mono ?_
        rintro e w5 ⟨rfl, hb5⟩
        have hL5 := hL4.out.keep hb5
        have hB5 : Below w.heap.size w w5 := hB4.trans (hb5.mono hB4.size)
        clear hL4 hB4 hb5
        go_wp2_with fail
        go_roundw
        case rel => exact ⟨0 + 1, by omega, by go_num, by rw [hOr.out, hP2.out], hL5, hB5⟩
        case measure => first | (simp [intOf]; done) | (simp [intOf]; omega)
      · have hp0 : ¬ p = 0 := fun h => h0 (hpz.1 h)
        have h0' : ¬ (i : Int) = 0 := by omega
        clear hpz
        have hE := Lib.hid (fun w => show Calls Tryd.prog 37 #[.agg #[.int .i64 1, .int .i64 0, .int .i64 0, .int .i64 0, .int .u64 p]] w fun e w' => e = .returned (.bool false) ∧ Below w.heap.size w w' from
          (empty_any 1 0 0 0 p w).mono (fun e w' ⟨h, k⟩ => ⟨by rw [h]; simp [hp0], k⟩))
        clear hp0
        go_wp2_with fail
        refine (hDec.out _ hL0.out).mono ?_
        rintro e w2 ⟨rfl, hb2⟩
        have hL2 := Lib.hid ((hL0.out.keep hb2).alloc (.cells #[.int .i64 1, .int .i64 0, .int .i64 0, .int .i64 0, .int .u64 p] 47))
        have hB2' : Below w.heap.size w w2 := hB.trans (hb2.mono hB.size)
        have hB2 := hB2'.alloc hB2'.size (.cells #[.int .i64 1, .int .i64 0, .int .i64 0, .int .i64 0, .int .u64 p] 47)
        have hC2 := Lib.hid (C5.new w2 1 0 0 0 p 47)
        clear hB2' hb2
        go_wp2_with fail
        refine (hRm.out _ hL2.out).mono ?_
        rintro e w3 ⟨rfl, hb3⟩
        have hL3 := Lib.hid (hL2.out.keep hb3)
        have hB3 : Below w.heap.size w w3 := hB2.trans (hb3.mono hB2.size)
        have hC3 := hC2.out.keep hb3
        have hlt3 := hC3.lt
        obtain ⟨x0, x1, x2, x3, x4⟩ := hC3
        clear hL2 hB2 hC2 hb3
        go_wp2_with fail
        refine (hE.out _).mono ?_
        rintro e w4 ⟨rfl, hb4⟩
        have hL4 := Lib.hid (hL3.out.keep hb4)
        have hB4 : Below w.heap.size w w4 := hB3.trans (hb4.mono hB3.size)
        clear x0 x1 x2 x3 x4 hL3 hB3 hb4
        go_wp2_with fail
        refine (hBit.out _ hL4.out).mono ?_
        rintro e w5 ⟨rfl, hb5⟩
        have hL5 := hL4.out.keep hb5
        have hB5 : Below w.heap.size w w5 := hB4.trans (hb5.mono hB4.size)
        clear hL4 hB4 hb5
        go_wp2_with fail
        go_roundw
        case rel => exact ⟨i + 1, by omega, by go_num, by rw [hOr.out, hP2.out], hL5, hB5⟩
        case measure => first | (simp [intOf]; done) | (simp [intOf]; omega)
    · obtain rfl : i = 8 := by omega
      have hDec := Lib.hid (fun w (hw : Lw w) => show Calls Tryd.prog 33 #[.int .u64 (wordI 1 0 0 0 (lowP 8 : Nat))] w fun e w' => e = .returned (.tuple #[.agg #[.int .i64 1, .int .i64 0, .int .i64 0, .int .i64 0, .int .u64 255], .bool true]) ∧ Below w.heap.size w w' from dec_word 1 0 0 0 255 w hw (by decide) (by decide +kernel))
      have hRm := Lib.hid (fun w (hw : Lw w) => show Calls Tryd.prog 39 #[.agg #[.int .i64 1, .int .i64 0, .int .i64 0, .int .i64 0, .int .u64 255]] w fun e w' => e = .returned (.int .i64 (-1)) ∧ Below w.heap.size w w' from
        (room_run 0 0 0 255 w hw (by omega)).mono (fun e w' ⟨h, k⟩ => ⟨by rw [h, show roomI 0 255 = -1 by decide +kernel], k⟩))
      clear hp1 hpz hlt hi
      generalize wordI 1 0 0 0 (lowP 8 : Nat) = W at *
      go_wp2_with fail
      refine (hDec.out _ hL0.out).mono ?_
      rintro e w2 ⟨rfl, hb2⟩
      have hL2 := Lib.hid ((hL0.out.keep hb2).alloc (.cells #[.int .i64 1, .int .i64 0, .int .i64 0, .int .i64 0, .int .u64 255] 47))
      have hB2' : Below w.heap.size w w2 := hB.trans (hb2.mono hB.size)
      have hB2 := hB2'.alloc hB2'.size (.cells #[.int .i64 1, .int .i64 0, .int .i64 0, .int .i64 0, .int .u64 255] 47)
      have hC2 := C5.new w2 1 0 0 0 255 47
      clear hB2' hb2 hL0 hB
      obtain ⟨w9, hw9⟩ : ∃ v, v = w2.alloc (.cells #[.int .i64 1, .int .i64 0, .int .i64 0, .int .i64 0, .int .u64 255] 47) := ⟨_, rfl⟩
      rw [← hw9] at hL2 hB2 hC2
      have hlt9 := hC2.lt
      obtain ⟨x0, x1, x2, x3, x4⟩ := hC2
      have hd9 : Lw w9.drew := hL2.out
      have hD9 : Below w.heap.size w w9.drew := hB2.drew
      go_wp2_with fail
      rw [← hw9]
      clear hw9
      go_region_held3 (fun w' => w'.cell? ⟨w2.heap.size, 0, none⟩ = some (.int .i64 1) ∧ w'.cell? ⟨w2.heap.size, 1, none⟩ = some (.int .i64 0) ∧ w'.cell? ⟨w2.heap.size, 2, none⟩ = some (.int .i64 0) ∧ w'.cell? ⟨w2.heap.size, 3, none⟩ = some (.int .i64 0) ∧ w'.cell? ⟨w2.heap.size, 4, none⟩ = some (.int .u64 255) ∧ Lw w' ∧ Below w.heap.size w w')
        (((try go_split_ands); refine ⟨?_, ?_, ?_, ?_, ?_, ?_, ?_⟩ <;> first | assumption | (exact Lw.keep (by assumption) hb) | (exact cellK (by assumption) hb) | (exact Below.trans (by assumption) (hb.mono (Below.size (by assumption))))))
        (((try go_split_ands); first | (go_at_call 39; (with_reducible refine (hRm.out _ (by assumption)).mono ?_); rintro e w8 ⟨rfl, hb⟩)))
      all_goals (try go_wp2_with fail)
      all_goals
        go_ret
        go_split_ands
        exact ⟨ret_b (by first | rfl | (simp; done) | decide), by assumption⟩

set_option maxRecDepth 20000 in
set_option maxHeartbeats 3000000 in
theorem chunkFills_1 (k : Int) (w : World) (hw : Lw w) (k0 : 0 ≤ k) (k1 : k ≤ 255) (hk : k % 3 = 1) :
    Calls Tryd.prog 13 #[.int .u8 k] w fun e w' => e = .returned (.bool true) ∧ Below w.heap.size w w' := by
  replace hk := Lib.hid hk
  have hw1 := Lib.hid hw
  clear hw
  go_enter Tryd.func13, Tryd.ntmps13
  go_wp2_with fail
  refine (awake10 _ hw1.out).mono ?_
  rintro e w1 ⟨rfl, hb1⟩
  have hw2 := Lib.hid (hw1.out.keep hb1)
  go_wp2_with fail
  simp only [hk.out]
  refine (refMny_1 1 _ rfl).mono ?_
  rintro e w2 ⟨rfl, rfl⟩
  go_wp2_with fail
  (try simp only [hk.out])
  refine (enc_yes 1 1 0 0 0 _ hw2.out (by decide) (by decide +kernel)).mono ?_
  rintro e w2 ⟨rfl, hb2⟩
  have hw3 := Lib.hid (hw2.out.keep hb2)
  have hB2 : Below w.heap.size w w2 := hb1.trans (hb2.mono hb1.size)
  clear hk k0 k1 hw1 hw2 hb1 hb2
  go_wp2_with fail
  go_loopw [6, 8] (fun v k wr => ∃ i : Nat, i ≤ 4 ∧ k = .int .i64 i ∧ v = .int .u64 (wordI 1 1 0 0 (lowP i : Nat)) ∧ Lw wr ∧ Below w.heap.size w wr) (fun _ k _ => 9 - (intOf k).toNat)
  case atStart => exact ⟨0, by omega, rfl, rfl, hw3.out, hB2⟩
  case round =>
    obtain ⟨i, hi, rfl, rfl, hL, hB⟩ := hrel
    have hL0 := Lib.hid hL
    clear hL hw3 hB2
    obtain ⟨hp1, hpz⟩ := lowP_bd i (by omega)
    by_cases hlt : i < 4
    · have hlt' : (i : Int) < 4 := by omega
      have hf := fill_1 i hlt
      unfold fillB at hf
      simp only [Bool.and_eq_true, decide_eq_true_eq] at hf
      obtain ⟨⟨f1, f2⟩, f3⟩ := hf
      have hrr : rightB 1 1 0 0 (lowP i : Nat) = true := by
        have h8 : lowP i < 16 := by
          have : 2 ^ i < 2 ^ 4 := Nat.pow_lt_pow_right (by omega) hlt
          unfold lowP; omega
        exact run_right 1 (lowP i : Nat) (by omega)
      have hOr := Lib.hid (show bits .or .u64 (wordI 1 1 0 0 (lowP i : Nat)) (16777216 * pwI i) = wordI 1 1 0 0 (lowP (i + 1) : Nat) from by rw [← f2]; exact word_or 1 (lowP i) i (by omega) (by omega) (by omega) (by omega))
      have hDec := Lib.hid (fun w (hw : Lw w) => dec_word 1 1 0 0 (lowP i : Nat) w hw (by omega) hrr)
      have hRm := Lib.hid (fun w (hw : Lw w) => show Calls Tryd.prog 39 #[.agg #[.int .i64 1, .int .i64 1, .int .i64 0, .int .i64 0, .int .u64 (lowP i : Nat)]] w fun e w' => e = .returned (.int .i64 i) ∧ Below w.heap.size w w' from
        (room_run 1 0 0 (lowP i) w hw (by omega)).mono (fun e w' ⟨h, k⟩ => ⟨by rw [h, ← f1]; rfl, k⟩))
      have hBit := Lib.hid (fun w (hw : Lw w) => bit_any i w hw (by omega))
      clear f1 f2 f3 hrr
      generalize hP2' : lowP (i + 1) = p2 at *
      have hP2 := Lib.hid hP2'
      clear hP2'
      generalize lowP i = p at *
      by_cases h0 : i = 0
      · have hp0 : p = 0 := hpz.2 h0
        replace hpz := Lib.hid hpz
        subst h0
        have hE := Lib.hid (fun w => show Calls Tryd.prog 37 #[.agg #[.int .i64 1, .int .i64 1, .int .i64 0, .int .i64 0, .int .u64 p]] w fun e w' => e = .returned (.bool true) ∧ Below w.heap.size w w' from
          (empty_any 1 1 0 0 p w).mono (fun e w' ⟨h, k⟩ => ⟨by rw [h]; simp [hp0], k⟩))
        clear hp0
        go_wp2_with fail
        refine (hDec.out _ hL0.out).mono ?_
        rintro e w2 ⟨rfl, hb2⟩
        have hL2 := Lib.hid ((hL0.out.keep hb2).alloc (.cells #[.int .i64 1, .int .i64 1, .int .i64 0, .int .i64 0, .int .u64 p] 47))
        have hB2' : Below w.heap.size w w2 := hB.trans (hb2.mono hB.size)
        have hB2 := hB2'.alloc hB2'.size (.cells #[.int .i64 1, .int .i64 1, .int .i64 0, .int .i64 0, .int .u64 p] 47)
        have hC2 := Lib.hid (C5.new w2 1 1 0 0 p 47)
        clear hB2' hb2
        go_wp2_with fail
        refine (hRm.out _ hL2.out).mono ?_
        rintro e w3 ⟨rfl, hb3⟩
        have hL3 := Lib.hid (hL2.out.keep hb3)
        have hB3 : Below w.heap.size w w3 := hB2.trans (hb3.mono hB2.size)
        have hC3 := hC2.out.keep hb3
        have hlt3 := hC3.lt
        obtain ⟨x0, x1, x2, x3, x4⟩ := hC3
        clear hL2 hB2 hC2 hb3
        go_wp2_with fail
        refine (hE.out _).mono ?_
        rintro e w4 ⟨rfl, hb4⟩
        have hL4 := Lib.hid (hL3.out.keep hb4)
        have hB4 : Below w.heap.size w w4 := hB3.trans (hb4.mono hB3.size)
        clear x0 x1 x2 x3 x4 hL3 hB3 hb4
        go_wp2_with fail
        refine (hBit.out _ hL4.out).mono ?_
        rintro e w5 ⟨rfl, hb5⟩
        have hL5 := hL4.out.keep hb5
        have hB5 : Below w.heap.size w w5 := hB4.trans (hb5.mono hB4.size)
        clear hL4 hB4 hb5
        go_wp2_with fail
        go_roundw
        case rel => exact ⟨0 + 1, by omega, by go_num, by rw [hOr.out, hP2.out], hL5, hB5⟩
        case measure => first | (simp [intOf]; done) | (simp [intOf]; omega)
      · have hp0 : ¬ p = 0 := fun h => h0 (hpz.1 h)
        have h0' : ¬ (i : Int) = 0 := by omega
        clear hpz
        have hE := Lib.hid (fun w => show Calls Tryd.prog 37 #[.agg #[.int .i64 1, .int .i64 1, .int .i64 0, .int .i64 0, .int .u64 p]] w fun e w' => e = .returned (.bool false) ∧ Below w.heap.size w w' from
          (empty_any 1 1 0 0 p w).mono (fun e w' ⟨h, k⟩ => ⟨by rw [h]; simp [hp0], k⟩))
        clear hp0
        go_wp2_with fail
        refine (hDec.out _ hL0.out).mono ?_
        rintro e w2 ⟨rfl, hb2⟩
        have hL2 := Lib.hid ((hL0.out.keep hb2).alloc (.cells #[.int .i64 1, .int .i64 1, .int .i64 0, .int .i64 0, .int .u64 p] 47))
        have hB2' : Below w.heap.size w w2 := hB.trans (hb2.mono hB.size)
        have hB2 := hB2'.alloc hB2'.size (.cells #[.int .i64 1, .int .i64 1, .int .i64 0, .int .i64 0, .int .u64 p] 47)
        have hC2 := Lib.hid (C5.new w2 1 1 0 0 p 47)
        clear hB2' hb2
        go_wp2_with fail
        refine (hRm.out _ hL2.out).mono ?_
        rintro e w3 ⟨rfl, hb3⟩
        have hL3 := Lib.hid (hL2.out.keep hb3)
        have hB3 : Below w.heap.size w w3 := hB2.trans (hb3.mono hB2.size)
        have hC3 := hC2.out.keep hb3
        have hlt3 := hC3.lt
        obtain ⟨x0, x1, x2, x3, x4⟩ := hC3
        clear hL2 hB2 hC2 hb3
        go_wp2_with fail
        refine (hE.out _).mono ?_
        rintro e w4 ⟨rfl, hb4⟩
        have hL4 := Lib.hid (hL3.out.keep hb4)
        have hB4 : Below w.heap.size w w4 := hB3.trans (hb4.mono hB3.size)
        clear x0 x1 x2 x3 x4 hL3 hB3 hb4
        go_wp2_with fail
        refine (hBit.out _ hL4.out).mono ?_
        rintro e w5 ⟨rfl, hb5⟩
        have hL5 := hL4.out.keep hb5
        have hB5 : Below w.heap.size w w5 := hB4.trans (hb5.mono hB4.size)
        clear hL4 hB4 hb5
        go_wp2_with fail
        go_roundw
        case rel => exact ⟨i + 1, by omega, by go_num, by rw [hOr.out, hP2.out], hL5, hB5⟩
        case measure => first | (simp [intOf]; done) | (simp [intOf]; omega)
    · obtain rfl : i = 4 := by omega
      have hDec := Lib.hid (fun w (hw : Lw w) => show Calls Tryd.prog 33 #[.int .u64 (wordI 1 1 0 0 (lowP 4 : Nat))] w fun e w' => e = .returned (.tuple #[.agg #[.int .i64 1, .int .i64 1, .int .i64 0, .int .i64 0, .int .u64 15], .bool true]) ∧ Below w.heap.size w w' from dec_word 1 1 0 0 15 w hw (by decide) (by decide +kernel))
      have hRm := Lib.hid (fun w (hw : Lw w) => show Calls Tryd.prog 39 #[.agg #[.int .i64 1, .int .i64 1, .int .i64 0, .int .i64 0, .int .u64 15]] w fun e w' => e = .returned (.int .i64 (-1)) ∧ Below w.heap.size w w' from
        (room_run 1 0 0 15 w hw (by omega)).mono (fun e w' ⟨h, k⟩ => ⟨by rw [h, show roomI 1 15 = -1 by decide +kernel], k⟩))
      clear hp1 hpz hlt hi
      generalize wordI 1 1 0 0 (lowP 4 : Nat) = W at *
      go_wp2_with fail
      refine (hDec.out _ hL0.out).mono ?_
      rintro e w2 ⟨rfl, hb2⟩
      have hL2 := Lib.hid ((hL0.out.keep hb2).alloc (.cells #[.int .i64 1, .int .i64 1, .int .i64 0, .int .i64 0, .int .u64 15] 47))
      have hB2' : Below w.heap.size w w2 := hB.trans (hb2.mono hB.size)
      have hB2 := hB2'.alloc hB2'.size (.cells #[.int .i64 1, .int .i64 1, .int .i64 0, .int .i64 0, .int .u64 15] 47)
      have hC2 := C5.new w2 1 1 0 0 15 47
      clear hB2' hb2 hL0 hB
      obtain ⟨w9, hw9⟩ : ∃ v, v = w2.alloc (.cells #[.int .i64 1, .int .i64 1, .int .i64 0, .int .i64 0, .int .u64 15] 47) := ⟨_, rfl⟩
      rw [← hw9] at hL2 hB2 hC2
      have hlt9 := hC2.lt
      obtain ⟨x0, x1, x2, x3, x4⟩ := hC2
      have hd9 : Lw w9.drew := hL2.out
      have hD9 : Below w.heap.size w w9.drew := hB2.drew
      go_wp2_with fail
      rw [← hw9]
      clear hw9
      go_region_held3 (fun w' => w'.cell? ⟨w2.heap.size, 0, none⟩ = some (.int .i64 1) ∧ w'.cell? ⟨w2.heap.size, 1, none⟩ = some (.int .i64 1) ∧ w'.cell? ⟨w2.heap.size, 2, none⟩ = some (.int .i64 0) ∧ w'.cell? ⟨w2.heap.size, 3, none⟩ = some (.int .i64 0) ∧ w'.cell? ⟨w2.heap.size, 4, none⟩ = some (.int .u64 15) ∧ Lw w' ∧ Below w.heap.size w w')
        (((try go_split_ands); refine ⟨?_, ?_, ?_, ?_, ?_, ?_, ?_⟩ <;> first | assumption | (exact Lw.keep (by assumption) hb) | (exact cellK (by assumption) hb) | (exact Below.trans (by assumption) (hb.mono (Below.size (by assumption))))))
        (((try go_split_ands); first | (go_at_call 39; (with_reducible refine (hRm.out _ (by assumption)).mono ?_); rintro e w8 ⟨rfl, hb⟩)))
      all_goals (try go_wp2_with fail)
      all_goals
        go_ret
        go_split_ands
        exact ⟨ret_b (by first | rfl | (simp; done) | decide), by assumption⟩

set_option maxRecDepth 20000 in
set_option maxHeartbeats 3000000 in
theorem chunkFills_2 (k : Int) (w : World) (hw : Lw w) (k0 : 0 ≤ k) (k1 : k ≤ 255) (hk : k % 3 = 2) :
    Calls Tryd.prog 13 #[.int .u8 k] w fun e w' => e = .returned (.bool true) ∧ Below w.heap.size w w' := by
  replace hk := Lib.hid hk
  have hw1 := Lib.hid hw
  clear hw
  go_enter Tryd.func13, Tryd.ntmps13
  go_wp2_with fail
  refine (awake10 _ hw1.out).mono ?_
  rintro e w1 ⟨rfl, hb1⟩
  have hw2 := Lib.hid (hw1.out.keep hb1)
  go_wp2_with fail
  simp only [hk.out]
  refine (refMny_2 2 _ rfl).mono ?_
  rintro e w2 ⟨rfl, rfl⟩
  go_wp2_with fail
  (try simp only [hk.out])
  refine (enc_yes 1 2 0 0 0 _ hw2.out (by decide) (by decide +kernel)).mono ?_
  rintro e w2 ⟨rfl, hb2⟩
  have hw3 := Lib.hid (hw2.out.keep hb2)
  have hB2 : Below w.heap.size w w2 := hb1.trans (hb2.mono hb1.size)
  clear hk k0 k1 hw1 hw2 hb1 hb2
  go_wp2_with fail
  go_loopw [6, 8] (fun v k wr => ∃ i : Nat, i ≤ 2 ∧ k = .int .i64 i ∧ v = .int .u64 (wordI 1 2 0 0 (lowP i : Nat)) ∧ Lw wr ∧ Below w.heap.size w wr) (fun _ k _ => 9 - (intOf k).toNat)
  case atStart => exact ⟨0, by omega, rfl, rfl, hw3.out, hB2⟩
  case round =>
    obtain ⟨i, hi, rfl, rfl, hL, hB⟩ := hrel
    have hL0 := Lib.hid hL
    clear hL hw3 hB2
    obtain ⟨hp1, hpz⟩ := lowP_bd i (by omega)
    by_cases hlt : i < 2
    · have hlt' : (i : Int) < 2 := by omega
      have hf := fill_2 i hlt
      unfold fillB at hf
      simp only [Bool.and_eq_true, decide_eq_true_eq] at hf
      obtain ⟨⟨f1, f2⟩, f3⟩ := hf
      have hrr : rightB 1 2 0 0 (lowP i : Nat) = true := by
        have h8 : lowP i < 4 := by
          have : 2 ^ i < 2 ^ 2 := Nat.pow_lt_pow_right (by omega) hlt
          unfold lowP; omega
        exact run_right 2 (lowP i : Nat) (by omega)
      have hOr := Lib.hid (show bits .or .u64 (wordI 1 2 0 0 (lowP i : Nat)) (16777216 * pwI i) = wordI 1 2 0 0 (lowP (i + 1) : Nat) from by rw [← f2]; exact word_or 2 (lowP i) i (by omega) (by omega) (by omega) (by omega))
      have hDec := Lib.hid (fun w (hw : Lw w) => dec_word 1 2 0 0 (lowP i : Nat) w hw (by omega) hrr)
      have hRm := Lib.hid (fun w (hw : Lw w) => show Calls Tryd.prog 39 #[.agg #[.int .i64 1, .int .i64 2, .int .i64 0, .int .i64 0, .int .u64 (lowP i : Nat)]] w fun e w' => e = .returned (.int .i64 i) ∧ Below w.heap.size w w' from
        (room_run 2 0 0 (lowP i) w hw (by omega)).mono (fun e w' ⟨h, k⟩ => ⟨by rw [h, ← f1]; rfl, k⟩))
      have hBit := Lib.hid (fun w (hw : Lw w) => bit_any i w hw (by omega))
      clear f1 f2 f3 hrr
      generalize hP2' : lowP (i + 1) = p2 at *
      have hP2 := Lib.hid hP2'
      clear hP2'
      generalize lowP i = p at *
      by_cases h0 : i = 0
      · have hp0 : p = 0 := hpz.2 h0
        replace hpz := Lib.hid hpz
        subst h0
        have hE := Lib.hid (fun w => show Calls Tryd.prog 37 #[.agg #[.int .i64 1, .int .i64 2, .int .i64 0, .int .i64 0, .int .u64 p]] w fun e w' => e = .returned (.bool true) ∧ Below w.heap.size w w' from
          (empty_any 1 2 0 0 p w).mono (fun e w' ⟨h, k⟩ => ⟨by rw [h]; simp [hp0], k⟩))
        clear hp0
        go_wp2_with fail
        refine (hDec.out _ hL0.out).mono ?_
        rintro e w2 ⟨rfl, hb2⟩
        have hL2 := Lib.hid ((hL0.out.keep hb2).alloc (.cells #[.int .i64 1, .int .i64 2, .int .i64 0, .int .i64 0, .int .u64 p] 47))
        have hB2' : Below w.heap.size w w2 := hB.trans (hb2.mono hB.size)
        have hB2 := hB2'.alloc hB2'.size (.cells #[.int .i64 1, .int .i64 2, .int .i64 0, .int .i64 0, .int .u64 p] 47)
        have hC2 := Lib.hid (C5.new w2 1 2 0 0 p 47)
        clear hB2' hb2
        go_wp2_with fail
        refine (hRm.out _ hL2.out).mono ?_
        rintro e w3 ⟨rfl, hb3⟩
        have hL3 := Lib.hid (hL2.out.keep hb3)
        have hB3 : Below w.heap.size w w3 := hB2.trans (hb3.mono hB2.size)
        have hC3 := hC2.out.keep hb3
        have hlt3 := hC3.lt
        obtain ⟨x0, x1, x2, x3, x4⟩ := hC3
        clear hL2 hB2 hC2 hb3
        go_wp2_with fail
        refine (hE.out _).mono ?_
        rintro e w4 ⟨rfl, hb4⟩
        have hL4 := Lib.hid (hL3.out.keep hb4)
        have hB4 : Below w.heap.size w w4 := hB3.trans (hb4.mono hB3.size)
        clear x0 x1 x2 x3 x4 hL3 hB3 hb4
        go_wp2_with fail
        refine (hBit.out _ hL4.out).mono ?_
        rintro e w5 ⟨rfl, hb5⟩
        have hL5 := hL4.out.keep hb5
        have hB5 : Below w.heap.size w w5 := hB4.trans (hb5.mono hB4.size)
        clear hL4 hB4 hb5
        go_wp2_with fail
        go_roundw
        case rel => exact ⟨0 + 1, by omega, by go_num, by rw [hOr.out, hP2.out], hL5, hB5⟩
        case measure => first | (simp [intOf]; done) | (simp [intOf]; omega)
      · have hp0 : ¬ p = 0 := fun h => h0 (hpz.1 h)
        have h0' : ¬ (i : Int) = 0 := by omega
        clear hpz
        have hE := Lib.hid (fun w => show Calls Tryd.prog 37 #[.agg #[.int .i64 1, .int .i64 2, .int .i64 0, .int .i64 0, .int .u64 p]] w fun e w' => e = .returned (.bool false) ∧ Below w.heap.size w w' from
          (empty_any 1 2 0 0 p w).mono (fun e w' ⟨h, k⟩ => ⟨by rw [h]; simp [hp0], k⟩))
        clear hp0
        go_wp2_with fail
        refine (hDec.out _ hL0.out).mono ?_
        rintro e w2 ⟨rfl, hb2⟩
        have hL2 := Lib.hid ((hL0.out.keep hb2).alloc (.cells #[.int .i64 1, .int .i64 2, .int .i64 0, .int .i64 0, .int .u64 p] 47))
        have hB2' : Below w.heap.size w w2 := hB.trans (hb2.mono hB.size)
        have hB2 := hB2'.alloc hB2'.size (.cells #[.int .i64 1, .int .i64 2, .int .i64 0, .int .i64 0, .int .u64 p] 47)
        have hC2 := Lib.hid (C5.new w2 1 2 0 0 p 47)
        clear hB2' hb2
        go_wp2_with fail
        refine (hRm.out _ hL2.out).mono ?_
        rintro e w3 ⟨rfl, hb3⟩
        have hL3 := Lib.hid (hL2.out.keep hb3)
        have hB3 : Below w.heap.size w w3 := hB2.trans (hb3.mono hB2.size)
        have hC3 := hC2.out.keep hb3
        have hlt3 := hC3.lt
        obtain ⟨x0, x1, x2, x3, x4⟩ := hC3
        clear hL2 hB2 hC2 hb3
        go_wp2_with fail
        refine (hE.out _).mono ?_
        rintro e w4 ⟨rfl, hb4⟩
        have hL4 := Lib.hid (hL3.out.keep hb4)
        have hB4 : Below w.heap.size w w4 := hB3.trans (hb4.mono hB3.size)
        clear x0 x1 x2 x3 x4 hL3 hB3 hb4
        go_wp2_with fail
        refine (hBit.out _ hL4.out).mono ?_
        rintro e w5 ⟨rfl, hb5⟩
        have hL5 := hL4.out.keep hb5
        have hB5 : Below w.heap.size w w5 := hB4.trans (hb5.mono hB4.size)
        clear hL4 hB4 hb5
        go_wp2_with fail
        go_roundw
        case rel => exact ⟨i + 1, by omega, by go_num, by rw [hOr.out, hP2.out], hL5, hB5⟩
        case measure => first | (simp [intOf]; done) | (simp [intOf]; omega)
    · obtain rfl : i = 2 := by omega
      have hDec := Lib.hid (fun w (hw : Lw w) => show Calls Tryd.prog 33 #[.int .u64 (wordI 1 2 0 0 (lowP 2 : Nat))] w fun e w' => e = .returned (.tuple #[.agg #[.int .i64 1, .int .i64 2, .int .i64 0, .int .i64 0, .int .u64 3], .bool true]) ∧ Below w.heap.size w w' from dec_word 1 2 0 0 3 w hw (by decide) (by decide +kernel))
      have hRm := Lib.hid (fun w (hw : Lw w) => show Calls Tryd.prog 39 #[.agg #[.int .i64 1, .int .i64 2, .int .i64 0, .int .i64 0, .int .u64 3]] w fun e w' => e = .returned (.int .i64 (-1)) ∧ Below w.heap.size w w' from
        (room_run 2 0 0 3 w hw (by omega)).mono (fun e w' ⟨h, k⟩ => ⟨by rw [h, show roomI 2 3 = -1 by decide +kernel], k⟩))
      clear hp1 hpz hlt hi
      generalize wordI 1 2 0 0 (lowP 2 : Nat) = W at *
      go_wp2_with fail
      refine (hDec.out _ hL0.out).mono ?_
      rintro e w2 ⟨rfl, hb2⟩
      have hL2 := Lib.hid ((hL0.out.keep hb2).alloc (.cells #[.int .i64 1, .int .i64 2, .int .i64 0, .int .i64 0, .int .u64 3] 47))
      have hB2' : Below w.heap.size w w2 := hB.trans (hb2.mono hB.size)
      have hB2 := hB2'.alloc hB2'.size (.cells #[.int .i64 1, .int .i64 2, .int .i64 0, .int .i64 0, .int .u64 3] 47)
      have hC2 := C5.new w2 1 2 0 0 3 47
      clear hB2' hb2 hL0 hB
      obtain ⟨w9, hw9⟩ : ∃ v, v = w2.alloc (.cells #[.int .i64 1, .int .i64 2, .int .i64 0, .int .i64 0, .int .u64 3] 47) := ⟨_, rfl⟩
      rw [← hw9] at hL2 hB2 hC2
      have hlt9 := hC2.lt
      obtain ⟨x0, x1, x2, x3, x4⟩ := hC2
      have hd9 : Lw w9.drew := hL2.out
      have hD9 : Below w.heap.size w w9.drew := hB2.drew
      go_wp2_with fail
      rw [← hw9]
      clear hw9
      go_region_held3 (fun w' => w'.cell? ⟨w2.heap.size, 0, none⟩ = some (.int .i64 1) ∧ w'.cell? ⟨w2.heap.size, 1, none⟩ = some (.int .i64 2) ∧ w'.cell? ⟨w2.heap.size, 2, none⟩ = some (.int .i64 0) ∧ w'.cell? ⟨w2.heap.size, 3, none⟩ = some (.int .i64 0) ∧ w'.cell? ⟨w2.heap.size, 4, none⟩ = some (.int .u64 3) ∧ Lw w' ∧ Below w.heap.size w w')
        (((try go_split_ands); refine ⟨?_, ?_, ?_, ?_, ?_, ?_, ?_⟩ <;> first | assumption | (exact Lw.keep (by assumption) hb) | (exact cellK (by assumption) hb) | (exact Below.trans (by assumption) (hb.mono (Below.size (by assumption))))))
        (((try go_split_ands); first | (go_at_call 39; (with_reducible refine (hRm.out _ (by assumption)).mono ?_); rintro e w8 ⟨rfl, hb⟩)))
      all_goals (try go_wp2_with fail)
      all_goals
        go_ret
        go_split_ands
        exact ⟨ret_b (by first | rfl | (simp; done) | decide), by assumption⟩

theorem chunkFills (k : Int) (w : World) (hw : Lw w) (k0 : 0 ≤ k) (k1 : k ≤ 255) :
    Calls Tryd.prog 13 #[.int .u8 k] w fun e w' => e = .returned (.bool true) ∧ Below w.heap.size w w' := by
  have h : k % 3 = 0 ∨ k % 3 = 1 ∨ k % 3 = 2 := by omega
  rcases h with h | h | h
  · exact chunkFills_0 k w hw k0 k1 h
  · exact chunkFills_1 k w hw k0 k1 h
  · exact chunkFills_2 k w hw k0 k1 h
end Go.Proofs.YtnhbpenejlocaaaDoor