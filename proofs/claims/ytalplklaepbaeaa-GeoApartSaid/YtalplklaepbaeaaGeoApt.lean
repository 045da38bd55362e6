/-
  The laws of package geo: the walks (5).
-/
import Derived.Test.YtalplklaepbaeaaGeo7
set_option linter.unusedVariables false
namespace Go.Proofs.Ytalplklaepbaeaa
open Go.RowKit

theorem redo_many (W L i : Int) (w : World) (h : lOk W L i = true) :
    Calls Try.prog 17 #[.agg #[.int .i64 W, .int .i64 L], .int .i64 i] w fun e w' => e = .returned (.agg #[.int .i64 (10 + L + i * 72 + 32), .int .i64 40]) ∧ Below w.heap.size w w' := redo_t W L i w h

set_option maxHeartbeats 4000000 in
theorem geoApart (a b c : Int) (w : World) (h1 : 0 ≤ a) (h2 : a ≤ 255) (h3 : 0 ≤ b) (h4 : b ≤ 255) (h5 : 0 ≤ c) (h6 : c ≤ 255) :
    Calls Try.prog 5 #[.int .u8 a, .int .u8 b, .int .u8 c] w fun e w' => e = .returned (.bool true) ∧ Below w.heap.size w w' := by
  obtain ⟨g, gn⟩ := sm_ok a b c h1 h3 h5
  obtain ⟨n1, n2, n3, n4⟩ := gN_bd g
  obtain ⟨o1, o2, o3, o4⟩ := gOk_t g
  have hs := small_any a b c
  clear gn
  generalize smW a b c = W at *
  generalize smL a = L at *
  have G := Lib.hid g
  have HS := Lib.hid hs
  clear g hs
  go_enter Try.func5, Try.ntmps5
  go_wp2_with fail
  refine (awake_any _).mono ?_
  rintro e w1 ⟨rfl, hb1⟩
  go_wp2_with fail
  refine (HS.out _ h1 h2 h3 h4 h5 h6).mono ?_
  rintro e w2 ⟨rfl, hb2⟩
  obtain ⟨hB2, hz2⟩ := belowStep hb1 hb1.size hb2
  have kg := C2.new w2 (.int .i64 W) (.int .i64 L) 23
  have hB2' : Below w.heap.size w (w2.alloc (.cells #[.int .i64 W, .int .i64 L] 23)) := hB2.alloc hz2 _
  go_wp2_with fail
  go_loopw [9, 10] (fun at_ i wr => ∃ k : Nat, (k : Int) ≤ L ∧ i = .int .i64 k ∧ at_ = .int .i64 (10 + k) ∧ C2 wr w2.heap.size (.int .i64 W) (.int .i64 L) ∧ Below w.heap.size w wr) (fun _ i _ => 100 - (intOf i).toNat)
  case atStart => exact ⟨0, by omega, rfl, rfl, kg, hB2'⟩
  case round =>
    obtain ⟨k, hk, rfl, rfl, hC, hB⟩ := hrel
    obtain ⟨v0, v1⟩ := id hC
    have hl := hC.lt
    have hz : w.heap.size ≤ wr.heap.size := by omega
    by_cases hlt : (k : Int) < L
    · have hok : Hid (lOk W L k = true) := by
        show lOk W L k = true
        simp only [lOk, G.out, Bool.true_and, decide_eq_true_eq]; omega
      go_wp2_with fail
      refine (mark_t W L k _ hok.out).mono ?_
      rintro e w3 ⟨rfl, hb3⟩
      obtain ⟨hB3, hz3⟩ := belowStep hB hz hb3
      go_wp2_with fail
      go_roundw
      case rel => exact ⟨k + 1, by omega, by go_num, by go_num, hC.keep hb3, hB3⟩
      case measure => simp [intOf]; omega
    · obtain rfl : L = (k : Int) := by omega
      go_wp2_with fail
      obtain ⟨wo, rfl⟩ : ∃ wo : World, wo = wr := ⟨_, rfl⟩
      have lt0 : w2.heap.size < wo.heap.size := hl
      go_loopw [9, 11] (fun at_ i wr => ∃ j : Nat, (j : Int) ≤ (k : Int) ∧ i = .int .i64 j ∧ at_ = .int .i64 (10 + (k : Int) + j * 72) ∧ C2 wr w2.heap.size (.int .i64 W) (.int .i64 k) ∧ Below w.heap.size w wr) (fun _ i _ => 100 - (intOf i).toNat)
      case atStart => exact ⟨0, by omega, rfl, by go_num, hC, hB⟩
      case round =>
        obtain ⟨j, hj, rfl, rfl, hC2, hD⟩ := hrel
        clear v0 v1
        obtain ⟨v0, v1⟩ := id hC2
        have hl2 := hC2.lt
        have hzz : w.heap.size ≤ wr.heap.size := by omega
        by_cases hlt2 : (j : Int) < (k : Int)
        · have hok : Hid (lOk W k j = true) := by
            show lOk W k j = true
            simp only [lOk, G.out, Bool.true_and, decide_eq_true_eq]; omega
          go_wp2_with fail
          refine (log_t W k j _ hok.out).mono ?_
          rintro e w3 ⟨rfl, hb3⟩
          obtain ⟨hB3, hz3⟩ := belowStep hD hzz hb3
          have hC3 := hC2.keep hb3
          have hl3 := hC3.lt
          clear v0 v1
          obtain ⟨v0, v1⟩ := id hC3
          go_wp2_with fail
          refine (redo_t W k j _ hok.out).mono ?_
          rintro e w4 ⟨rfl, hb4⟩
          have kl := (C2.new w3 (.int .i64 (10 + (k : Int) + j * 72)) (.int .i64 32) 29).keep hb4
          have hC4 := (hC3.alloc (.cells #[.int .i64 (10 + (k : Int) + j * 72), .int .i64 32] 29)).keep hb4
          obtain ⟨hB4, hz4⟩ := belowStep (hB3.alloc hz3 (.cells #[.int .i64 (10 + (k : Int) + j * 72), .int .i64 32] 29)) (by simp; omega) hb4
          clear v0 v1
          obtain ⟨x0, x1⟩ := id kl
          have hl4 := kl.lt
          have hl5 := hC4.lt
          go_wp2_with fail
          go_roundw
          case rel => exact ⟨j + 1, by omega, by go_num, by go_num, hC4.alloc _, hB4.alloc hz4 _⟩
          case measure => simp [intOf]; omega
        · obtain rfl : j = k := by omega
          go_wp2_with fail
          obtain ⟨wp, rfl⟩ : ∃ wp : World, wp = wr := ⟨_, rfl⟩
          refine (table_t W j _ G.out).mono ?_
          rintro e w5 ⟨rfl, hb5⟩
          obtain ⟨hB5, hz5⟩ := belowStep hD hzz hb5
          have hC5 := hC2.keep hb5
          have hl5 := hC5.lt
          clear v0 v1
          obtain ⟨v0, v1⟩ := id hC5
          have hT := C2.new w5 (.int .i64 (10 + 73 * (j : Int))) (.int .i64 (gN W j)) 29
          obtain ⟨x0, x1⟩ := id hT
          have e1 : (10 + 73 * (j : Int) != 10 + (j : Int) + (j : Int) * 72) = false := by simp; omega
          have e2 : (gN W j != gN W j) = false := by simp
          have hB6 : Below w.heap.size w (w5.alloc (.cells #[.int .i64 (10 + 73 * (j : Int)), .int .i64 (gN W j)] 29)) := hB5.alloc hz5 _
          have hC6 := hC5.alloc (.cells #[.int .i64 (10 + 73 * (j : Int)), .int .i64 (gN W j)] 29)
          have hl6 := hC6.lt
          have hl7 := hT.lt
          go_wp2_with fail
          go_region_held3 (fun w' => w'.cell? ⟨w2.heap.size, 0, none⟩ = some (.int .i64 W) ∧ w'.cell? ⟨w2.heap.size, 1, none⟩ = some (.int .i64 j) ∧ w2.heap.size < w'.heap.size ∧ w'.cell? ⟨w5.heap.size, 0, none⟩ = some (.int .i64 (10 + 73 * (j : Int))) ∧ w'.cell? ⟨w5.heap.size, 1, none⟩ = some (.int .i64 (gN W j)) ∧ w5.heap.size < w'.heap.size ∧ Below w.heap.size w w')
    (((try go_split_ands); refine ⟨?_, ?_, ?_, ?_, ?_, ?_, ?_⟩ <;> first
      | (rw [hb.cell (by assumption)]; assumption) | assumption | (have := hb.size; omega) | (exact Below.trans (by assumption) (hb.mono (Nat.le_trans hz5 (Nat.le_of_lt (by assumption)))))
      | (go_keep; done) | (go_grown; done)))
    ((go_at_call 11; refine (chunks_t W j _ G.out).mono ?_; rintro e w8 ⟨rfl, hb⟩))
          go_split_ands
          have hC8 : C2 w8 w2.heap.size (.int .i64 W) (.int .i64 j) := ⟨by assumption, by assumption⟩
          have hT8 : C2 w8 w5.heap.size (.int .i64 (10 + 73 * (j : Int))) (.int .i64 (gN W j)) := ⟨by assumption, by assumption⟩
          have hB8 : Below w.heap.size w w8 := by assumption
          obtain ⟨y0, y1⟩ := id hT8
          go_wp2_with fail
          go_loopw [9, 15] (fun at_ i wr => ∃ q : Nat, (q : Int) ≤ gN W j ∧ i = .int .i64 q ∧ at_ = .int .i64 (cFrom W j q) ∧ C2 wr w2.heap.size (.int .i64 W) (.int .i64 j) ∧ C2 wr w5.heap.size (.int .i64 (10 + 73 * (j : Int))) (.int .i64 (gN W j)) ∧ Below w.heap.size w wr) (fun _ i _ => 2100 - (intOf i).toNat)
          case atStart => exact ⟨0, by omega, rfl, by unfold cFrom; go_num, hC8, hT8, hB8⟩
          case round =>
            obtain ⟨q, hq, rfl, rfl, hC9, hT9, hB9⟩ := hrel
            go_split_ands
            clear y0 y1 v0 v1 x0 x1
            obtain ⟨v0, v1⟩ := id hC9
            obtain ⟨y0, y1⟩ := id hT9
            have hl9 := hC9.lt
            have hz9 : w.heap.size ≤ wr.heap.size := by omega
            by_cases hlt3 : (q : Int) < gN W j
            · go_wp2_with fail
              refine (chunk_yes W j q _ G.out (by omega) hlt3).mono ?_
              rintro e w9 ⟨rfl, hb9⟩
              obtain ⟨hB10, hz10⟩ := belowStep hB9 hz9 hb9
              have f0 : 0 ≤ cFrom W j q := by unfold cFrom; omega
              have f1 : cFrom W j q ≤ 100000 := by unfold cFrom; omega
              go_wp2_with fail
              go_roundw
              case rel => exact ⟨q + 1, by omega, by go_num, by unfold cFrom; go_num, (hC9.keep hb9).alloc _, (hT9.keep hb9).alloc _, hB10.alloc hz10 _⟩
              case measure => simp [intOf]; omega
            · have hq2 : gN W j ≤ (q : Int) := by omega
              have f0 : cFrom W j q ≤ W := by unfold cFrom; omega
              have f1 : W - cFrom W j q ≤ 32 := by unfold cFrom; omega
              have f2 : 0 ≤ cFrom W j q := by unfold cFrom; omega
              have hok : Hid (lOk W j j = false) := by
                show lOk W j j = false
                simp only [lOk, G.out, Bool.true_and, decide_eq_false_iff_not]; omega
              go_wp2_with fail
              refine (mark_f W j j _ hok.out).mono ?_
              rintro e w9 ⟨rfl, hb9⟩
              obtain ⟨hB10, hz10⟩ := belowStep hB9 hz9 hb9
              clear v0 v1 y0 y1
              obtain ⟨v0, v1⟩ := id (hC9.keep hb9)
              obtain ⟨y0, y1⟩ := id (hT9.keep hb9)
              go_wp2_with fail
              refine (chunk_big W j (gN W j) _ G.out (by omega) (by omega)).mono ?_
              rintro e w10 ⟨rfl, hb10⟩
              obtain ⟨hB11, hz11⟩ := belowStep hB10 hz10 hb10
              go_wp2_with fail
              go_ret
              exact ⟨rfl, hB11⟩
end Go.Proofs.Ytalplklaepbaeaa
