/-
  The laws of package geo: the walks (4).
-/
import Derived.Test.YtalplklaepbaeaaGeo9
set_option linter.unusedVariables false
namespace Go.Proofs.Ytalplklaepbaeaa
open Go.RowKit

set_option maxHeartbeats 2000000 in
theorem geoWords_yes_big (a b c i m p : Int) (w : World) (h1 : 0 ≤ a) (h2 : a ≤ 255) (h3 : 0 ≤ b) (h4 : b ≤ 255) (h5 : 0 ≤ c) (h6 : c ≤ 255) (h7 : 0 ≤ i) (h8 : i ≤ 255) (h9 : 0 ≤ m) (h10 : m ≤ 255) (p1 : cFrom (smW a b c) (smL a) 0 ≤ p) (p2 : p < cFrom (smW a b c) (smL a) (gN (smW a b c) (smL a))) (hn : 1 < gN (smW a b c) (smL a)) :
    Calls Try.prog 6 #[.int .u8 a, .int .u8 b, .int .u8 c, .int .u8 i, .int .u8 m, .int .i64 p] w fun e w' => e = .returned (.bool true) ∧ Below w.heap.size w w' := by
  obtain ⟨g, gn⟩ := sm_ok a b c h1 h3 h5
  obtain ⟨n1, n2, n3, n4⟩ := gN_bd g
  obtain ⟨o1, o2, o3, o4⟩ := gOk_t g
  have hs := small_any a b c
  clear gn
  generalize smW a b c = W at *
  generalize smL a = L at *
  have i0 : 0 ≤ i % gN W L := Int.emod_nonneg _ (by omega)
  have i1 : i % gN W L < gN W L := Int.emod_lt_of_pos _ (by omega)
  have f0 : 0 ≤ cFrom W L (i % gN W L) := by unfold cFrom; omega
  have f1 : cFrom W L (i % gN W L) ≤ 100000 := by unfold cFrom; omega
  have f2 : 0 ≤ cFrom W L (gN W L - 1) := by unfold cFrom; omega
  have f3 : cFrom W L (gN W L - 1) ≤ 100000 := by unfold cFrom; omega
  have q1 : 0 ≤ (p - cFrom W L 0) / 32 := by omega
  have q2 : (p - cFrom W L 0) / 32 < gN W L := by unfold cFrom at *; omega
  have q3 : (cFrom W L ((p - cFrom W L 0) / 32) + (p - cFrom W L 0) % 32 == p) = true := by simp; unfold cFrom at *; omega
  have q4 : cFrom W L ((p - cFrom W L 0) / 32) ≤ 100000 := by unfold cFrom at *; omega
  have q5 : 0 ≤ cFrom W L ((p - cFrom W L 0) / 32) := by unfold cFrom at *; omega
  have G := Lib.hid g
  have HS := Lib.hid hs
  clear g hs
  go_enter Try.func6, Try.ntmps6
  go_wp2_with fail
  refine (awake_any _).mono ?_
  rintro e w1 ⟨rfl, hb1⟩
  go_wp2_with fail
  refine (HS.out _ h1 h2 h3 h4 h5 h6).mono ?_
  rintro e w2 ⟨rfl, hb2⟩
  obtain ⟨hB2, hz2⟩ := belowStep hb1 hb1.size hb2
  go_wp2_with fail
  refine (chunks_t W L _ G.out).mono ?_
  rintro e w3 ⟨rfl, hb3⟩
  have kg := (C2.new w2 (.int .i64 W) (.int .i64 L) 23).keep hb3
  have hB3 : Below w.heap.size w w3 := (hB2.alloc hz2 _).trans (hb3.mono (by simp; omega))
  have hz3 : w.heap.size ≤ w3.heap.size := by have := kg.lt; omega
  obtain ⟨v0, v1⟩ := id kg
  go_wp2_with fail
  refine (chunk_yes W L (i % gN W L) _ G.out i0 i1).mono ?_
  rintro e w4 ⟨rfl, hb4⟩
  obtain ⟨hB4, hz4⟩ := belowStep hB3 hz3 hb4
  have kg4 := kg.keep hb4
  have lt4 := kg4.lt
  clear v0 v1
  obtain ⟨v0, v1⟩ := id kg4
  go_wp2_with fail
  refine (of_at W L (i % gN W L) (m % 32) _ G.out i0 i1 (by omega) (by omega)).mono ?_
  rintro e w5 ⟨rfl, hb5⟩
  have kg5 := (kg4.alloc (.cells #[.int .i64 (cFrom W L (i % gN W L)), .int .i64 32] 29)).keep hb5
  obtain ⟨hB5, hz5⟩ := belowStep (hB4.alloc hz4 (.cells #[.int .i64 (cFrom W L (i % gN W L)), .int .i64 32] 29)) (by simp; omega) hb5
  have lt5 := kg5.lt
  clear v0 v1
  obtain ⟨v0, v1⟩ := id kg5
  go_wp2_with fail
  refine (of_yes W L p _ G.out p1 p2).mono ?_
  rintro e w6 ⟨rfl, hb6⟩
  obtain ⟨hB6, hz6⟩ := belowStep hB5 hz5 hb6
  have kg6 := kg5.keep hb6
  have lt6 := kg6.lt
  clear v0 v1
  obtain ⟨v0, v1⟩ := id kg6
  go_wp2_with fail
  refine (chunk_yes W L ((p - cFrom W L 0) / 32) _ G.out q1 q2).mono ?_
  rintro e w7 ⟨rfl, hb7⟩
  obtain ⟨hB7, hz7⟩ := belowStep hB6 hz6 hb7
  have hfd := field0
  go_wp2_with fail
  go_ret
  exact ⟨ret_b (by simp; omega), hB7⟩

set_option maxHeartbeats 2000000 in
theorem geoWords_yes_one (a b c i m p : Int) (w : World) (h1 : 0 ≤ a) (h2 : a ≤ 255) (h3 : 0 ≤ b) (h4 : b ≤ 255) (h5 : 0 ≤ c) (h6 : c ≤ 255) (h7 : 0 ≤ i) (h8 : i ≤ 255) (h9 : 0 ≤ m) (h10 : m ≤ 255) (p1 : cFrom (smW a b c) (smL a) 0 ≤ p) (p2 : p < cFrom (smW a b c) (smL a) (gN (smW a b c) (smL a))) (hn : gN (smW a b c) (smL a) ≤ 1) :
    Calls Try.prog 6 #[.int .u8 a, .int .u8 b, .int .u8 c, .int .u8 i, .int .u8 m, .int .i64 p] w fun e w' => e = .returned (.bool true) ∧ Below w.heap.size w w' := by
  obtain ⟨g, gn⟩ := sm_ok a b c h1 h3 h5
  obtain ⟨n1, n2, n3, n4⟩ := gN_bd g
  obtain ⟨o1, o2, o3, o4⟩ := gOk_t g
  have hs := small_any a b c
  clear gn
  generalize smW a b c = W at *
  generalize smL a = L at *
  have i0 : (0 : Int) ≤ 0 := by omega
  have i1 : 0 < gN W L := by omega
  have f0 : 0 ≤ cFrom W L (0) := by unfold cFrom; omega
  have f1 : cFrom W L (0) ≤ 100000 := by unfold cFrom; omega
  have f2 : 0 ≤ cFrom W L (gN W L - 1) := by unfold cFrom; omega
  have f3 : cFrom W L (gN W L - 1) ≤ 100000 := by unfold cFrom; omega
  have q1 : 0 ≤ (p - cFrom W L 0) / 32 := by omega
  have q2 : (p - cFrom W L 0) / 32 < gN W L := by unfold cFrom at *; omega
  have q3 : (cFrom W L ((p - cFrom W L 0) / 32) + (p - cFrom W L 0) % 32 == p) = true := by simp; unfold cFrom at *; omega
  have q4 : cFrom W L ((p - cFrom W L 0) / 32) ≤ 100000 := by unfold cFrom at *; omega
  have q5 : 0 ≤ cFrom W L ((p - cFrom W L 0) / 32) := by unfold cFrom at *; omega
  have G := Lib.hid g
  have HS := Lib.hid hs
  clear g hs
  go_enter Try.func6, Try.ntmps6
  go_wp2_with fail
  refine (awake_any _).mono ?_
  rintro e w1 ⟨rfl, hb1⟩
  go_wp2_with fail
  refine (HS.out _ h1 h2 h3 h4 h5 h6).mono ?_
  rintro e w2 ⟨rfl, hb2⟩
  obtain ⟨hB2, hz2⟩ := belowStep hb1 hb1.size hb2
  go_wp2_with fail
  refine (chunks_t W L _ G.out).mono ?_
  rintro e w3 ⟨rfl, hb3⟩
  have kg := (C2.new w2 (.int .i64 W) (.int .i64 L) 23).keep hb3
  have hB3 : Below w.heap.size w w3 := (hB2.alloc hz2 _).trans (hb3.mono (by simp; omega))
  have hz3 : w.heap.size ≤ w3.heap.size := by have := kg.lt; omega
  obtain ⟨v0, v1⟩ := id kg
  go_wp2_with fail
  refine (chunk_yes W L (0) _ G.out i0 i1).mono ?_
  rintro e w4 ⟨rfl, hb4⟩
  obtain ⟨hB4, hz4⟩ := belowStep hB3 hz3 hb4
  have kg4 := kg.keep hb4
  have lt4 := kg4.lt
  clear v0 v1
  obtain ⟨v0, v1⟩ := id kg4
  go_wp2_with fail
  refine (of_at W L (0) (m % 32) _ G.out i0 i1 (by omega) (by omega)).mono ?_
  rintro e w5 ⟨rfl, hb5⟩
  have kg5 := (kg4.alloc (.cells #[.int .i64 (cFrom W L (0)), .int .i64 32] 29)).keep hb5
  obtain ⟨hB5, hz5⟩ := belowStep (hB4.alloc hz4 (.cells #[.int .i64 (cFrom W L (0)), .int .i64 32] 29)) (by simp; omega) hb5
  have lt5 := kg5.lt
  clear v0 v1
  obtain ⟨v0, v1⟩ := id kg5
  go_wp2_with fail
  refine (of_yes W L p _ G.out p1 p2).mono ?_
  rintro e w6 ⟨rfl, hb6⟩
  obtain ⟨hB6, hz6⟩ := belowStep hB5 hz5 hb6
  have kg6 := kg5.keep hb6
  have lt6 := kg6.lt
  clear v0 v1
  obtain ⟨v0, v1⟩ := id kg6
  go_wp2_with fail
  refine (chunk_yes W L ((p - cFrom W L 0) / 32) _ G.out q1 q2).mono ?_
  rintro e w7 ⟨rfl, hb7⟩
  obtain ⟨hB7, hz7⟩ := belowStep hB6 hz6 hb7
  have hfd := field0
  go_wp2_with fail
  go_ret
  exact ⟨ret_b (by simp; omega), hB7⟩

end Go.Proofs.Ytalplklaepbaeaa
