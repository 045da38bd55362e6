/-
  The laws of package geo: the walks (2).
-/
import Derived.Test.YtalplklaepbaeaaGeo7
namespace Go.Proofs.Ytalplklaepbaeaa
open Go.RowKit

set_option maxHeartbeats 1000000 in
theorem geoOf_yes (W L i : Int) (w : World) (g : gOk W L = true) (c1 : cFrom W L 0 ≤ i) (c2 : i < cFrom W L (gN W L))  :
    Calls Try.prog 4 #[.agg #[.int .i64 W, .int .i64 L], .int .i64 i] w fun e w' => e = .returned (.bool true) ∧ Below w.heap.size w w' := by
  have G := Lib.hid g
  clear g
  go_enter Try.func4, Try.ntmps4
  go_wp2_with fail
  refine (awake_any _).mono ?_
  rintro e w1 ⟨rfl, hb1⟩
  have k1 := (C2.new w (.int .i64 W) (.int .i64 L) 23).keep hb1
  have hB1 : Below w.heap.size w w1 := ((Below.refl _ _).alloc (Nat.le_refl _) _).trans (hb1.mono (by simp))
  obtain ⟨x0, x1⟩ := id k1
  go_wp2_with fail
  refine (of_yes W L i _ G.out c1 c2).mono ?_
  rintro e w2 ⟨rfl, hb2⟩
  have k2 := k1.keep hb2
  obtain ⟨hB2, hz2⟩ := belowStep hB1 (Nat.le_of_lt k1.lt) hb2
  clear x0 x1
  obtain ⟨x0, x1⟩ := id k2
  go_wp2_with fail
  refine (refOf_yes W L i _ G.out c1 c2).mono ?_
  rintro e w3 ⟨rfl, hb3⟩
  obtain ⟨hB3, hz3⟩ := belowStep hB2 hz2 hb3
  go_wp2_with fail
  go_ret
  exact ⟨rfl, hB3⟩

set_option maxHeartbeats 1000000 in
theorem geoOf_low (W L i : Int) (w : World) (g : gOk W L = true) (c1 : i < cFrom W L 0)  :
    Calls Try.prog 4 #[.agg #[.int .i64 W, .int .i64 L], .int .i64 i] w fun e w' => e = .returned (.bool true) ∧ Below w.heap.size w w' := by
  have G := Lib.hid g
  clear g
  go_enter Try.func4, Try.ntmps4
  go_wp2_with fail
  refine (awake_any _).mono ?_
  rintro e w1 ⟨rfl, hb1⟩
  have k1 := (C2.new w (.int .i64 W) (.int .i64 L) 23).keep hb1
  have hB1 : Below w.heap.size w w1 := ((Below.refl _ _).alloc (Nat.le_refl _) _).trans (hb1.mono (by simp))
  obtain ⟨x0, x1⟩ := id k1
  go_wp2_with fail
  refine (of_low W L i _ G.out c1).mono ?_
  rintro e w2 ⟨rfl, hb2⟩
  have k2 := k1.keep hb2
  obtain ⟨hB2, hz2⟩ := belowStep hB1 (Nat.le_of_lt k1.lt) hb2
  clear x0 x1
  obtain ⟨x0, x1⟩ := id k2
  go_wp2_with fail
  refine (refOf_low W L i _ G.out c1).mono ?_
  rintro e w3 ⟨rfl, hb3⟩
  obtain ⟨hB3, hz3⟩ := belowStep hB2 hz2 hb3
  go_wp2_with fail
  go_ret
  exact ⟨rfl, hB3⟩

set_option maxHeartbeats 1000000 in
theorem geoOf_high (W L i : Int) (w : World) (g : gOk W L = true) (c1 : cFrom W L 0 ≤ i) (c2 : cFrom W L (gN W L) ≤ i) (c3 : i ≤ 9223372036854775807)  :
    Calls Try.prog 4 #[.agg #[.int .i64 W, .int .i64 L], .int .i64 i] w fun e w' => e = .returned (.bool true) ∧ Below w.heap.size w w' := by
  have G := Lib.hid g
  clear g
  go_enter Try.func4, Try.ntmps4
  go_wp2_with fail
  refine (awake_any _).mono ?_
  rintro e w1 ⟨rfl, hb1⟩
  have k1 := (C2.new w (.int .i64 W) (.int .i64 L) 23).keep hb1
  have hB1 : Below w.heap.size w w1 := ((Below.refl _ _).alloc (Nat.le_refl _) _).trans (hb1.mono (by simp))
  obtain ⟨x0, x1⟩ := id k1
  go_wp2_with fail
  refine (of_high W L i _ G.out c1 c2).mono ?_
  rintro e w2 ⟨rfl, hb2⟩
  have k2 := k1.keep hb2
  obtain ⟨hB2, hz2⟩ := belowStep hB1 (Nat.le_of_lt k1.lt) hb2
  clear x0 x1
  obtain ⟨x0, x1⟩ := id k2
  go_wp2_with fail
  refine (refOf_high W L i _ G.out c1 c2 c3).mono ?_
  rintro e w3 ⟨rfl, hb3⟩
  obtain ⟨hB3, hz3⟩ := belowStep hB2 hz2 hb3
  go_wp2_with fail
  go_ret
  exact ⟨rfl, hB3⟩

set_option maxHeartbeats 1000000 in
theorem geoOf_fneg (W L i : Int) (w : World) (g : gOk W L = false) (c1 : i < 0)  :
    Calls Try.prog 4 #[.agg #[.int .i64 W, .int .i64 L], .int .i64 i] w fun e w' => e = .returned (.bool true) ∧ Below w.heap.size w w' := by
  have G := Lib.hid g
  clear g
  go_enter Try.func4, Try.ntmps4
  go_wp2_with fail
  refine (awake_any _).mono ?_
  rintro e w1 ⟨rfl, hb1⟩
  have k1 := (C2.new w (.int .i64 W) (.int .i64 L) 23).keep hb1
  have hB1 : Below w.heap.size w w1 := ((Below.refl _ _).alloc (Nat.le_refl _) _).trans (hb1.mono (by simp))
  obtain ⟨x0, x1⟩ := id k1
  go_wp2_with fail
  refine (of_fneg W L i _ G.out c1).mono ?_
  rintro e w2 ⟨rfl, hb2⟩
  have k2 := k1.keep hb2
  obtain ⟨hB2, hz2⟩ := belowStep hB1 (Nat.le_of_lt k1.lt) hb2
  clear x0 x1
  obtain ⟨x0, x1⟩ := id k2
  go_wp2_with fail
  refine (refOf_f W L i _ G.out).mono ?_
  rintro e w3 ⟨rfl, hb3⟩
  obtain ⟨hB3, hz3⟩ := belowStep hB2 hz2 hb3
  go_wp2_with fail
  go_ret
  exact ⟨rfl, hB3⟩

set_option maxHeartbeats 1000000 in
theorem geoOf_fpos (W L i : Int) (w : World) (g : gOk W L = false) (c1 : 0 ≤ i)  :
    Calls Try.prog 4 #[.agg #[.int .i64 W, .int .i64 L], .int .i64 i] w fun e w' => e = .returned (.bool true) ∧ Below w.heap.size w w' := by
  have G := Lib.hid g
  clear g
  go_enter Try.func4, Try.ntmps4
  go_wp2_with fail
  refine (awake_any _).mono ?_
  rintro e w1 ⟨rfl, hb1⟩
  have k1 := (C2.new w (.int .i64 W) (.int .i64 L) 23).keep hb1
  have hB1 : Below w.heap.size w w1 := ((Below.refl _ _).alloc (Nat.le_refl _) _).trans (hb1.mono (by simp))
  obtain ⟨x0, x1⟩ := id k1
  go_wp2_with fail
  refine (of_fpos W L i _ G.out c1).mono ?_
  rintro e w2 ⟨rfl, hb2⟩
  have k2 := k1.keep hb2
  obtain ⟨hB2, hz2⟩ := belowStep hB1 (Nat.le_of_lt k1.lt) hb2
  clear x0 x1
  obtain ⟨x0, x1⟩ := id k2
  go_wp2_with fail
  refine (refOf_f W L i _ G.out).mono ?_
  rintro e w3 ⟨rfl, hb3⟩
  obtain ⟨hB3, hz3⟩ := belowStep hB2 hz2 hb3
  go_wp2_with fail
  go_ret
  exact ⟨rfl, hB3⟩

end Go.Proofs.Ytalplklaepbaeaa
