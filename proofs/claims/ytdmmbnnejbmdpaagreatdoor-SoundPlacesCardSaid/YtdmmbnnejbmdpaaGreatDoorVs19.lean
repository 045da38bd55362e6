/-
  Part of the proof of SoundPlaces.
-/
import Derived.Test.YtdmmbnnejbmdpaaGreatDoorVs18
import Derived.Test.YtdmmbnnejbmdpaaGreatDoorVs27
import Derived.ChangeKeysEq
import Derived.Test.YtdmmbnnejbmdpaaGreatDoorVs0
set_option maxRecDepth 10000
set_option maxHeartbeats 400000
set_option linter.unusedVariables false
set_option linter.unusedSimpArgs false
section
namespace Go.Proofs.YtdmmbnnejbmdpaaGreatDoor
open Go.RowKit
theorem part_at (w : World) (xs : Array Value) (i : Nat) (x : Int) (h : xs[i]? = some (.int .u64 x)) : (part 33 xs i).run Tryz.prog w = .ok (.int .u64 x) w := by
 have ht : Tryz.prog.underlying 33 = some (.int .u64) := Tryz.underlying33
 unfold part
 simp [run_underlying ht, h]
theorem eqItem (w : World) (d i : Nat) (xs ys : Array Value) (is : List Nat) (x y : Int) (hx : xs[i]? = some (.int .u64 x)) (hy : ys[i]? = some (.int .u64 y)) :
 (Op.eqItems (d + 1) 33 1 xs ys (i :: is)).run Tryz.prog w = if x = y then (Op.eqItems (d + 1) 33 1 xs ys is).run Tryz.prog w else .ok false w := by
 have ht : Tryz.prog.underlying 33 = some (.int .u64) := Tryz.underlying33
 simp only [Op.eqItems, Sem.run_bind, Nat.mul_one, part_at w xs i x hx, part_at w ys i y hy, Result.andThen_ok, run_equalIn_int w d _ _ _ x y ht]
 by_cases h : x = y
 ·simp [h]
 ·have : (x == y) = false := by rw [beq_eq_false_iff_ne]; exact h
  simp [h, this]
theorem eq8 (w : World) (x0 x1 x2 x3 x4 x5 x6 x7 y0 y1 y2 y3 y4 y5 y6 y7 : Nat) :
 (Op.equalIn 10000 150 (.agg #[.int .u64 x0, .int .u64 x1, .int .u64 x2, .int .u64 x3, .int .u64 x4, .int .u64 x5, .int .u64 x6, .int .u64 x7]) (.agg #[.int .u64 y0, .int .u64 y1, .int .u64 y2, .int .u64 y3, .int .u64 y4, .int .u64 y5, .int .u64 y6, .int .u64 y7])).run Tryz.prog w
   = .ok (decide ([x0, x1, x2, x3, x4, x5, x6, x7] = [y0, y1, y2, y3, y4, y5, y6, y7])) w := by
 obtain ⟨i0, hi, hz0, hz1, hz2⟩ := info_parts infoU64
 have hu : Tryz.prog.underlying 150 = some (.array 8 33) := Tryz.underlying150
 have hc : Tryz.prog.cellsOf 33 = 1 := by unfold Program.cellsOf; simp [hi, hz1]
 rw [run_equalIn_array w 9999 _ _ hu hi, hc, show List.range 8 = [0, 1, 2, 3, 4, 5, 6, 7] by decide]
 rw [eqItem w 9998 0 _ _ _ x0 y0 rfl rfl, eqItem w 9998 1 _ _ _ x1 y1 rfl rfl, eqItem w 9998 2 _ _ _ x2 y2 rfl rfl, eqItem w 9998 3 _ _ _ x3 y3 rfl rfl, eqItem w 9998 4 _ _ _ x4 y4 rfl rfl, eqItem w 9998 5 _ _ _ x5 y5 rfl rfl, eqItem w 9998 6 _ _ _ x6 y6 rfl rfl, eqItem w 9998 7 _ _ _ x7 y7 rfl rfl]
 simp only [Op.eqItems, Sem.run_pure, Int.ofNat_inj]
 by_cases h0 : x0 = y0 <;> by_cases h1 : x1 = y1 <;> by_cases h2 : x2 = y2 <;> by_cases h3 : x3 = y3 <;> by_cases h4 : x4 = y4 <;> by_cases h5 : x5 = y5 <;> by_cases h6 : x6 = y6 <;> by_cases h7 : x7 = y7 <;> simp [h0, h1, h2, h3, h4, h5, h6, h7]
end Go.Proofs.YtdmmbnnejbmdpaaGreatDoor
end
section
namespace Go.Proofs.YtdmmbnnejbmdpaaGreatDoor
open Go.RowKit
def pwI (i : Nat) : Int := ((2 ^ i : Nat) : Int)
theorem refPower10 (i : Nat) (w : World) (hi : i < 64) : Calls Tryz.prog 96 #[.int .i64 i] w fun e w' => e = .returned (.int .u64 (pwI i)) ∧ w = w' := by
 go_enter Tryz.func96, Tryz.ntmps96
 go_wp2
 go_loop [3, 4] (fun v k => ∃ j : Nat, j ≤ i ∧ k = .int .i64 j ∧ v = .int .u64 ((2 ^ j : Nat) : Int)) (fun _ k => 65 - (intOf k).toNat)
 case atStart => exact ⟨0, by omega, rfl, by simp⟩
 case round =>
  obtain ⟨j, hj, rfl, rfl⟩ := hrel
  have hp := pow_lt64 (k := j) (by omega)
  have hps : 2 * 2 ^ j = 2 ^ (j + 1) := by rw [Nat.pow_succ, Nat.mul_comm]
  by_cases hlt : (j : Int) < i
  ·have hp2 := pow_lt64 (k := j + 1) (by omega)
   rw [← hps] at hp2
   generalize hy : 2 ^ j = y at *
   have HD := lh hps
   clear hps hy
   go_wp2
   go_round
   case rel => exact ⟨j + 1, by omega, by go_num, by rw [← HD.out]; go_num⟩
   case measure => simp [intOf]; omega
  ·obtain rfl : j = i := by omega
   clear hps hp
   have HP : Hid (pwI j = ((2 ^ j : Nat) : Int)) := rfl
   generalize 2 ^ j = y at *
   go_wp2
   go_ret
   exact ⟨by rw [HP.out]; rfl, rfl⟩
end Go.Proofs.YtdmmbnnejbmdpaaGreatDoor
end
