/-
  Part of the proof of MendLanes.
-/
import Derived.Test.YtkdhdibjbabgfaaGreatDoorVl14
import Derived.Test.YtkdhdibjbabgfaaGreatDoorVl28
import Derived.Test.YtkdhdibjbabgfaaGreatDoorVl7
import Derived.Test.YtkdhdibjbabgfaaGreatDoorVl0
set_option maxRecDepth 10000
set_option maxHeartbeats 800000
set_option linter.unusedVariables false
set_option linter.unusedSimpArgs false
section
namespace Go.Proofs.YtkdhdibjbabgfaaGreatDoor
open Go.RowKit
def pwI (i : Nat) : Int := ((2 ^ i : Nat) : Int)
theorem refPower10 (i : Nat) (w : World) (hi : i < 64) : Calls Tryz.prog 118 #[.int .i64 i] w fun e w' => e = .returned (.int .u64 (pwI i)) ∧ w = w' := by
 go_enter Tryz.func118, Tryz.ntmps118
 go_wp2
 go_loop [3, 4] (fun v k => ∃ j : Nat, j ≤ i ∧ k = .int .i64 j ∧ v = .int .u64 ((2 ^ j : Nat) : Int)) (fun _ k => 65 - (intOf k).toNat)
 case atStart => exact ⟨0, by omega, rfl, by simp⟩
 case round =>
  obtain ⟨j, hj, rfl, rfl⟩ := hrel
  have hp := pow_lt64 (k := j) (by omega)
  have hps : 2 * 2 ^ j = 2 ^ (j + 1) := by rw [Nat.pow_succ, Nat.mul_comm]
  by_cases hlt : (j : Int) < i
  ·have hp2 := pow_lt64 (k := j + 1) (by omega)
   rw [← hps] at hp2
   generalize hy : 2 ^ j = y at *
   have HD := lh hps
   clear hps hy
   go_wp2
   go_round
   case rel => exact ⟨j + 1, by omega, by go_num, by rw [← HD.out]; go_num⟩
   case measure => simp [intOf]; omega
  ·obtain rfl : j = i := by omega
   clear hps hp
   have HP : Hid (pwI j = ((2 ^ j : Nat) : Int)) := rfl
   generalize 2 ^ j = y at *
   go_wp2
   go_ret
   exact ⟨by rw [HP.out]; rfl, rfl⟩
end Go.Proofs.YtkdhdibjbabgfaaGreatDoor
end
section
namespace Go.Proofs.YtkdhdibjbabgfaaGreatDoor
open Go.RowKit
def FB (x : Sp) : Prop := 0 ≤ x.1 ∧ x.1 ≤ 1099511627776 ∧ 0 ≤ x.2 ∧ x.2 ≤ 40
instance (x : Sp) : Decidable (FB x) := by unfold FB; infer_instance
theorem PL.lit (w : World) (l : List Sp) (hl : l.length ≤ 1000) : PL (w.alloc (.cells (spv l).toArray (51 : Nat))) (.slice (some ⟨w.heap.size, 0, none⟩) l.length l.length) l := by
 have := World.ownsRow_lit (base := w.heap.size) (e := 51) (size := 2) w (spv l).toArray l.length (Nat.le_refl _) (by unfold maxLen; omega) (by simp [spv_len])
 exact OwnSp.pl (base := w.heap.size) this
end Go.Proofs.YtkdhdibjbabgfaaGreatDoor
end
section
namespace Go.Proofs.YtkdhdibjbabgfaaGreatDoor
open Go.RowKit
theorem refTable_t (W L : Int) (w : World) (h : gOk W L = true) :
 Calls Tryz.prog 28 #[.agg #[.int .i64 W, .int .i64 L]] w fun e w' => e = .returned (.agg #[.int .i64 (10 + 73 * L), .int .i64 (gN W L)]) ∧ Below w.heap.size w w' := by
 obtain ⟨h1, h2, _, _⟩ := gOk_t h
 have H := lh h
 clear h
 go_enter Tryz.func28, Tryz.ntmps28
 go_wp2_with fail
 refine (refRight_t W L _ H.out).mono ?_
 rintro e w1 ⟨rfl, hb⟩
 have k1 := (C2.new (w.alloc (.cells #[.int .i64 W, .int .i64 L] 33)) (.int .i64 0) (.int .i64 0) 51).keep hb
 have j1 := ((C2.new w (.int .i64 W) (.int .i64 L) 33).alloc (.cells #[.int .i64 0, .int .i64 0] 51)).keep hb
 have f1 := (F2.new (w.alloc (.cells #[.int .i64 W, .int .i64 L] 33)) (.int .i64 0) (.int .i64 0) 51).keep (by simp) hb
 simp only [World.size_alloc] at k1 f1
 have hB : Below w.heap.size w w1 := ((bZ _ _).alloc (by simp) _).trans (hb.mono (by simp; omega))
 have lt1 := k1.lt
 obtain ⟨c0, c1⟩ := id k1
 obtain ⟨d0, d1⟩ := id j1
 obtain ⟨g0, g1⟩ := id f1
 go_wp2_with fail
 have e1 : IntKind.i64.wrap (73 * L) = 73 * L := IntWalk.i64_in _ ⟨by omega, by omega⟩
 have e2 : IntKind.i64.wrap (10 + 73 * L) = 10 + 73 * L := IntWalk.i64_in _ ⟨by omega, by omega⟩
 go_region_with (first
  | (go_at_call 57; refine (refChunks_t W L _ H.out).mono ?_; rintro e w6 ⟨rfl, hb⟩; have BB : Below w.heap.size w w6 := hB.drew.trans (hb.mono (Nat.le_of_lt j1.drew.lt)); have jj : C2 w6 w.heap.size (.int .i64 W) (.int .i64 L) := j1.drew.keep hb; have kk : C2 w6 (w.heap.size + 1) (.int .i64 0) (.int .i64 0) := k1.drew.keep hb; have ff : F2 w6 (w.heap.size + 1) := f1.drew.keep k1.drew.lt hb; obtain ⟨d0, d1⟩ := id jj; obtain ⟨c0, c1⟩ := id kk; obtain ⟨g0, g1⟩ := id ff))
 all_goals
  go_wp2_with fail
  refine bodyPost_ret (v := .agg #[.int .i64 (10 + 73 * L), .int .i64 (gN W L)]) (by simp [results, Tryz.results28, go_sem, c0, c1]) rfl ⟨rfl, ?_⟩
  exact (BB.setCell (by simp) _).setCell (by simp) _
theorem refChunk_yes (W L i : Int) (w : World) (h : gOk W L = true) (hi : 0 ≤ i) (hi2 : i < gN W L) :
 Calls Tryz.prog 48 #[.agg #[.int .i64 W, .int .i64 L], .int .i64 i] w fun e w' => e = .returned (.agg #[.int .i64 (cFrom W L i), .int .i64 32]) ∧ Below w.heap.size w w' := by
 obtain ⟨n1, n2, n3, n4⟩ := gN_bd h
 obtain ⟨h1, h2, h3, h4⟩ := gOk_t h
 have H := lh h
 clear h
 go_enter Tryz.func48, Tryz.ntmps48
 go_wp2_with fail
 refine (refChunks_t W L _ H.out).mono ?_
 rintro e w1 ⟨rfl, hb⟩
 have k1 := (C2.new (w.alloc (.cells #[.int .i64 W, .int .i64 L] 33)) (.int .i64 0) (.int .i64 0) 51).keep hb
 have j1 := ((C2.new w (.int .i64 W) (.int .i64 L) 33).alloc (.cells #[.int .i64 0, .int .i64 0] 51)).keep hb
 have f1 := (F2.new (w.alloc (.cells #[.int .i64 W, .int .i64 L] 33)) (.int .i64 0) (.int .i64 0) 51).keep (by simp) hb
 simp only [World.size_alloc] at k1 f1
 have hB : Below w.heap.size w w1 := ((bZ _ _).alloc (by simp) _).trans (hb.mono (by simp; omega))
 have lt1 := k1.lt
 obtain ⟨c0, c1⟩ := id k1
 obtain ⟨d0, d1⟩ := id j1
 obtain ⟨g0, g1⟩ := id f1
 go_wp2_with fail
 refine bodyPost_ret (v := .agg #[.int .i64 (cFrom W L i), .int .i64 32]) (by simp [results, Tryz.results48, go_sem, c0, c1, cFrom]; omega) rfl ⟨rfl, ?_⟩
 go_grown
end Go.Proofs.YtkdhdibjbabgfaaGreatDoor
end
