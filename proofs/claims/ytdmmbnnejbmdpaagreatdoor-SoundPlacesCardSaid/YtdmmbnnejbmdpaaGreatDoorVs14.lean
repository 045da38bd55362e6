/-
  Part of the proof of SoundPlaces.
-/
import Derived.Test.YtdmmbnnejbmdpaaGreatDoorVs12
import Derived.Test.YtdmmbnnejbmdpaaGreatDoorVs13
import Derived.Test.YtdmmbnnejbmdpaaGreatDoorVs25
import Derived.LoopIn
import Derived.LoopNIn
import Derived.Maps.AppendAt
import Derived.OwnWalkIn
import Derived.RangeFuncBound
import Derived.RangeFuncBox
import Derived.RangeFuncCalls
import Derived.RangeFuncFrom
import Derived.RangeFuncLeaves
import Derived.RangeFuncNested
import Derived.RangeFuncWrites
import Derived.Shelf.Abstract
import Derived.Shelf.RegionOpen
import Derived.TacticsInMore
import Derived.WalkKit
import Derived.Test.YtdmmbnnejbmdpaaGreatDoorVs0
set_option maxRecDepth 10000
set_option maxHeartbeats 1000000
set_option linter.unusedVariables false
set_option linter.unusedSimpArgs false
section
namespace Go.Proofs.YtdmmbnnejbmdpaaGreatDoor
open Go.RowKit
theorem refChunks_out (W L : Int) (w : World) (h : L < 1 ∨ 64 < L ∨ 65536 < W) :
 Calls Tryz.prog 65 #[.agg #[.int .i64 W, .int .i64 L]] w fun e w' => e = .returned (.int .i64 0) ∧ Below w.heap.size w w' := by
 by_cases a1 : L < 1
 ·clear h
  go_enter Tryz.func65, Tryz.ntmps65
  go_wp2
  go_ret
  exact ⟨rfl, by go_grown⟩
 by_cases a2 : 64 < L
 ·clear h
  go_enter Tryz.func65, Tryz.ntmps65
  go_wp2
  go_ret
  exact ⟨rfl, by go_grown⟩
 have a3 : 65536 < W := by omega
 clear h
 go_enter Tryz.func65, Tryz.ntmps65
 go_wp2
 go_ret
 exact ⟨rfl, by go_grown⟩
def rN (W L : Int) : Int := if gOk W L then gN W L else 0
theorem refChunks_in (W L : Int) (w : World) (h1 : 1 ≤ L) (h2 : L ≤ 64) (h3 : W ≤ 65536) :
 Calls Tryz.prog 65 #[.agg #[.int .i64 W, .int .i64 L]] w fun e w' => e = .returned (.int .i64 (rN W L)) ∧ Below w.heap.size w w' := by
 go_enter Tryz.func65, Tryz.ntmps65
 go_wp2
 go_loop [3] (fun n => ∃ k : Nat, n = .int .i64 k ∧ (k = 0 ∨ 10 + 73 * L + 33 * (k : Int) ≤ W)) (fun n => 2000 - (intOf n).toNat)
 case atStart => exact ⟨0, rfl, .inl rfl⟩
 case round =>
  obtain ⟨k, rfl, hk⟩ := hrel
  have hk2 : (k : Int) ≤ 1990 := by omega
  by_cases hlt : 10 + 73 * L + 33 * ((k : Int) + 1) ≤ W
  ·clear hk
   go_wp2
   go_round
   case rel => exact ⟨k + 1, by go_num, .inr (by omega)⟩
   case measure => simp [intOf]; omega
  ·have Hk := lh hk
   clear hk
   go_wp2
   go_ret
   refine ⟨ret_i ?_, by go_grown⟩
   have hk := Hk.out
   unfold rN
   by_cases ho : gOk W L = true
   ·have := gN_bd ho
    rw [if_pos ho]; omega
   ·rw [if_neg ho]
    have := gOk_f (by simpa using ho : gOk W L = false)
    omega
theorem refChunks_t (W L : Int) (w : World) (h : gOk W L = true) :
 Calls Tryz.prog 65 #[.agg #[.int .i64 W, .int .i64 L]] w fun e w' => e = .returned (.int .i64 (gN W L)) ∧ Below w.heap.size w w' := by
 obtain ⟨h1, h2, h3, h4⟩ := gOk_t h
 have := refChunks_in W L w h1 h2 h3
 rwa [show rN W L = gN W L from if_pos h] at this
theorem refChunks_f (W L : Int) (w : World) (h : gOk W L = false) :
 Calls Tryz.prog 65 #[.agg #[.int .i64 W, .int .i64 L]] w fun e w' => e = .returned (.int .i64 0) ∧ Below w.heap.size w w' := by
 by_cases ho : L < 1 ∨ 64 < L ∨ 65536 < W
 ·exact refChunks_out W L w ho
 ·have := refChunks_in W L w (by omega) (by omega) (by omega)
  rwa [show rN W L = 0 from if_neg (by simp [h])] at this
theorem refRight_t (W L : Int) (w : World) (h : gOk W L = true) :
 Calls Tryz.prog 64 #[.agg #[.int .i64 W, .int .i64 L]] w fun e w' => e = .returned (.bool true) ∧ Below w.heap.size w w' := by
 obtain ⟨n1, n2, n3, n4⟩ := gN_bd h
 have H := lh h
 clear h
 go_enter Tryz.func64, Tryz.ntmps64
 go_wp2_with fail
 refine (refChunks_t W L _ H.out).mono ?_
 rintro e w1 ⟨rfl, hb⟩
 go_wp2_with fail
 go_ret
 exact ⟨rfl, (bZ _ _).trans (hb.mono (by simp))⟩
theorem refRight_f (W L : Int) (w : World) (h : gOk W L = false) :
 Calls Tryz.prog 64 #[.agg #[.int .i64 W, .int .i64 L]] w fun e w' => e = .returned (.bool false) ∧ Below w.heap.size w w' := by
 have H := lh h
 clear h
 go_enter Tryz.func64, Tryz.ntmps64
 go_wp2_with fail
 refine (refChunks_f W L _ H.out).mono ?_
 rintro e w1 ⟨rfl, hb⟩
 go_wp2_with fail
 go_ret
 exact ⟨rfl, (bZ _ _).trans (hb.mono (by simp))⟩
end Go.Proofs.YtdmmbnnejbmdpaaGreatDoor
end
section
namespace Go.Proofs.YtdmmbnnejbmdpaaGreatDoor
open Go.RowKit Go.Shelf
attribute [local go_sem] Oper.semAt_some
theorem places_in_ti (n : Nat) (x : Int) (w : World) :
 CallsIn Fence.wide n Tryz.prog 136 #[.int .u64 x] w fun e w' => e = .returned (.func (.func 138) #[] #[.pointer (some ⟨w.heap.size, 0, none⟩)]) ∧ w.alloc (.cells #[.int .u64 x] 33) = w' := by
 refine callsIn_wide.2 ?_
 go_enter Tryz.func136, Tryz.ntmps136
 go_wp2
 go_ret
 exact ⟨rfl, rfl⟩
theorem clear_walk (r : Nat) (h0 : 0 < r) (h : r < 18446744073709551616) : bits .and .u64 (r : Int) ((r : Int) - 1) = ((r &&& (r - 1) : Nat) : Int) := by
 rw [show ((r : Int) - 1) = ((r - 1 : Nat) : Int) by omega, u64_and_nat r (r - 1) h (by omega)]
theorem places1_in (n : Nat) (hn : 1 ≤ n) (l Bn n₀ x : Nat) (hx : x < 18446744073709551616) (J Jx : List Nat → World → Prop)
 (hY : ∀ pre (y : Nat) W, J pre W → pre.length < (onesL x 64).length → YieldAt Fence.wide (n - 1) Tryz.prog l #[.int .i64 (y : Int)] W fun e W' =>
   (e = .returned (.bool true) ∧ J (pre ++ [y]) W' ∧ Below n₀ W W') ∨ (e = .returned (.bool false) ∧ Jx (pre ++ [y]) W'))
 (W : World) (hBn : W.cell? ⟨Bn, 0, none⟩ = some (.int .u64 x)) (hd : Deb W) (hn₀ : 6 < n₀) (h0 : J [] W) :
 CallsIn Fence.wide n Tryz.prog 138 #[.func (.yield l) #[] #[], .pointer (some ⟨Bn, 0, none⟩)] W fun e W' => (∃ v, e = .returned v) ∧
  ((∃ ys, ys = onesL x 64 ∧ J ys W') ∨ (∃ pre, pre <+: onesL x 64 ∧ Jx pre W')) := by
 refine callsIn_of_wp Tryz.func138 rfl trivial ?_ rfl
 simp only [Tryz.ntmps138, List.size_toArray, List.length_cons, List.length_nil, Nat.reduceAdd, Nat.reduceSub, Array.replicate_succ, Array.replicate_zero, List.push_toArray, List.append_toArray, List.nil_append, List.cons_append]
 gi_wp2
 gi_loopw [3] (fun p wr => ∃ (pre : List Nat) (r : Nat), p = .int .u64 r ∧ r < 18446744073709551616 ∧ onesL x 64 = pre ++ onesL r 64 ∧ Deb wr ∧ J pre wr)
  (fun p wr => (onesL (intOf p).toNat 64).length)
 case atStart =>
  exact ⟨[], x, rfl, hx, rfl, hd, h0⟩
 case round =>
  obtain ⟨pre, r, rfl, hr, hx', hdw, hJs⟩ := hrel
  by_cases hz : r = 0
  ·subst hz
   gi_wp2
   go_end0
   exact ⟨⟨_, rfl⟩, .inl ⟨pre, by rw [hx', ones_zero, List.append_nil], hJs⟩⟩
  ·obtain ⟨t, m, e⟩ := low_bit r (by omega)
   have ht : t < 64 := tz_lt t m (by rw [← e]; omega)
   have hstep := ones_step t m 64 ht
   have htz := tz_any t m wr (by rw [← e]; omega) hdw
   rw [← e] at hstep htz
   have hcl := clear_walk r (by omega) hr
   have hne : ((r : Int) != 0) = true := by simp; omega
   obtain ⟨fn, tmps, assign, body, hy, hR⟩ := hY pre t wr hJs (by rw [hx', hstep]; simp)
   have HX := lh hx'
   have HS := lh hstep
   have HC := lh hcl
   have HT := lh htz
   clear hx' hstep hcl htz e hY
   have hr0 : 0 < (r : Int) := by omega
   gi_wp2
   refine ⟨trivial, (callsIn_wide.2 HT.out).mono ?_⟩
   rintro e w' ⟨rfl, rfl⟩
   gi_wp2
   refine hR.mono ?_
   rintro e W3 (⟨rfl, hJ3, hk3⟩ | ⟨rfl, hJx3⟩)
   ·have hc := HC.out
    gi_wp2
    go_roundw
    case rel =>
     refine ⟨pre ++ [t], r &&& (r - 1), ?_, Nat.lt_of_le_of_lt Nat.and_le_left hr, ?_, hdw.keep hk3 hn₀, hJ3⟩
     ·rfl
     ·rw [HX.out, HS.out]; simp
    case measure =>
     show (onesL (((r &&& (r - 1) : Nat) : Int)).toNat 64).length < (onesL ((r : Int)).toNat 64).length
     simp only [Int.toNat_natCast]
     rw [HS.out]
     simp
   ·gi_wp2
    refine bodyPost_ret (results_none rfl _ _ _) rfl ?_
    exact ⟨⟨_, rfl⟩, .inr ⟨pre ++ [t], ⟨onesL (r &&& (r - 1)) 64, by rw [HX.out, HS.out]; simp⟩, hJx3⟩⟩
theorem places_stops (n : Nat) (hn : 1 ≤ n) (Bn n₀ x : Nat) (hx : x < 18446744073709551616) (w : World) (hBn : Bn < w.heap.size) (hn₀ : n₀ ≤ w.heap.size) (hn1 : 6 < n₀)
 (hc : w.cell? ⟨Bn, 0, none⟩ = some (.int .u64 x)) (hd : Deb w) :
 SeqStopsK Fence.wide n Tryz.prog 138 #[.pointer (some ⟨Bn, 0, none⟩)] (fun y : Nat => #[Value.int .i64 y]) (Below n₀) (fun ys => ys = onesL x 64) (fun pre => pre <+: onesL x 64) (onesL x 64).length w := fun l J Jx W hW _ _ hY h0 =>
 places1_in n hn l Bn n₀ x hx J Jx hY W ((hW.cell (p := ⟨Bn, 0, none⟩) hBn).trans hc) (hd.keep (hW.mono hn₀) hn1) hn1 h0
end Go.Proofs.YtdmmbnnejbmdpaaGreatDoor
end
section
namespace Go.Proofs.YtdmmbnnejbmdpaaGreatDoor
open Go.RowKit
theorem has_yes (W L i : Int) (w : World) (h : gOk W L = true) (hi : 0 ≤ i) (hi2 : i < L) :
 Calls Tryz.prog 103 #[.agg #[.int .i64 W, .int .i64 L], .int .i64 i] w fun e w' => e = .returned (.bool true) ∧ Below w.heap.size w w' := by
 have H := lh h
 clear h
 go_enter Tryz.func103, Tryz.ntmps103
 go_wp2_with fail
 refine (right_t W L _ H.out).mono ?_
 rintro e w1 ⟨rfl, hb⟩
 have k1 := (C2.new w (.int .i64 W) (.int .i64 L) 51).keep hb
 obtain ⟨c0, c1⟩ := id k1
 go_wp2_with fail
 go_ret
 exact ⟨ret_b (by simp), (bZ _ _).trans (hb.mono (by simp))⟩
theorem has_t (W L i : Int) (w : World) (h : lOk W L i = true) :
 Calls Tryz.prog 103 #[.agg #[.int .i64 W, .int .i64 L], .int .i64 i] w fun e w' => e = .returned (.bool true) ∧ Below w.heap.size w w' := has_yes W L i w (lOk_t h).1 (lOk_t h).2.1 (lOk_t h).2.2
theorem mark_t (W L i : Int) (w : World) (h : lOk W L i = true) :
 Calls Tryz.prog 71 #[.agg #[.int .i64 W, .int .i64 L], .int .i64 i] w fun e w' => e = .returned (.int .i64 (10 + i)) ∧ Below w.heap.size w w' := by
 obtain ⟨h0, h1, h2⟩ := lOk_t h
 obtain ⟨h3, h4, _, _⟩ := gOk_t h0
 clear h0
 have H := lh h
 clear h
 go_enter Tryz.func71, Tryz.ntmps71
 go_wp2_with fail
 refine (has_t W L i _ H.out).mono ?_
 rintro e w1 ⟨rfl, hb⟩
 go_wp2_with fail
 go_ret
 exact ⟨rfl, (bZ _ _).trans (hb.mono (by simp))⟩
end Go.Proofs.YtdmmbnnejbmdpaaGreatDoor
end
