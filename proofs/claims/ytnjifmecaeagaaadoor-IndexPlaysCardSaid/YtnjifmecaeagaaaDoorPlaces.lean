/-
  Package field's iterator of a word's ones: what it hands to a loop's body, and what becomes of the world.
-/
import Derived.RangeFuncNested
import Derived.RangeFuncBound
import Derived.RangeFuncCalls
import Derived.RangeFuncLeaves
import Derived.RangeFuncFrom
import Derived.RangeFuncWrites
import Derived.RangeFuncBox
import Derived.Maps.AppendAt
import Derived.Shelf.Abstract
import Derived.Shelf.RegionOpen
import Derived.WalkKit
import Derived.OwnWalkIn
import Derived.TacticsInMore
import Derived.LoopNIn
import Derived.LoopIn
import Derived.Test.YtnjifmecaeagaaaDoorTz
set_option linter.unusedVariables false
namespace Go.Proofs.YtnjifmecaeagaaaDoor
open Go.RowKit Go.Shelf
attribute [local go_sem] Oper.semAt_some

theorem cell_of_box {W : World} {B : Nat} {v : Value} {t : TypeId} (h : W.heap[B]? = some (.cells #[v] t (0, 0))) : W.cell? ⟨B, 0, none⟩ = some v ∧ W.frozen? ⟨B, 0, none⟩ = false := by
  constructor <;> simp [World.cell?, World.frozen?, h]
theorem cell_new (W : World) (v : Value) (t : TypeId) : (W.alloc (.cells #[v] t)).cell? ⟨W.heap.size, 0, none⟩ = some v ∧ (W.alloc (.cells #[v] t)).frozen? ⟨W.heap.size, 0, none⟩ = false :=
  cell_of_box (World.alloc_heap_new W _)
theorem cell_alloc_at {W : World} {a : Addr} {v : Value} (o : Obj) (h : W.cell? a = some v) : (W.alloc o).cell? a = some v := cell_kept h (World.grownBy_alloc W o none) (fun r e => by cases e)
theorem frozen_alloc_at {W : World} {a : Addr} {v : Value} (o : Obj) (h : W.cell? a = some v) (hf : W.frozen? a = false) : (W.alloc o).frozen? a = false := (frozen_kept h (World.grownBy_alloc W o none) (fun r e => by cases e)).trans hf

set_option maxHeartbeats 400000 in
theorem places_in (n : Nat) (x : Int) (w : World) :
    CallsIn Fence.wide n Tryd.prog 101 #[.int .u64 x] w fun e w' => e = .returned (.func (.func 108) #[] #[.pointer (some ⟨w.heap.size, 0, none⟩)]) ∧ w.alloc (.cells #[.int .u64 x] 27) = w' := by
  refine callsIn_wide.2 ?_
  go_enter Tryd.func101, Tryd.ntmps101
  go_wp2
  go_ret
  exact ⟨rfl, rfl⟩

theorem clear_walk (r : Nat) (h0 : 0 < r) (h : r < 18446744073709551616) : bits .and .u64 (r : Int) ((r : Int) - 1) = ((r &&& (r - 1) : Nat) : Int) := by
  rw [show ((r : Int) - 1) = ((r - 1 : Nat) : Int) by omega, u64_and_nat r (r - 1) h (by omega)]

set_option maxHeartbeats 1000000 in
theorem places1_in (n : Nat) (hn : 1 ≤ n) (l Bn n₀ x : Nat) (hx : x < 18446744073709551616) (J Jx : List Nat → World → Prop)
    (hY : ∀ pre (y : Nat) W, J pre W → pre.length < (onesL x 64).length → YieldAt Fence.wide (n - 1) Tryd.prog l #[.int .i64 (y : Int)] W fun e W' =>
      (e = .returned (.bool true) ∧ J (pre ++ [y]) W' ∧ Below n₀ W W') ∨ (e = .returned (.bool false) ∧ Jx (pre ++ [y]) W'))
    (W : World) (hBn : W.cell? ⟨Bn, 0, none⟩ = some (.int .u64 x)) (hd : Deb W) (hn₀ : 6 < n₀) (h0 : J [] W) :
    CallsIn Fence.wide n Tryd.prog 108 #[.func (.yield l) #[] #[], .pointer (some ⟨Bn, 0, none⟩)] W fun e W' => (∃ v, e = .returned v) ∧
      ((∃ ys, ys = onesL x 64 ∧ J ys W') ∨ (∃ pre, pre <+: onesL x 64 ∧ Jx pre W')) := by
  refine callsIn_of_wp Tryd.func108 rfl trivial ?_ rfl
  simp only [Tryd.ntmps108, List.size_toArray, List.length_cons, List.length_nil, Nat.reduceAdd, Nat.reduceSub, Array.replicate_succ, Array.replicate_zero, List.push_toArray, List.append_toArray, List.nil_append, List.cons_append]
  gi_wp2
  gi_loopw [3] (fun p wr => ∃ (pre : List Nat) (r : Nat), p = .int .u64 r ∧ r < 18446744073709551616 ∧ onesL x 64 = pre ++ onesL r 64 ∧ Deb wr ∧ J pre wr)
    (fun p wr => (onesL (intOf p).toNat 64).length)
  case atStart =>
    exact ⟨[], x, rfl, hx, rfl, hd, h0⟩
  case round =>
    obtain ⟨pre, r, rfl, hr, hx', hdw, hJs⟩ := hrel
    by_cases hz : r = 0
    · subst hz
      gi_wp2
      go_end0
      exact ⟨⟨_, rfl⟩, .inl ⟨pre, by rw [hx', ones_zero, List.append_nil], hJs⟩⟩
    · obtain ⟨t, m, e⟩ := low_bit r (by omega)
      have ht : t < 64 := tz_lt t m (by rw [← e]; omega)
      have hstep := ones_step t m 64 ht
      have htz := tz_any t m wr (by rw [← e]; omega) hdw
      rw [← e] at hstep htz
      have hcl := clear_walk r (by omega) hr
      have hne : ((r : Int) != 0) = true := by simp; omega
      obtain ⟨fn, tmps, assign, body, hy, hR⟩ := hY pre t wr hJs (by rw [hx', hstep]; simp)
      have HX := Lib.hid hx'
      have HS := Lib.hid hstep
      have HC := Lib.hid hcl
      have HT := Lib.hid htz
      clear hx' hstep hcl htz e hY
      have hr0 : 0 < (r : Int) := by omega
      gi_wp2
      refine ⟨trivial, (callsIn_wide.2 HT.out).mono ?_⟩
      rintro e w' ⟨rfl, rfl⟩
      gi_wp2
      refine hR.mono ?_
      rintro e W3 (⟨rfl, hJ3, hk3⟩ | ⟨rfl, hJx3⟩)
      · have hc := HC.out
        gi_wp2
        go_roundw
        case rel =>
          refine ⟨pre ++ [t], r &&& (r - 1), ?_, Nat.lt_of_le_of_lt Nat.and_le_left hr, ?_, hdw.keep hk3 hn₀, hJ3⟩
          · rfl
          · rw [HX.out, HS.out]; simp
        case measure =>
          show (onesL (((r &&& (r - 1) : Nat) : Int)).toNat 64).length < (onesL ((r : Int)).toNat 64).length
          simp only [Int.toNat_natCast]
          rw [HS.out]
          simp
      · gi_wp2
        refine bodyPost_ret (results_none rfl _ _ _) rfl ?_
        exact ⟨⟨_, rfl⟩, .inr ⟨pre ++ [t], ⟨onesL (r &&& (r - 1)) 64, by rw [HX.out, HS.out]; simp⟩, hJx3⟩⟩

theorem places_stops (n : Nat) (hn : 1 ≤ n) (Bn n₀ x : Nat) (hx : x < 18446744073709551616) (w : World) (hBn : Bn < w.heap.size) (hn₀ : n₀ ≤ w.heap.size) (hn1 : 6 < n₀)
    (hc : w.cell? ⟨Bn, 0, none⟩ = some (.int .u64 x)) (hd : Deb w) :
    SeqStopsK Fence.wide n Tryd.prog 108 #[.pointer (some ⟨Bn, 0, none⟩)] (fun y : Nat => #[Value.int .i64 y]) (Below n₀) (fun ys => ys = onesL x 64) (fun pre => pre <+: onesL x 64) (onesL x 64).length w := fun l J Jx W hW _ _ hY h0 =>
  places1_in n hn l Bn n₀ x hx J Jx hY W ((hW.cell (p := ⟨Bn, 0, none⟩) hBn).trans hc) (hd.keep (hW.mono hn₀) hn1) hn1 h0

end Go.Proofs.YtnjifmecaeagaaaDoor
