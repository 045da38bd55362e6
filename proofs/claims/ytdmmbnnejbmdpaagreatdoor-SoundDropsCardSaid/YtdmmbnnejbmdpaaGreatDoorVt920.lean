/-
  Part of the proof of SoundApart,SoundTwins,SoundWords.
-/
import Derived.Test.YtdmmbnnejbmdpaaGreatDoorVt916
import Derived.Test.YtdmmbnnejbmdpaaGreatDoorVt919
import Derived.Test.YtdmmbnnejbmdpaaGreatDoorVt95
import Derived.Test.YtdmmbnnejbmdpaaGreatDoorVt96
import Derived.Test.YtdmmbnnejbmdpaaGreatDoorVt97
import Derived.LoopIn
import Derived.LoopNIn
import Derived.OwnWalkIn
import Derived.RangeFuncBound
import Derived.RangeFuncBox
import Derived.RangeFuncCalls
import Derived.RangeFuncFrom
import Derived.RangeFuncLeaves
import Derived.RangeFuncNested
import Derived.RangeFuncWrites
import Derived.Shelf.Abstract
import Derived.Shelf.RegionOpen
import Derived.TacticsInMore
import Derived.WalkKit
import Derived.Maps.AppendAt
import Derived.Scope
import Derived.Test.YtdmmbnnejbmdpaaGreatDoorVt90
set_option maxRecDepth 10000
set_option maxHeartbeats 1000000
set_option linter.unusedVariables false
set_option linter.unusedSimpArgs false
section
namespace Go.Proofs.YtdmmbnnejbmdpaaGreatDoor
open Go.RowKit
def PB (x : Sp) : Prop := 0 ≤ x.1 ∧ 0 ≤ x.2 ∧ x.2 ≤ 1000 ∧ x.1 + x.2 ≤ 2199023255552
def PBs (l : List Sp) : Prop := ∀ x ∈ l, PB x
theorem PBs.at {l : List Sp} (h : PBs l) (i : Nat) (hi : i < l.length) : PB (l.getD i (0, 0)) := by
 rw [List.getD_eq_getElem?_getD, List.getElem?_eq_getElem hi]
 exact h _ (List.getElem_mem hi)
end Go.Proofs.YtdmmbnnejbmdpaaGreatDoor
end
section
namespace Go.Proofs.YtdmmbnnejbmdpaaGreatDoor
open Go.RowKit Go.Shelf
attribute [local go_sem] Oper.semAt_some
def pwL (x : Sp) (m : Nat) : List Int := (List.range m).map fun i : Nat => x.1 + (i : Int)
def placesL (l : List Sp) : List Int := l.flatMap fun x => pwL x x.2.toNat
theorem pwL_succ (x : Sp) (m : Nat) : pwL x (m + 1) = pwL x m ++ [x.1 + (m : Int)] := by simp [pwL, List.range_succ]
theorem places_take (l : List Sp) (k : Nat) (h : k < l.length) : placesL (l.take (k + 1)) = placesL (l.take k) ++ pwL (l.getD k (0, 0)) (l.getD k (0, 0)).2.toNat := by
 unfold placesL
 rw [List.take_succ_eq_append_getElem h, List.flatMap_append, List.getD_eq_getElem?_getD, List.getElem?_eq_getElem h]
 simp
end Go.Proofs.YtdmmbnnejbmdpaaGreatDoor
end
section
namespace Go.Proofs.YtdmmbnnejbmdpaaGreatDoor
open Go.RowKit Go.Shelf
attribute [local go_sem] Oper.semAt_some
theorem places_in_ti (n : Nat) (x : Int) (w : World) :
 CallsIn Fence.wide n Tryz.prog 136 #[.int .u64 x] w fun e w' => e = .returned (.func (.func 138) #[] #[.pointer (some ⟨w.heap.size, 0, none⟩)]) ∧ w.alloc (.cells #[.int .u64 x] 33) = w' := by
 refine callsIn_wide.2 ?_
 go_enter Tryz.func136, Tryz.ntmps136
 go_wp2
 go_ret
 exact ⟨rfl, rfl⟩
theorem clear_walk (r : Nat) (h0 : 0 < r) (h : r < 18446744073709551616) : bits .and .u64 (r : Int) ((r : Int) - 1) = ((r &&& (r - 1) : Nat) : Int) := by
 rw [show ((r : Int) - 1) = ((r - 1 : Nat) : Int) by omega, u64_and_nat r (r - 1) h (by omega)]
theorem places1_in (n : Nat) (hn : 1 ≤ n) (l Bn n₀ x : Nat) (hx : x < 18446744073709551616) (J Jx : List Nat → World → Prop)
 (hY : ∀ pre (y : Nat) W, J pre W → pre.length < (onesL x 64).length → YieldAt Fence.wide (n - 1) Tryz.prog l #[.int .i64 (y : Int)] W fun e W' =>
   (e = .returned (.bool true) ∧ J (pre ++ [y]) W' ∧ Below n₀ W W') ∨ (e = .returned (.bool false) ∧ Jx (pre ++ [y]) W'))
 (W : World) (hBn : W.cell? ⟨Bn, 0, none⟩ = some (.int .u64 x)) (hd : Deb W) (hn₀ : 6 < n₀) (h0 : J [] W) :
 CallsIn Fence.wide n Tryz.prog 138 #[.func (.yield l) #[] #[], .pointer (some ⟨Bn, 0, none⟩)] W fun e W' => (∃ v, e = .returned v) ∧
  ((∃ ys, ys = onesL x 64 ∧ J ys W') ∨ (∃ pre, pre <+: onesL x 64 ∧ Jx pre W')) := by
 refine callsIn_of_wp Tryz.func138 rfl trivial ?_ rfl
 simp only [Tryz.ntmps138, List.size_toArray, List.length_cons, List.length_nil, Nat.reduceAdd, Nat.reduceSub, Array.replicate_succ, Array.replicate_zero, List.push_toArray, List.append_toArray, List.nil_append, List.cons_append]
 gi_wp2
 gi_loopw [3] (fun p wr => ∃ (pre : List Nat) (r : Nat), p = .int .u64 r ∧ r < 18446744073709551616 ∧ onesL x 64 = pre ++ onesL r 64 ∧ Deb wr ∧ J pre wr)
  (fun p wr => (onesL (intOf p).toNat 64).length)
 case atStart =>
  exact ⟨[], x, rfl, hx, rfl, hd, h0⟩
 case round =>
  obtain ⟨pre, r, rfl, hr, hx', hdw, hJs⟩ := hrel
  by_cases hz : r = 0
  ·subst hz
   gi_wp2
   go_end0
   exact ⟨⟨_, rfl⟩, .inl ⟨pre, by rw [hx', ones_zero, List.append_nil], hJs⟩⟩
  ·obtain ⟨t, m, e⟩ := low_bit r (by omega)
   have ht : t < 64 := tz_lt t m (by rw [← e]; omega)
   have hstep := ones_step t m 64 ht
   have htz := tz_any t m wr (by rw [← e]; omega) hdw
   rw [← e] at hstep htz
   have hcl := clear_walk r (by omega) hr
   have hne : ((r : Int) != 0) = true := by simp; omega
   obtain ⟨fn, tmps, assign, body, hy, hR⟩ := hY pre t wr hJs (by rw [hx', hstep]; simp)
   have HX := lh hx'
   have HS := lh hstep
   have HC := lh hcl
   have HT := lh htz
   clear hx' hstep hcl htz e hY
   have hr0 : 0 < (r : Int) := by omega
   gi_wp2
   refine ⟨trivial, (callsIn_wide.2 HT.out).mono ?_⟩
   rintro e w' ⟨rfl, rfl⟩
   gi_wp2
   refine hR.mono ?_
   rintro e W3 (⟨rfl, hJ3, hk3⟩ | ⟨rfl, hJx3⟩)
   ·have hc := HC.out
    gi_wp2
    go_roundw
    case rel =>
     refine ⟨pre ++ [t], r &&& (r - 1), ?_, Nat.lt_of_le_of_lt Nat.and_le_left hr, ?_, hdw.keep hk3 hn₀, hJ3⟩
     ·rfl
     ·rw [HX.out, HS.out]; simp
    case measure =>
     show (onesL (((r &&& (r - 1) : Nat) : Int)).toNat 64).length < (onesL ((r : Int)).toNat 64).length
     simp only [Int.toNat_natCast]
     rw [HS.out]
     simp
   ·gi_wp2
    refine bodyPost_ret (results_none rfl _ _ _) rfl ?_
    exact ⟨⟨_, rfl⟩, .inr ⟨pre ++ [t], ⟨onesL (r &&& (r - 1)) 64, by rw [HX.out, HS.out]; simp⟩, hJx3⟩⟩
theorem places_stops (n : Nat) (hn : 1 ≤ n) (Bn n₀ x : Nat) (hx : x < 18446744073709551616) (w : World) (hBn : Bn < w.heap.size) (hn₀ : n₀ ≤ w.heap.size) (hn1 : 6 < n₀)
 (hc : w.cell? ⟨Bn, 0, none⟩ = some (.int .u64 x)) (hd : Deb w) :
 SeqStopsK Fence.wide n Tryz.prog 138 #[.pointer (some ⟨Bn, 0, none⟩)] (fun y : Nat => #[Value.int .i64 y]) (Below n₀) (fun ys => ys = onesL x 64) (fun pre => pre <+: onesL x 64) (onesL x 64).length w := fun l J Jx W hW _ _ hY h0 =>
 places1_in n hn l Bn n₀ x hx J Jx hY W ((hW.cell (p := ⟨Bn, 0, none⟩) hBn).trans hc) (hd.keep (hW.mono hn₀) hn1) hn1 h0
end Go.Proofs.YtdmmbnnejbmdpaaGreatDoor
end
section
namespace Go.Proofs.YtdmmbnnejbmdpaaGreatDoor
open Go.RowKit Go.Shelf
attribute [local go_sem] Oper.semAt_some
def heldN (m : Int) : Nat := (min (max m 0) 64).toNat
def lowN (x : Nat) (m : Int) : Nat := x % 2 ^ heldN m
theorem lowN_lt (x : Nat) (m : Int) (hx : x < 18446744073709551616) : lowN x m < 18446744073709551616 := Nat.lt_of_le_of_lt (Nat.mod_le _ _) hx
theorem lowest_all (x : Nat) (m : Int) (w : World) (h1 : x < 18446744073709551616) :
 Calls Tryz.prog 120 #[.int .u64 x, .int .i64 m] w fun e w' => e = .returned (.int .u64 (lowN x m)) ∧ w = w' := by
 by_cases h : m ≤ 0
 ·have e : lowN x m = 0 := by unfold lowN heldN; rw [show (min (max m 0) 64).toNat = 0 by omega]; simp [Nat.mod_one]
  rw [e]
  have hz : bits .and .u64 (x : Int) 0 = 0 := by simpa using u64_and_nat x 0 h1 (by decide)
  by_cases h0 : m = 0
  ·subst h0
   go_enter Tryz.func120, Tryz.ntmps120
   go_wp2
   go_ret
   exact ⟨rfl, rfl⟩
  ·have hlt : m < 0 := by omega
   go_enter Tryz.func120, Tryz.ntmps120
   go_wp2
   go_ret
   exact ⟨rfl, rfl⟩
 ·by_cases h2 : m ≤ 64
  ·have := lowest_any (x : Int) m w (by omega) (by omega) (by omega) h2
   refine this.mono ?_
   rintro e w' ⟨rfl, rfl⟩
   refine ⟨?_, rfl⟩
   unfold lowI lowN heldN
   rw [show (min (max m 0) 64).toNat = m.toNat by omega, Int.natCast_emod, Int.natCast_pow]
   rfl
  ·have e : lowN x m = x := by unfold lowN heldN; rw [show (min (max m 0) 64).toNat = 64 by omega]; exact Nat.mod_eq_of_lt h1
   rw [e]
   have h64 : 64 < m := by omega
   go_enter Tryz.func120, Tryz.ntmps120
   go_wp2
   go_ret
   exact ⟨rfl, rfl⟩
theorem ones_len (r n : Nat) : (onesL r n).length ≤ n := by
 have := List.length_filter_le r.testBit (List.range n)
 rwa [List.length_range] at this
end Go.Proofs.YtdmmbnnejbmdpaaGreatDoor
end
section
namespace Go.Proofs.YtdmmbnnejbmdpaaGreatDoor
open Go.RowKit Go.Shelf
attribute [local go_sem] Oper.semAt_some
theorem placesL_len : ∀ (L : List Sp), PBs L → (placesL L).length = (totS L).toNat ∧ 0 ≤ totS L
 | [], _ => by simp [placesL, totS_nil]
 | x :: l, h => by
   have hx := h x (by simp)
   obtain ⟨h1, h2⟩ := placesL_len l (fun y hy => h y (by simp [hy]))
   have e : placesL (x :: l) = pwL x x.2.toNat ++ placesL l := rfl
   have e2 : (pwL x x.2.toNat).length = x.2.toNat := by simp [pwL]
   obtain ⟨_, k1, _, _⟩ := hx
   rw [e, List.length_append, e2, h1, totS_cons]
   omega
theorem totS_le : ∀ (L : List Sp), PBs L → totS L ≤ 1000 * (L.length : Int)
 | [], _ => by simp [totS_nil]
 | x :: l, h => by
   obtain ⟨_, _, k3, _⟩ := h x (by simp)
   have := totS_le l (fun y hy => h y (by simp [hy]))
   rw [totS_cons, List.length_cons]; omega
end Go.Proofs.YtdmmbnnejbmdpaaGreatDoor
end
section
namespace Go.Proofs.YtdmmbnnejbmdpaaGreatDoor
open Go.RowKit
def FB (x : Sp) : Prop := 0 ≤ x.1 ∧ x.1 ≤ 1099511627776 ∧ 0 ≤ x.2 ∧ x.2 ≤ 40
instance (x : Sp) : Decidable (FB x) := by unfold FB; infer_instance
theorem PL.lit (w : World) (l : List Sp) (hl : l.length ≤ 1000) : PL (w.alloc (.cells (spv l).toArray (57 : Nat))) (.slice (some ⟨w.heap.size, 0, none⟩) l.length l.length) l := by
 have := World.ownsRow_lit (base := w.heap.size) (e := 57) (size := 2) w (spv l).toArray l.length (Nat.le_refl _) (by unfold maxLen; omega) (by simp [spv_len])
 exact OwnSp.pl (base := w.heap.size) this
end Go.Proofs.YtdmmbnnejbmdpaaGreatDoor
end
section
namespace Go.Proofs.YtdmmbnnejbmdpaaGreatDoor
open Go.RowKit Go.ChangeShapes Go.WideShapes Go.Deep Go.Shelf
attribute [local go_sem] Oper.semAt_some
abbrev Bv := Int × Ex
end Go.Proofs.YtdmmbnnejbmdpaaGreatDoor
end
section
namespace Go.Proofs.YtdmmbnnejbmdpaaGreatDoor
open Go.RowKit Go.ChangeShapes Go.WideShapes Go.Deep Go.Shelf
attribute [local go_sem] Oper.semAt_some
theorem OwnU.row {w : World} {base g n c : Nat} {l : List Nat} (h : OwnU w base (.slice (some ⟨g, 0, none⟩) n c) l) : base ≤ g ∧ ∃ cur, w.heap[g]? = some (.cells cur 33 (0, 0)) := by
 rcases h.2 with ⟨hv, _⟩ | ⟨g', cap, cur, hv, hb, hg, _⟩
 ·cases hv
 ·cases hv; exact ⟨hb, cur, hg⟩
end Go.Proofs.YtdmmbnnejbmdpaaGreatDoor
end
