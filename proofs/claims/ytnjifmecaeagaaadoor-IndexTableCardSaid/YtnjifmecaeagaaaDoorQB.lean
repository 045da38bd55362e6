/-
  Package field's iterator of a word's ones: what it hands to a loop's body, and what becomes of the world.
  Package field's calls that go through a word's ones: Ones, First, Places.
  What the calls of package chunk answer: Encode, Empty, Room, Bit.
  What the calls of package chunk answer: Room, Bit.
  What the calls of package chunk answer: Bit; and the document's answers beside it: power, Bit, Empty.
-/
import Derived.RangeFuncNested
import Derived.RangeFuncBound
import Derived.RangeFuncCalls
import Derived.RangeFuncLeaves
import Derived.RangeFuncFrom
import Derived.RangeFuncWrites
import Derived.RangeFuncBox
import Derived.Maps.AppendAt
import Derived.Shelf.Abstract
import Derived.Shelf.RegionOpen
import Derived.WalkKit
import Derived.OwnWalkIn
import Derived.TacticsInMore
import Derived.LoopNIn
import Derived.LoopIn
import Derived.Test.YtnjifmecaeagaaaDoorQA
import Derived.Test.YtnjifmecaeagaaaDoorQChunk2
section
set_option linter.unusedVariables false
namespace Go.Proofs.YtnjifmecaeagaaaDoor
open Go.RowKit Go.Shelf
attribute [local go_sem] Oper.semAt_some

theorem cell_of_box {W : World} {B : Nat} {v : Value} {t : TypeId} (h : W.heap[B]? = some (.cells #[v] t (0, 0))) : W.cell? ⟨B, 0, none⟩ = some v ∧ W.frozen? ⟨B, 0, none⟩ = false := by
  constructor <;> simp [World.cell?, World.frozen?, h]
theorem cell_new (W : World) (v : Value) (t : TypeId) : (W.alloc (.cells #[v] t)).cell? ⟨W.heap.size, 0, none⟩ = some v ∧ (W.alloc (.cells #[v] t)).frozen? ⟨W.heap.size, 0, none⟩ = false :=
  cell_of_box (World.alloc_heap_new W _)
theorem cell_alloc_at {W : World} {a : Addr} {v : Value} (o : Obj) (h : W.cell? a = some v) : (W.alloc o).cell? a = some v := cell_kept h (World.grownBy_alloc W o none) (fun r e => by cases e)
theorem frozen_alloc_at {W : World} {a : Addr} {v : Value} (o : Obj) (h : W.cell? a = some v) (hf : W.frozen? a = false) : (W.alloc o).frozen? a = false := (frozen_kept h (World.grownBy_alloc W o none) (fun r e => by cases e)).trans hf

set_option maxHeartbeats 400000 in
theorem places_in (n : Nat) (x : Int) (w : World) :
    CallsIn Fence.wide n Tryd.prog 101 #[.int .u64 x] w fun e w' => e = .returned (.func (.func 108) #[] #[.pointer (some ⟨w.heap.size, 0, none⟩)]) ∧ w.alloc (.cells #[.int .u64 x] 27) = w' := by
  refine callsIn_wide.2 ?_
  go_enter Tryd.func101, Tryd.ntmps101
  go_wp2
  go_ret
  exact ⟨rfl, rfl⟩

theorem clear_walk (r : Nat) (h0 : 0 < r) (h : r < 18446744073709551616) : bits .and .u64 (r : Int) ((r : Int) - 1) = ((r &&& (r - 1) : Nat) : Int) := by
  rw [show ((r : Int) - 1) = ((r - 1 : Nat) : Int) by omega, u64_and_nat r (r - 1) h (by omega)]

set_option maxHeartbeats 1000000 in
theorem places1_in (n : Nat) (hn : 1 ≤ n) (l Bn n₀ x : Nat) (hx : x < 18446744073709551616) (J Jx : List Nat → World → Prop)
    (hY : ∀ pre (y : Nat) W, J pre W → pre.length < (onesL x 64).length → YieldAt Fence.wide (n - 1) Tryd.prog l #[.int .i64 (y : Int)] W fun e W' =>
      (e = .returned (.bool true) ∧ J (pre ++ [y]) W' ∧ Below n₀ W W') ∨ (e = .returned (.bool false) ∧ Jx (pre ++ [y]) W'))
    (W : World) (hBn : W.cell? ⟨Bn, 0, none⟩ = some (.int .u64 x)) (hd : Deb W) (hn₀ : 6 < n₀) (h0 : J [] W) :
    CallsIn Fence.wide n Tryd.prog 108 #[.func (.yield l) #[] #[], .pointer (some ⟨Bn, 0, none⟩)] W fun e W' => (∃ v, e = .returned v) ∧
      ((∃ ys, ys = onesL x 64 ∧ J ys W') ∨ (∃ pre, pre <+: onesL x 64 ∧ Jx pre W')) := by
  refine callsIn_of_wp Tryd.func108 rfl trivial ?_ rfl
  simp only [Tryd.ntmps108, List.size_toArray, List.length_cons, List.length_nil, Nat.reduceAdd, Nat.reduceSub, Array.replicate_succ, Array.replicate_zero, List.push_toArray, List.append_toArray, List.nil_append, List.cons_append]
  gi_wp2
  gi_loopw [3] (fun p wr => ∃ (pre : List Nat) (r : Nat), p = .int .u64 r ∧ r < 18446744073709551616 ∧ onesL x 64 = pre ++ onesL r 64 ∧ Deb wr ∧ J pre wr)
    (fun p wr => (onesL (intOf p).toNat 64).length)
  case atStart =>
    exact ⟨[], x, rfl, hx, rfl, hd, h0⟩
  case round =>
    obtain ⟨pre, r, rfl, hr, hx', hdw, hJs⟩ := hrel
    by_cases hz : r = 0
    · subst hz
      gi_wp2
      go_end0
      exact ⟨⟨_, rfl⟩, .inl ⟨pre, by rw [hx', ones_zero, List.append_nil], hJs⟩⟩
    · obtain ⟨t, m, e⟩ := low_bit r (by omega)
      have ht : t < 64 := tz_lt t m (by rw [← e]; omega)
      have hstep := ones_step t m 64 ht
      have htz := tz_any t m wr (by rw [← e]; omega) hdw
      rw [← e] at hstep htz
      have hcl := clear_walk r (by omega) hr
      have hne : ((r : Int) != 0) = true := by simp; omega
      obtain ⟨fn, tmps, assign, body, hy, hR⟩ := hY pre t wr hJs (by rw [hx', hstep]; simp)
      have HX := Lib.hid hx'
      have HS := Lib.hid hstep
      have HC := Lib.hid hcl
      have HT := Lib.hid htz
      clear hx' hstep hcl htz e hY
      have hr0 : 0 < (r : Int) := by omega
      gi_wp2
      refine ⟨trivial, (callsIn_wide.2 HT.out).mono ?_⟩
      rintro e w' ⟨rfl, rfl⟩
      gi_wp2
      refine hR.mono ?_
      rintro e W3 (⟨rfl, hJ3, hk3⟩ | ⟨rfl, hJx3⟩)
      · have hc := HC.out
        gi_wp2
        go_roundw
        case rel =>
          refine ⟨pre ++ [t], r &&& (r - 1), ?_, Nat.lt_of_le_of_lt Nat.and_le_left hr, ?_, hdw.keep hk3 hn₀, hJ3⟩
          · rfl
          · rw [HX.out, HS.out]; simp
        case measure =>
          show (onesL (((r &&& (r - 1) : Nat) : Int)).toNat 64).length < (onesL ((r : Int)).toNat 64).length
          simp only [Int.toNat_natCast]
          rw [HS.out]
          simp
      · gi_wp2
        refine bodyPost_ret (results_none rfl _ _ _) rfl ?_
        exact ⟨⟨_, rfl⟩, .inr ⟨pre ++ [t], ⟨onesL (r &&& (r - 1)) 64, by rw [HX.out, HS.out]; simp⟩, hJx3⟩⟩

theorem places_stops (n : Nat) (hn : 1 ≤ n) (Bn n₀ x : Nat) (hx : x < 18446744073709551616) (w : World) (hBn : Bn < w.heap.size) (hn₀ : n₀ ≤ w.heap.size) (hn1 : 6 < n₀)
    (hc : w.cell? ⟨Bn, 0, none⟩ = some (.int .u64 x)) (hd : Deb w) :
    SeqStopsK Fence.wide n Tryd.prog 108 #[.pointer (some ⟨Bn, 0, none⟩)] (fun y : Nat => #[Value.int .i64 y]) (Below n₀) (fun ys => ys = onesL x 64) (fun pre => pre <+: onesL x 64) (onesL x 64).length w := fun l J Jx W hW _ _ hY h0 =>
  places1_in n hn l Bn n₀ x hx J Jx hY W ((hW.cell (p := ⟨Bn, 0, none⟩) hBn).trans hc) (hd.keep (hW.mono hn₀) hn1) hn1 h0

end Go.Proofs.YtnjifmecaeagaaaDoor
end
section
set_option linter.unusedVariables false
namespace Go.Proofs.YtnjifmecaeagaaaDoor
open Go.RowKit Go.Shelf
attribute [local go_sem] Oper.semAt_some

/-- the m lowest bits of x, m held within a word -/
def heldN (m : Int) : Nat := (min (max m 0) 64).toNat
def lowN (x : Nat) (m : Int) : Nat := x % 2 ^ heldN m
theorem lowN_lt (x : Nat) (m : Int) (hx : x < 18446744073709551616) : lowN x m < 18446744073709551616 := Nat.lt_of_le_of_lt (Nat.mod_le _ _) hx

set_option maxHeartbeats 400000 in
theorem lowest_all (x : Nat) (m : Int) (w : World) (h1 : x < 18446744073709551616) :
    Calls Tryd.prog 102 #[.int .u64 x, .int .i64 m] w fun e w' => e = .returned (.int .u64 (lowN x m)) ∧ w = w' := by
  by_cases h : m ≤ 0
  · have e : lowN x m = 0 := by unfold lowN heldN; rw [show (min (max m 0) 64).toNat = 0 by omega]; simp [Nat.mod_one]
    rw [e]
    have hz : bits .and .u64 (x : Int) 0 = 0 := by simpa using u64_and_nat x 0 h1 (by decide)
    by_cases h0 : m = 0
    · subst h0
      go_enter Tryd.func102, Tryd.ntmps102
      go_wp2
      go_ret
      exact ⟨rfl, rfl⟩
    · have hlt : m < 0 := by omega
      go_enter Tryd.func102, Tryd.ntmps102
      go_wp2
      go_ret
      exact ⟨rfl, rfl⟩
  · by_cases h2 : m ≤ 64
    · have := lowest_any (x : Int) m w (by omega) (by omega) (by omega) h2
      refine this.mono ?_
      rintro e w' ⟨rfl, rfl⟩
      refine ⟨?_, rfl⟩
      unfold lowI lowN heldN
      rw [show (min (max m 0) 64).toNat = m.toNat by omega, Int.natCast_emod, Int.natCast_pow]
      rfl
    · have e : lowN x m = x := by unfold lowN heldN; rw [show (min (max m 0) 64).toNat = 64 by omega]; exact Nat.mod_eq_of_lt h1
      rw [e]
      have h64 : 64 < m := by omega
      go_enter Tryd.func102, Tryd.ntmps102
      go_wp2
      go_ret
      exact ⟨rfl, rfl⟩

theorem ones_len (r n : Nat) : (onesL r n).length ≤ n := by
  have := List.length_filter_le r.testBit (List.range n)
  rwa [List.length_range] at this

def headI (l : List Nat) : Int := match l with | [] => -1 | y :: _ => (y : Int)

set_option maxRecDepth 100000 in
set_option maxHeartbeats 2000000 in
theorem first1_in (n : Nat) (hn : 3 ≤ n) (x : Nat) (m : Int) (w : World) (h1 : x < 18446744073709551616) (hd : Deb w) (h0 : 6 < w.heap.size) :
    CallsIn Fence.wide n Tryd.prog 111 #[.int .u64 x, .int .i64 m, .bool true] w fun e W' => e = .returned (.int .i64 (headI (onesL (lowN x m) 64))) ∧ Below w.heap.size w W' := by
  have hn1 : 1 ≤ n := by omega
  refine callsIn_of_wp_marks Tryd.func111 rfl trivial ?_ rfl
  simp only [Tryd.ntmps111, List.size_toArray, List.length_cons, List.length_nil, Nat.reduceAdd, Nat.reduceSub, Array.replicate_succ, Array.replicate_zero, List.push_toArray, List.append_toArray, List.nil_append, List.cons_append]
  gi_wp2
  refine ⟨trivial, (callsIn_wide.2 (lowest_all x m _ (by omega))).mono ?_⟩
  rintro e w' ⟨rfl, rfl⟩
  gi_wp2
  refine ⟨trivial, (places_in (n - 1) (lowN x m) _).mono ?_⟩
  rintro e w' ⟨rfl, rfl⟩
  gi_wp2
  have hs := cell_new w (.int .i64 0) 3
  have hb := cell_new (w.alloc (.cells #[.int .i64 0] 3)) (.int .u64 (lowN x m)) 27
  rw [World.size_alloc] at hb
  have hB0 : Below w.heap.size w ((w.alloc (.cells #[.int .i64 0] 3)).alloc (.cells #[.int .u64 (lowN x m)] 27)) := ((Below.refl _ w).alloc (Nat.le_refl _) _).alloc (by simp) _
  refine wpIn_rangeFunc_ownF rfl hn1 (gf := 108) (lb := #[.pointer (some ⟨w.heap.size + 1, 0, none⟩)]) rfl trivial (enters_of Tryd.func108 (by kernel_rfl) rfl)
    (places_stops (n - 1) (by omega) (w.heap.size + 1) w.heap.size (lowN x m) (lowN_lt x m (by omega)) _ (by simp) (by simp; omega) h0 hb.1 (hd.keep hB0 h0)) belowK_t (belowK_b (by simp; omega)) (Below.refl _ _) (fun _ => rfl)
    (fun pre W => (pre = [] ∧ W.cell? ⟨w.heap.size, 0, none⟩ = some (.int .i64 0) ∧ W.frozen? ⟨w.heap.size, 0, none⟩ = false) ∧ Below w.heap.size w W)
    (fun c pre W => (c = .ret ∧ ∃ y : Nat, pre = [y] ∧ W.cell? ⟨w.heap.size, 0, none⟩ = some (.int .i64 (y : Int))) ∧ Below w.heap.size w W)
    (OwnFrom.and (Own.from (fun s A B row hs hg hr => ⟨hs.1, cell_kept hs.2.1 hg hr, (frozen_kept hs.2.1 hg hr).trans hs.2.2⟩) _) (ownFrom_below (Nat.le_refl _) (by simp; omega)))
    (fun c => OwnFrom.and (Own.from (fun s A B row hs hg hr => ⟨hs.1, by obtain ⟨y, e, hc⟩ := hs.2; exact ⟨y, e, cell_kept hc hg hr⟩⟩) _) (ownFrom_below (Nat.le_refl _) (by simp; omega)))
    ⟨⟨rfl, cell_alloc_at _ hs.1, frozen_alloc_at _ hs.1 hs.2⟩, hB0⟩
    (fun y => { tmps := #[.int .u64 x, .int .i64 m, .bool true, undef, undef, undef, .pointer (some ⟨w.heap.size, 0, none⟩), .int .i64 y, .bool true, .bool (!true), undef, undef, .int .u64 x, .int .i64 m, .int .u64 (lowN x m), .func (.func 108) #[] #[.pointer (some ⟨w.heap.size + 1, 0, none⟩)], .int .i64 y, undef], defers := [] }) ?assign ?body ?done ?stop
  case assign =>
    intro l y W K hK
    gi_wp2
    simpa using hK
  case body =>
    rintro l pre y W ⟨⟨rfl, hc, hf⟩, hB⟩ hlt
    gi_wp2
    exact ⟨KeepsOthers.setCell _ _ _, ⟨rfl, y, rfl, World.cell?_setCell_same' _ _ _ (by rw [hc]; rfl)⟩, hB.setCell (p := ⟨w.heap.size, 0, none⟩) (by simp) _⟩
  case done =>
    rintro D ys W hD hys ⟨⟨rfl, hcr, hfr⟩, hB⟩ hK
    have Hys := Lib.hid hys
    clear hys
    gi_wp2
    have hK' := (KeepsOthers.setCell W ⟨w.heap.size, 0, none⟩ (.int .i64 (-1))).same D _ hK rfl
    refine ⟨by simp, .inl ⟨_, _, rfl, run_takeDeferred hK', ?_⟩⟩
    have hc5 := cell_kept (World.cell?_setCell_same' W ⟨w.heap.size, 0, none⟩ (.int .i64 (-1)) (by rw [hcr]; rfl)) (grownBy_putObj' _ D (.deferred none)) (fun r e => by cases e; exact ⟨_, hK', rfl⟩)
    refine ⟨.int .i64 (-1), ?_, by rw [← Hys.out]; rfl, (hB.setCell (p := ⟨w.heap.size, 0, none⟩) (by simp) _).trans (belowK_b (w := w) (Nat.le_refl _) _ D _ _ (by simp at hD; omega) hK' rfl rfl)⟩
    simp [results, Tryd.f111, go_sem, hc5]
  case stop =>
    rintro D c pre W hD hpre ⟨⟨rfl, y, rfl, hcr⟩, hB⟩ hK
    gi_wp2
    refine ⟨by simp, .inl ⟨_, _, rfl, run_takeDeferred hK, ?_⟩⟩
    have hc5 := cell_kept hcr (grownBy_putObj' _ D (.deferred none)) (fun r e => by cases e; exact ⟨_, hK, rfl⟩)
    refine ⟨.int .i64 y, ?_, by obtain ⟨q, hq⟩ := hpre; rw [← hq]; rfl, hB.trans (belowK_b (w := w) (Nat.le_refl _) W D _ _ (by simp at hD; omega) hK rfl rfl)⟩
    simp [results, Tryd.f111, go_sem, hc5]

set_option maxRecDepth 100000 in
set_option maxHeartbeats 2000000 in
theorem first0_in (n : Nat) (hn : 3 ≤ n) (x : Nat) (x' : Nat) (hx' : bits .xor .u64 IntKind.u64.max (x : Int) = (x' : Int)) (hxl : x' < 18446744073709551616) (m : Int) (w : World) (h1 : x < 18446744073709551616) (hd : Deb w) (h0 : 6 < w.heap.size) :
    CallsIn Fence.wide n Tryd.prog 111 #[.int .u64 x, .int .i64 m, .bool false] w fun e W' => e = .returned (.int .i64 (headI (onesL (lowN x' m) 64))) ∧ Below w.heap.size w W' := by
  have hn1 : 1 ≤ n := by omega
  refine callsIn_of_wp_marks Tryd.func111 rfl trivial ?_ rfl
  simp only [Tryd.ntmps111, List.size_toArray, List.length_cons, List.length_nil, Nat.reduceAdd, Nat.reduceSub, Array.replicate_succ, Array.replicate_zero, List.push_toArray, List.append_toArray, List.nil_append, List.cons_append]
  gi_wp2
  refine ⟨trivial, (callsIn_wide.2 (lowest_all x' m _ (by omega))).mono ?_⟩
  rintro e w' ⟨rfl, rfl⟩
  gi_wp2
  refine ⟨trivial, (places_in (n - 1) (lowN x' m) _).mono ?_⟩
  rintro e w' ⟨rfl, rfl⟩
  gi_wp2
  have hs := cell_new w (.int .i64 0) 3
  have hb := cell_new (w.alloc (.cells #[.int .i64 0] 3)) (.int .u64 (lowN x' m)) 27
  rw [World.size_alloc] at hb
  have hB0 : Below w.heap.size w ((w.alloc (.cells #[.int .i64 0] 3)).alloc (.cells #[.int .u64 (lowN x' m)] 27)) := ((Below.refl _ w).alloc (Nat.le_refl _) _).alloc (by simp) _
  refine wpIn_rangeFunc_ownF rfl hn1 (gf := 108) (lb := #[.pointer (some ⟨w.heap.size + 1, 0, none⟩)]) rfl trivial (enters_of Tryd.func108 (by kernel_rfl) rfl)
    (places_stops (n - 1) (by omega) (w.heap.size + 1) w.heap.size (lowN x' m) (lowN_lt x' m (by omega)) _ (by simp) (by simp; omega) h0 hb.1 (hd.keep hB0 h0)) belowK_t (belowK_b (by simp; omega)) (Below.refl _ _) (fun _ => rfl)
    (fun pre W => (pre = [] ∧ W.cell? ⟨w.heap.size, 0, none⟩ = some (.int .i64 0) ∧ W.frozen? ⟨w.heap.size, 0, none⟩ = false) ∧ Below w.heap.size w W)
    (fun c pre W => (c = .ret ∧ ∃ y : Nat, pre = [y] ∧ W.cell? ⟨w.heap.size, 0, none⟩ = some (.int .i64 (y : Int))) ∧ Below w.heap.size w W)
    (OwnFrom.and (Own.from (fun s A B row hs hg hr => ⟨hs.1, cell_kept hs.2.1 hg hr, (frozen_kept hs.2.1 hg hr).trans hs.2.2⟩) _) (ownFrom_below (Nat.le_refl _) (by simp; omega)))
    (fun c => OwnFrom.and (Own.from (fun s A B row hs hg hr => ⟨hs.1, by obtain ⟨y, e, hc⟩ := hs.2; exact ⟨y, e, cell_kept hc hg hr⟩⟩) _) (ownFrom_below (Nat.le_refl _) (by simp; omega)))
    ⟨⟨rfl, cell_alloc_at _ hs.1, frozen_alloc_at _ hs.1 hs.2⟩, hB0⟩
    (fun y => { tmps := #[.int .u64 x', .int .i64 m, .bool false, undef, undef, undef, .pointer (some ⟨w.heap.size, 0, none⟩), .int .i64 y, .bool false, .bool (!false), .int .u64 x, .int .u64 x', .int .u64 x', .int .i64 m, .int .u64 (lowN x' m), .func (.func 108) #[] #[.pointer (some ⟨w.heap.size + 1, 0, none⟩)], .int .i64 y, undef], defers := [] }) ?assign ?body ?done ?stop
  case assign =>
    intro l y W K hK
    gi_wp2
    simpa using hK
  case body =>
    rintro l pre y W ⟨⟨rfl, hc, hf⟩, hB⟩ hlt
    gi_wp2
    exact ⟨KeepsOthers.setCell _ _ _, ⟨rfl, y, rfl, World.cell?_setCell_same' _ _ _ (by rw [hc]; rfl)⟩, hB.setCell (p := ⟨w.heap.size, 0, none⟩) (by simp) _⟩
  case done =>
    rintro D ys W hD hys ⟨⟨rfl, hcr, hfr⟩, hB⟩ hK
    have Hys := Lib.hid hys
    clear hys
    gi_wp2
    have hK' := (KeepsOthers.setCell W ⟨w.heap.size, 0, none⟩ (.int .i64 (-1))).same D _ hK rfl
    refine ⟨by simp, .inl ⟨_, _, rfl, run_takeDeferred hK', ?_⟩⟩
    have hc5 := cell_kept (World.cell?_setCell_same' W ⟨w.heap.size, 0, none⟩ (.int .i64 (-1)) (by rw [hcr]; rfl)) (grownBy_putObj' _ D (.deferred none)) (fun r e => by cases e; exact ⟨_, hK', rfl⟩)
    refine ⟨.int .i64 (-1), ?_, by rw [← Hys.out]; rfl, (hB.setCell (p := ⟨w.heap.size, 0, none⟩) (by simp) _).trans (belowK_b (w := w) (Nat.le_refl _) _ D _ _ (by simp at hD; omega) hK' rfl rfl)⟩
    simp [results, Tryd.f111, go_sem, hc5]
  case stop =>
    rintro D c pre W hD hpre ⟨⟨rfl, y, rfl, hcr⟩, hB⟩ hK
    gi_wp2
    refine ⟨by simp, .inl ⟨_, _, rfl, run_takeDeferred hK, ?_⟩⟩
    have hc5 := cell_kept hcr (grownBy_putObj' _ D (.deferred none)) (fun r e => by cases e; exact ⟨_, hK, rfl⟩)
    refine ⟨.int .i64 y, ?_, by obtain ⟨q, hq⟩ := hpre; rw [← hq]; rfl, hB.trans (belowK_b (w := w) (Nat.le_refl _) W D _ _ (by simp at hD; omega) hK rfl rfl)⟩
    simp [results, Tryd.f111, go_sem, hc5]

theorem first1_any (x : Nat) (m : Int) (w : World) (h1 : x < 18446744073709551616) (hd : Deb w) (h0 : 6 < w.heap.size) :
    Calls Tryd.prog 111 #[.int .u64 x, .int .i64 m, .bool true] w fun e W' => e = .returned (.int .i64 (headI (onesL (lowN x m) 64))) ∧ Below w.heap.size w W' :=
  callsIn_wide.1 (first1_in 3 (by omega) x m w h1 hd h0)

/-- the opposite of a word -/
theorem not_walk (x : Nat) (h : x < 18446744073709551616) : bits .xor .u64 IntKind.u64.max (x : Int) = ((18446744073709551615 - x : Nat) : Int) := by
  rw [show IntKind.u64.max = ((18446744073709551615 : Nat) : Int) from rfl, u64_xor_nat 18446744073709551615 x (by decide) h]
  congr 1
  apply Nat.eq_of_testBit_eq
  intro i
  rw [Nat.testBit_xor, show 18446744073709551615 = 2 ^ 64 - 1 from rfl, Nat.testBit_two_pow_sub_one, show 2 ^ 64 - 1 - x = 2 ^ 64 - (x + 1) by omega, Nat.testBit_two_pow_sub_succ (by omega)]
  by_cases hi : i < 64
  · simp [hi]
  · have : x.testBit i = false := Nat.testBit_lt_two_pow (Nat.lt_of_lt_of_le h (Nat.pow_le_pow_right (by omega : 2 > 0) (show 64 ≤ i by omega)))
    simp [hi, this]
theorem first0_any (x : Nat) (m : Int) (w : World) (h1 : x < 18446744073709551616) (hd : Deb w) (h0 : 6 < w.heap.size) :
    Calls Tryd.prog 111 #[.int .u64 x, .int .i64 m, .bool false] w fun e W' => e = .returned (.int .i64 (headI (onesL (lowN (18446744073709551615 - x) m) 64))) ∧ Below w.heap.size w W' :=
  callsIn_wide.1 (first0_in 3 (by omega) x _ (not_walk x h1) (by omega) m w h1 hd h0)
end Go.Proofs.YtnjifmecaeagaaaDoor
end
section
set_option linter.unusedVariables false
namespace Go.Proofs.YtnjifmecaeagaaaDoor
open Go.RowKit

/-- what the program laid lies where it laid it -/
def Lw (w : World) : Prop := Deb w ∧ 6 < w.heap.size ∧ Tab w ∧ 5 < w.heap.size ∧ Pl w
theorem Lw.keep {w w1 : World} (h : Lw w) (hb : Below w.heap.size w w1) : Lw w1 :=
  ⟨h.1.keep hb h.2.1, Nat.lt_of_lt_of_le h.2.1 hb.size, tab_keep h.2.2.1 h.2.2.2.1 hb, Nat.lt_of_lt_of_le h.2.2.2.1 hb.size, h.2.2.2.2.keep hb⟩
theorem Lw.alloc {w : World} (h : Lw w) (o : Obj) : Lw (w.alloc o) := h.keep ((Below.refl _ _).alloc (Nat.le_refl _) _)
theorem Lw.drew {w : World} (h : Lw w) : Lw w.drew := h

set_option maxHeartbeats 1000000 in
theorem enc_yes (k c l m b : Int) (w : World) (hw : Lw w) (b0 : 0 ≤ b) (h : rightB k c l m b = true) :
    Calls Tryd.prog 83 #[.agg #[.int .i64 k, .int .i64 c, .int .i64 l, .int .i64 m, .int .u64 b]] w fun e w' => e = .returned (.tuple #[.int .u64 (wordI k c l m b), .int .i64 0]) ∧ Below w.heap.size w w' := by
  have hr := rightB_t h
  have hbd : 0 ≤ k ∧ k < 8 ∧ 0 ≤ c ∧ c < 4 ∧ 0 ≤ l ∧ l < 64 ∧ 0 ≤ m ∧ m < 8192 ∧ b < 256 := by unfold RightP at hr; omega
  obtain ⟨k0, k1, c0, c1, l0, l1, m0, m1, b1⟩ := hbd
  have H := Lib.hid h
  clear h hr
  have hw1 := Lib.hid (hw.alloc (.cells #[.int .i64 k, .int .i64 c, .int .i64 l, .int .i64 m, .int .u64 b] 29))
  go_enter Tryd.func83, Tryd.ntmps83
  go_wp2_with fail
  refine (right_any k c l m b _ hw1.out.2.2.1 hw1.out.2.2.2.1 b0).mono ?_
  rw [H.out]
  rintro e w1 ⟨rfl, hb1⟩
  have kb := (C5.new w k c l m b 29).keep hb1
  have hw2 := Lib.hid (hw1.out.keep hb1)
  have hB1 : Below w.heap.size w w1 := ((Below.refl _ w).alloc (Nat.le_refl _) _).trans (hb1.mono (by simp))
  obtain ⟨v0, v1, v2, v3, v4⟩ := kb
  go_wp2_with fail
  refine (word_any k c l m b _ hw2.out.2.2.2.2 k0 k1 c0 c1 l0 l1 m0 m1 b0 b1).mono ?_
  rintro e w2 ⟨rfl, hb2⟩
  obtain ⟨hB2, _⟩ := belowStep hB1 hB1.size hb2
  go_wp2_with fail
  go_ret2
  exact ⟨rfl, hB2⟩
set_option maxHeartbeats 1000000 in
theorem enc_no (k c l m b : Int) (w : World) (hw : Lw w) (b0 : 0 ≤ b) (h : rightB k c l m b = false) :
    Calls Tryd.prog 83 #[.agg #[.int .i64 k, .int .i64 c, .int .i64 l, .int .i64 m, .int .u64 b]] w fun e w' => e = .returned (.tuple #[.int .u64 0, .int .i64 1]) ∧ Below w.heap.size w w' := by
  have H := Lib.hid h
  clear h
  have hw1 := Lib.hid (hw.alloc (.cells #[.int .i64 k, .int .i64 c, .int .i64 l, .int .i64 m, .int .u64 b] 29))
  go_enter Tryd.func83, Tryd.ntmps83
  go_wp2_with fail
  refine (right_any k c l m b _ hw1.out.2.2.1 hw1.out.2.2.2.1 b0).mono ?_
  rw [H.out]
  rintro e w1 ⟨rfl, hb1⟩
  have hB1 : Below w.heap.size w w1 := ((Below.refl _ w).alloc (Nat.le_refl _) _).trans (hb1.mono (by simp))
  go_wp2_with fail
  go_ret2
  exact ⟨rfl, hB1⟩

set_option maxHeartbeats 400000 in
theorem empty_any (k c l m b : Int) (w : World) :
    Calls Tryd.prog 30 #[.agg #[.int .i64 k, .int .i64 c, .int .i64 l, .int .i64 m, .int .u64 b]] w fun e w' => e = .returned (.bool (decide (k = 1 ∧ b = 0))) ∧ Below w.heap.size w w' := by
  by_cases hk : k = 1
  · by_cases hb : b = 0
    · subst hk hb
      go_enter Tryd.func30, Tryd.ntmps30
      go_wp2_with fail
      go_ret
      exact ⟨ret_b (by simp), (Below.refl _ _).alloc (Nat.le_refl _) _⟩
    · subst hk
      go_enter Tryd.func30, Tryd.ntmps30
      go_wp2_with fail
      go_ret
      exact ⟨ret_b (by simp [hb]), (Below.refl _ _).alloc (Nat.le_refl _) _⟩
  · go_enter Tryd.func30, Tryd.ntmps30
    go_wp2_with fail
    go_ret
    exact ⟨ret_b (by simp [hk]), (Below.refl _ _).alloc (Nat.le_refl _) _⟩

set_option maxHeartbeats 400000 in
theorem bit_no (i : Int) (w : World) (h : i < 0) :
    Calls Tryd.prog 33 #[.int .i64 i] w fun e w' => e = .returned (.int .u64 0) ∧ Below w.heap.size w w' := by
  go_enter Tryd.func33, Tryd.ntmps33
  go_wp2_with fail
  go_ret
  exact ⟨rfl, Below.refl _ _⟩
set_option maxHeartbeats 400000 in
theorem bit_big (i : Int) (w : World) (hw : Lw w) (h : 8 ≤ i) :
    Calls Tryd.prog 33 #[.int .i64 i] w fun e w' => e = .returned (.int .u64 0) ∧ Below w.heap.size w w' := by
  obtain ⟨_, _, _, _, p0, p1, p2, p3, ⟨p40, p41⟩⟩ := hw
  go_enter Tryd.func33, Tryd.ntmps33
  go_wp2_with fail
  go_ret
  exact ⟨rfl, Below.refl _ _⟩
end Go.Proofs.YtnjifmecaeagaaaDoor
end
section
set_option linter.unusedVariables false
namespace Go.Proofs.YtnjifmecaeagaaaDoor
open Go.RowKit

def roomI (c : Int) (b : Nat) : Int := headI (onesL (lowN (18446744073709551615 - b) (mnyI c)) 64)
set_option maxHeartbeats 1000000 in
theorem room_run (c l m : Int) (b : Nat) (w : World) (hw : Lw w) (b1 : b < 18446744073709551616) :
    Calls Tryd.prog 107 #[.agg #[.int .i64 1, .int .i64 c, .int .i64 l, .int .i64 m, .int .u64 b]] w fun e w' => e = .returned (.int .i64 (roomI c b)) ∧ Below w.heap.size w w' := by
  have hw1 := Lib.hid ((hw.alloc (.cells #[.int .i64 1, .int .i64 c, .int .i64 l, .int .i64 m, .int .u64 b] 29)).drew)
  have hT := Lib.hid hw1.out.2.2.1
  have hD := Lib.hid hw1.out.1
  have hG := Lib.hid hw1.out.2.1
  have hF := Lib.hid (fun w (hd : Deb w) (h0 : 6 < w.heap.size) => first0_any b (mnyI c) w b1 hd h0)
  go_enter Tryd.func107, Tryd.ntmps107
  go_wp2_with fail
  go_region_held3 (fun w' => w'.cell? ⟨w.heap.size, 1, none⟩ = some (.int .i64 c) ∧ w'.cell? ⟨w.heap.size, 4, none⟩ = some (.int .u64 b) ∧ Below w.heap.size w w')
    (((try go_split_ands); refine ⟨?_, ?_, ?_⟩ <;> first | assumption | (rw [hb.cell (by simp)]; simp [go_sem]; done) | (exact ((Below.refl _ w).alloc (Nat.le_refl _) _).drew.trans (hb.mono (by simp))) | (go_keep; done) | (go_grown; done)))
    ((first | (go_at_call 90; (with_reducible refine (mny_any c _ hT.out).mono ?_); rintro e w8 ⟨rfl, rfl⟩) | (go_at_call 111; (with_reducible refine (hF.out _ hD.out hG.out).mono ?_); rintro e w8 ⟨rfl, hb⟩)))
  go_wp2_with fail
  go_ret
  go_split_ands
  exact ⟨rfl, by assumption⟩
set_option maxHeartbeats 400000 in
theorem room_no (k c l m : Int) (b : Int) (w : World) (hk : ¬ k = 1) :
    Calls Tryd.prog 107 #[.agg #[.int .i64 k, .int .i64 c, .int .i64 l, .int .i64 m, .int .u64 b]] w fun e w' => e = .returned (.int .i64 (-1)) ∧ Below w.heap.size w w' := by
  go_enter Tryd.func107, Tryd.ntmps107
  go_wp2_with fail
  go_ret
  exact ⟨rfl, (Below.refl _ _).alloc (Nat.le_refl _) _⟩
end Go.Proofs.YtnjifmecaeagaaaDoor
end
section
set_option linter.unusedVariables false
namespace Go.Proofs.YtnjifmecaeagaaaDoor
open Go.RowKit

set_option maxHeartbeats 1000000 in
theorem bit_0 (w : World) (hw : Lw w) :
    Calls Tryd.prog 33 #[.int .i64 0] w fun e w' => e = .returned (.int .u64 16777216) ∧ Below w.heap.size w w' := by
  obtain ⟨_, _, _, _, p0, p1, p2, p3, ⟨p40, p41⟩⟩ := hw
  go_enter Tryd.func33, Tryd.ntmps33
  go_wp2_with fail
  refine (of_bits 1 _ (by decide) (by decide)).mono ?_
  rintro e w1 ⟨rfl, hb⟩
  go_wp2_with fail
  go_ret
  exact ⟨ret_i (by decide), hb⟩

set_option maxHeartbeats 1000000 in
theorem bit_1 (w : World) (hw : Lw w) :
    Calls Tryd.prog 33 #[.int .i64 1] w fun e w' => e = .returned (.int .u64 33554432) ∧ Below w.heap.size w w' := by
  obtain ⟨_, _, _, _, p0, p1, p2, p3, ⟨p40, p41⟩⟩ := hw
  go_enter Tryd.func33, Tryd.ntmps33
  go_wp2_with fail
  refine (of_bits 2 _ (by decide) (by decide)).mono ?_
  rintro e w1 ⟨rfl, hb⟩
  go_wp2_with fail
  go_ret
  exact ⟨ret_i (by decide), hb⟩

set_option maxHeartbeats 1000000 in
theorem bit_2 (w : World) (hw : Lw w) :
    Calls Tryd.prog 33 #[.int .i64 2] w fun e w' => e = .returned (.int .u64 67108864) ∧ Below w.heap.size w w' := by
  obtain ⟨_, _, _, _, p0, p1, p2, p3, ⟨p40, p41⟩⟩ := hw
  go_enter Tryd.func33, Tryd.ntmps33
  go_wp2_with fail
  refine (of_bits 4 _ (by decide) (by decide)).mono ?_
  rintro e w1 ⟨rfl, hb⟩
  go_wp2_with fail
  go_ret
  exact ⟨ret_i (by decide), hb⟩

set_option maxHeartbeats 1000000 in
theorem bit_3 (w : World) (hw : Lw w) :
    Calls Tryd.prog 33 #[.int .i64 3] w fun e w' => e = .returned (.int .u64 134217728) ∧ Below w.heap.size w w' := by
  obtain ⟨_, _, _, _, p0, p1, p2, p3, ⟨p40, p41⟩⟩ := hw
  go_enter Tryd.func33, Tryd.ntmps33
  go_wp2_with fail
  refine (of_bits 8 _ (by decide) (by decide)).mono ?_
  rintro e w1 ⟨rfl, hb⟩
  go_wp2_with fail
  go_ret
  exact ⟨ret_i (by decide), hb⟩

set_option maxHeartbeats 1000000 in
theorem bit_4 (w : World) (hw : Lw w) :
    Calls Tryd.prog 33 #[.int .i64 4] w fun e w' => e = .returned (.int .u64 268435456) ∧ Below w.heap.size w w' := by
  obtain ⟨_, _, _, _, p0, p1, p2, p3, ⟨p40, p41⟩⟩ := hw
  go_enter Tryd.func33, Tryd.ntmps33
  go_wp2_with fail
  refine (of_bits 16 _ (by decide) (by decide)).mono ?_
  rintro e w1 ⟨rfl, hb⟩
  go_wp2_with fail
  go_ret
  exact ⟨ret_i (by decide), hb⟩

set_option maxHeartbeats 1000000 in
theorem bit_5 (w : World) (hw : Lw w) :
    Calls Tryd.prog 33 #[.int .i64 5] w fun e w' => e = .returned (.int .u64 536870912) ∧ Below w.heap.size w w' := by
  obtain ⟨_, _, _, _, p0, p1, p2, p3, ⟨p40, p41⟩⟩ := hw
  go_enter Tryd.func33, Tryd.ntmps33
  go_wp2_with fail
  refine (of_bits 32 _ (by decide) (by decide)).mono ?_
  rintro e w1 ⟨rfl, hb⟩
  go_wp2_with fail
  go_ret
  exact ⟨ret_i (by decide), hb⟩

set_option maxHeartbeats 1000000 in
theorem bit_6 (w : World) (hw : Lw w) :
    Calls Tryd.prog 33 #[.int .i64 6] w fun e w' => e = .returned (.int .u64 1073741824) ∧ Below w.heap.size w w' := by
  obtain ⟨_, _, _, _, p0, p1, p2, p3, ⟨p40, p41⟩⟩ := hw
  go_enter Tryd.func33, Tryd.ntmps33
  go_wp2_with fail
  refine (of_bits 64 _ (by decide) (by decide)).mono ?_
  rintro e w1 ⟨rfl, hb⟩
  go_wp2_with fail
  go_ret
  exact ⟨ret_i (by decide), hb⟩

set_option maxHeartbeats 1000000 in
theorem bit_7 (w : World) (hw : Lw w) :
    Calls Tryd.prog 33 #[.int .i64 7] w fun e w' => e = .returned (.int .u64 2147483648) ∧ Below w.heap.size w w' := by
  obtain ⟨_, _, _, _, p0, p1, p2, p3, ⟨p40, p41⟩⟩ := hw
  go_enter Tryd.func33, Tryd.ntmps33
  go_wp2_with fail
  refine (of_bits 128 _ (by decide) (by decide)).mono ?_
  rintro e w1 ⟨rfl, hb⟩
  go_wp2_with fail
  go_ret
  exact ⟨ret_i (by decide), hb⟩

def pwI (i : Nat) : Int := ((2 ^ i : Nat) : Int)
set_option maxHeartbeats 400000 in
theorem refPower10 (i : Nat) (w : World) (hi : i < 64) : Calls Tryd.prog 92 #[.int .i64 i] w fun e w' => e = .returned (.int .u64 (pwI i)) ∧ w = w' := by
  go_enter Tryd.func92, Tryd.ntmps92
  go_wp2
  go_loop [3, 4] (fun v k => ∃ j : Nat, j ≤ i ∧ k = .int .i64 j ∧ v = .int .u64 ((2 ^ j : Nat) : Int)) (fun _ k => 65 - (intOf k).toNat)
  case atStart => exact ⟨0, by omega, rfl, by simp⟩
  case round =>
    obtain ⟨j, hj, rfl, rfl⟩ := hrel
    have hp := pow_lt64 (k := j) (by omega)
    have hps : 2 * 2 ^ j = 2 ^ (j + 1) := by rw [Nat.pow_succ, Nat.mul_comm]
    by_cases hlt : (j : Int) < i
    · have hp2 := pow_lt64 (k := j + 1) (by omega)
      rw [← hps] at hp2
      generalize hy : 2 ^ j = y at *
      have HD := Lib.hid hps
      clear hps hy
      go_wp2
      go_round
      case rel => exact ⟨j + 1, by omega, by go_num, by rw [← HD.out]; go_num⟩
      case measure => simp [intOf]; omega
    · obtain rfl : j = i := by omega
      clear hps hp
      have HP : Hid (pwI j = ((2 ^ j : Nat) : Int)) := rfl
      generalize 2 ^ j = y at *
      go_wp2
      go_ret
      exact ⟨by rw [HP.out]; rfl, rfl⟩

end Go.Proofs.YtnjifmecaeagaaaDoor
end
