/-
  Package field's calls that go through a word's ones: Ones, First, Places.
-/
import Derived.Test.YtnjifmecaeagaaaDoorPlaces
set_option linter.unusedVariables false
namespace Go.Proofs.YtnjifmecaeagaaaDoor
open Go.RowKit Go.Shelf
attribute [local go_sem] Oper.semAt_some

/-- the m lowest bits of x, m held within a word -/
def heldN (m : Int) : Nat := (min (max m 0) 64).toNat
def lowN (x : Nat) (m : Int) : Nat := x % 2 ^ heldN m
theorem lowN_lt (x : Nat) (m : Int) (hx : x < 18446744073709551616) : lowN x m < 18446744073709551616 := Nat.lt_of_le_of_lt (Nat.mod_le _ _) hx

set_option maxHeartbeats 400000 in
theorem lowest_all (x : Nat) (m : Int) (w : World) (h1 : x < 18446744073709551616) :
    Calls Tryd.prog 102 #[.int .u64 x, .int .i64 m] w fun e w' => e = .returned (.int .u64 (lowN x m)) ∧ w = w' := by
  by_cases h : m ≤ 0
  · have e : lowN x m = 0 := by unfold lowN heldN; rw [show (min (max m 0) 64).toNat = 0 by omega]; simp [Nat.mod_one]
    rw [e]
    have hz : bits .and .u64 (x : Int) 0 = 0 := by simpa using u64_and_nat x 0 h1 (by decide)
    by_cases h0 : m = 0
    · subst h0
      go_enter Tryd.func102, Tryd.ntmps102
      go_wp2
      go_ret
      exact ⟨rfl, rfl⟩
    · have hlt : m < 0 := by omega
      go_enter Tryd.func102, Tryd.ntmps102
      go_wp2
      go_ret
      exact ⟨rfl, rfl⟩
  · by_cases h2 : m ≤ 64
    · have := lowest_any (x : Int) m w (by omega) (by omega) (by omega) h2
      refine this.mono ?_
      rintro e w' ⟨rfl, rfl⟩
      refine ⟨?_, rfl⟩
      unfold lowI lowN heldN
      rw [show (min (max m 0) 64).toNat = m.toNat by omega, Int.natCast_emod, Int.natCast_pow]
      rfl
    · have e : lowN x m = x := by unfold lowN heldN; rw [show (min (max m 0) 64).toNat = 64 by omega]; exact Nat.mod_eq_of_lt h1
      rw [e]
      have h64 : 64 < m := by omega
      go_enter Tryd.func102, Tryd.ntmps102
      go_wp2
      go_ret
      exact ⟨rfl, rfl⟩

theorem ones_len (r n : Nat) : (onesL r n).length ≤ n := by
  have := List.length_filter_le r.testBit (List.range n)
  rwa [List.length_range] at this

def headI (l : List Nat) : Int := match l with | [] => -1 | y :: _ => (y : Int)

set_option maxRecDepth 100000 in
set_option maxHeartbeats 2000000 in
theorem first1_in (n : Nat) (hn : 3 ≤ n) (x : Nat) (m : Int) (w : World) (h1 : x < 18446744073709551616) (hd : Deb w) (h0 : 6 < w.heap.size) :
    CallsIn Fence.wide n Tryd.prog 111 #[.int .u64 x, .int .i64 m, .bool true] w fun e W' => e = .returned (.int .i64 (headI (onesL (lowN x m) 64))) ∧ Below w.heap.size w W' := by
  have hn1 : 1 ≤ n := by omega
  refine callsIn_of_wp_marks Tryd.func111 rfl trivial ?_ rfl
  simp only [Tryd.ntmps111, List.size_toArray, List.length_cons, List.length_nil, Nat.reduceAdd, Nat.reduceSub, Array.replicate_succ, Array.replicate_zero, List.push_toArray, List.append_toArray, List.nil_append, List.cons_append]
  gi_wp2
  refine ⟨trivial, (callsIn_wide.2 (lowest_all x m _ (by omega))).mono ?_⟩
  rintro e w' ⟨rfl, rfl⟩
  gi_wp2
  refine ⟨trivial, (places_in (n - 1) (lowN x m) _).mono ?_⟩
  rintro e w' ⟨rfl, rfl⟩
  gi_wp2
  have hs := cell_new w (.int .i64 0) 3
  have hb := cell_new (w.alloc (.cells #[.int .i64 0] 3)) (.int .u64 (lowN x m)) 27
  rw [World.size_alloc] at hb
  have hB0 : Below w.heap.size w ((w.alloc (.cells #[.int .i64 0] 3)).alloc (.cells #[.int .u64 (lowN x m)] 27)) := ((Below.refl _ w).alloc (Nat.le_refl _) _).alloc (by simp) _
  refine wpIn_rangeFunc_ownF rfl hn1 (gf := 108) (lb := #[.pointer (some ⟨w.heap.size + 1, 0, none⟩)]) rfl trivial (enters_of Tryd.func108 (by kernel_rfl) rfl)
    (places_stops (n - 1) (by omega) (w.heap.size + 1) w.heap.size (lowN x m) (lowN_lt x m (by omega)) _ (by simp) (by simp; omega) h0 hb.1 (hd.keep hB0 h0)) belowK_t (belowK_b (by simp; omega)) (Below.refl _ _) (fun _ => rfl)
    (fun pre W => (pre = [] ∧ W.cell? ⟨w.heap.size, 0, none⟩ = some (.int .i64 0) ∧ W.frozen? ⟨w.heap.size, 0, none⟩ = false) ∧ Below w.heap.size w W)
    (fun c pre W => (c = .ret ∧ ∃ y : Nat, pre = [y] ∧ W.cell? ⟨w.heap.size, 0, none⟩ = some (.int .i64 (y : Int))) ∧ Below w.heap.size w W)
    (OwnFrom.and (Own.from (fun s A B row hs hg hr => ⟨hs.1, cell_kept hs.2.1 hg hr, (frozen_kept hs.2.1 hg hr).trans hs.2.2⟩) _) (ownFrom_below (Nat.le_refl _) (by simp; omega)))
    (fun c => OwnFrom.and (Own.from (fun s A B row hs hg hr => ⟨hs.1, by obtain ⟨y, e, hc⟩ := hs.2; exact ⟨y, e, cell_kept hc hg hr⟩⟩) _) (ownFrom_below (Nat.le_refl _) (by simp; omega)))
    ⟨⟨rfl, cell_alloc_at _ hs.1, frozen_alloc_at _ hs.1 hs.2⟩, hB0⟩
    (fun y => { tmps := #[.int .u64 x, .int .i64 m, .bool true, undef, undef, undef, .pointer (some ⟨w.heap.size, 0, none⟩), .int .i64 y, .bool true, .bool (!true), undef, undef, .int .u64 x, .int .i64 m, .int .u64 (lowN x m), .func (.func 108) #[] #[.pointer (some ⟨w.heap.size + 1, 0, none⟩)], .int .i64 y, undef], defers := [] }) ?assign ?body ?done ?stop
  case assign =>
    intro l y W K hK
    gi_wp2
    simpa using hK
  case body =>
    rintro l pre y W ⟨⟨rfl, hc, hf⟩, hB⟩ hlt
    gi_wp2
    exact ⟨KeepsOthers.setCell _ _ _, ⟨rfl, y, rfl, World.cell?_setCell_same' _ _ _ (by rw [hc]; rfl)⟩, hB.setCell (p := ⟨w.heap.size, 0, none⟩) (by simp) _⟩
  case done =>
    rintro D ys W hD hys ⟨⟨rfl, hcr, hfr⟩, hB⟩ hK
    have Hys := Lib.hid hys
    clear hys
    gi_wp2
    have hK' := (KeepsOthers.setCell W ⟨w.heap.size, 0, none⟩ (.int .i64 (-1))).same D _ hK rfl
    refine ⟨by simp, .inl ⟨_, _, rfl, run_takeDeferred hK', ?_⟩⟩
    have hc5 := cell_kept (World.cell?_setCell_same' W ⟨w.heap.size, 0, none⟩ (.int .i64 (-1)) (by rw [hcr]; rfl)) (grownBy_putObj' _ D (.deferred none)) (fun r e => by cases e; exact ⟨_, hK', rfl⟩)
    refine ⟨.int .i64 (-1), ?_, by rw [← Hys.out]; rfl, (hB.setCell (p := ⟨w.heap.size, 0, none⟩) (by simp) _).trans (belowK_b (w := w) (Nat.le_refl _) _ D _ _ (by simp at hD; omega) hK' rfl rfl)⟩
    simp [results, Tryd.f111, go_sem, hc5]
  case stop =>
    rintro D c pre W hD hpre ⟨⟨rfl, y, rfl, hcr⟩, hB⟩ hK
    gi_wp2
    refine ⟨by simp, .inl ⟨_, _, rfl, run_takeDeferred hK, ?_⟩⟩
    have hc5 := cell_kept hcr (grownBy_putObj' _ D (.deferred none)) (fun r e => by cases e; exact ⟨_, hK, rfl⟩)
    refine ⟨.int .i64 y, ?_, by obtain ⟨q, hq⟩ := hpre; rw [← hq]; rfl, hB.trans (belowK_b (w := w) (Nat.le_refl _) W D _ _ (by simp at hD; omega) hK rfl rfl)⟩
    simp [results, Tryd.f111, go_sem, hc5]

set_option maxRecDepth 100000 in
set_option maxHeartbeats 2000000 in
theorem first0_in (n : Nat) (hn : 3 ≤ n) (x : Nat) (x' : Nat) (hx' : bits .xor .u64 IntKind.u64.max (x : Int) = (x' : Int)) (hxl : x' < 18446744073709551616) (m : Int) (w : World) (h1 : x < 18446744073709551616) (hd : Deb w) (h0 : 6 < w.heap.size) :
    CallsIn Fence.wide n Tryd.prog 111 #[.int .u64 x, .int .i64 m, .bool false] w fun e W' => e = .returned (.int .i64 (headI (onesL (lowN x' m) 64))) ∧ Below w.heap.size w W' := by
  have hn1 : 1 ≤ n := by omega
  refine callsIn_of_wp_marks Tryd.func111 rfl trivial ?_ rfl
  simp only [Tryd.ntmps111, List.size_toArray, List.length_cons, List.length_nil, Nat.reduceAdd, Nat.reduceSub, Array.replicate_succ, Array.replicate_zero, List.push_toArray, List.append_toArray, List.nil_append, List.cons_append]
  gi_wp2
  refine ⟨trivial, (callsIn_wide.2 (lowest_all x' m _ (by omega))).mono ?_⟩
  rintro e w' ⟨rfl, rfl⟩
  gi_wp2
  refine ⟨trivial, (places_in (n - 1) (lowN x' m) _).mono ?_⟩
  rintro e w' ⟨rfl, rfl⟩
  gi_wp2
  have hs := cell_new w (.int .i64 0) 3
  have hb := cell_new (w.alloc (.cells #[.int .i64 0] 3)) (.int .u64 (lowN x' m)) 27
  rw [World.size_alloc] at hb
  have hB0 : Below w.heap.size w ((w.alloc (.cells #[.int .i64 0] 3)).alloc (.cells #[.int .u64 (lowN x' m)] 27)) := ((Below.refl _ w).alloc (Nat.le_refl _) _).alloc (by simp) _
  refine wpIn_rangeFunc_ownF rfl hn1 (gf := 108) (lb := #[.pointer (some ⟨w.heap.size + 1, 0, none⟩)]) rfl trivial (enters_of Tryd.func108 (by kernel_rfl) rfl)
    (places_stops (n - 1) (by omega) (w.heap.size + 1) w.heap.size (lowN x' m) (lowN_lt x' m (by omega)) _ (by simp) (by simp; omega) h0 hb.1 (hd.keep hB0 h0)) belowK_t (belowK_b (by simp; omega)) (Below.refl _ _) (fun _ => rfl)
    (fun pre W => (pre = [] ∧ W.cell? ⟨w.heap.size, 0, none⟩ = some (.int .i64 0) ∧ W.frozen? ⟨w.heap.size, 0, none⟩ = false) ∧ Below w.heap.size w W)
    (fun c pre W => (c = .ret ∧ ∃ y : Nat, pre = [y] ∧ W.cell? ⟨w.heap.size, 0, none⟩ = some (.int .i64 (y : Int))) ∧ Below w.heap.size w W)
    (OwnFrom.and (Own.from (fun s A B row hs hg hr => ⟨hs.1, cell_kept hs.2.1 hg hr, (frozen_kept hs.2.1 hg hr).trans hs.2.2⟩) _) (ownFrom_below (Nat.le_refl _) (by simp; omega)))
    (fun c => OwnFrom.and (Own.from (fun s A B row hs hg hr => ⟨hs.1, by obtain ⟨y, e, hc⟩ := hs.2; exact ⟨y, e, cell_kept hc hg hr⟩⟩) _) (ownFrom_below (Nat.le_refl _) (by simp; omega)))
    ⟨⟨rfl, cell_alloc_at _ hs.1, frozen_alloc_at _ hs.1 hs.2⟩, hB0⟩
    (fun y => { tmps := #[.int .u64 x', .int .i64 m, .bool false, undef, undef, undef, .pointer (some ⟨w.heap.size, 0, none⟩), .int .i64 y, .bool false, .bool (!false), .int .u64 x, .int .u64 x', .int .u64 x', .int .i64 m, .int .u64 (lowN x' m), .func (.func 108) #[] #[.pointer (some ⟨w.heap.size + 1, 0, none⟩)], .int .i64 y, undef], defers := [] }) ?assign ?body ?done ?stop
  case assign =>
    intro l y W K hK
    gi_wp2
    simpa using hK
  case body =>
    rintro l pre y W ⟨⟨rfl, hc, hf⟩, hB⟩ hlt
    gi_wp2
    exact ⟨KeepsOthers.setCell _ _ _, ⟨rfl, y, rfl, World.cell?_setCell_same' _ _ _ (by rw [hc]; rfl)⟩, hB.setCell (p := ⟨w.heap.size, 0, none⟩) (by simp) _⟩
  case done =>
    rintro D ys W hD hys ⟨⟨rfl, hcr, hfr⟩, hB⟩ hK
    have Hys := Lib.hid hys
    clear hys
    gi_wp2
    have hK' := (KeepsOthers.setCell W ⟨w.heap.size, 0, none⟩ (.int .i64 (-1))).same D _ hK rfl
    refine ⟨by simp, .inl ⟨_, _, rfl, run_takeDeferred hK', ?_⟩⟩
    have hc5 := cell_kept (World.cell?_setCell_same' W ⟨w.heap.size, 0, none⟩ (.int .i64 (-1)) (by rw [hcr]; rfl)) (grownBy_putObj' _ D (.deferred none)) (fun r e => by cases e; exact ⟨_, hK', rfl⟩)
    refine ⟨.int .i64 (-1), ?_, by rw [← Hys.out]; rfl, (hB.setCell (p := ⟨w.heap.size, 0, none⟩) (by simp) _).trans (belowK_b (w := w) (Nat.le_refl _) _ D _ _ (by simp at hD; omega) hK' rfl rfl)⟩
    simp [results, Tryd.f111, go_sem, hc5]
  case stop =>
    rintro D c pre W hD hpre ⟨⟨rfl, y, rfl, hcr⟩, hB⟩ hK
    gi_wp2
    refine ⟨by simp, .inl ⟨_, _, rfl, run_takeDeferred hK, ?_⟩⟩
    have hc5 := cell_kept hcr (grownBy_putObj' _ D (.deferred none)) (fun r e => by cases e; exact ⟨_, hK, rfl⟩)
    refine ⟨.int .i64 y, ?_, by obtain ⟨q, hq⟩ := hpre; rw [← hq]; rfl, hB.trans (belowK_b (w := w) (Nat.le_refl _) W D _ _ (by simp at hD; omega) hK rfl rfl)⟩
    simp [results, Tryd.f111, go_sem, hc5]

theorem first1_any (x : Nat) (m : Int) (w : World) (h1 : x < 18446744073709551616) (hd : Deb w) (h0 : 6 < w.heap.size) :
    Calls Tryd.prog 111 #[.int .u64 x, .int .i64 m, .bool true] w fun e W' => e = .returned (.int .i64 (headI (onesL (lowN x m) 64))) ∧ Below w.heap.size w W' :=
  callsIn_wide.1 (first1_in 3 (by omega) x m w h1 hd h0)

/-- the opposite of a word -/
theorem not_walk (x : Nat) (h : x < 18446744073709551616) : bits .xor .u64 IntKind.u64.max (x : Int) = ((18446744073709551615 - x : Nat) : Int) := by
  rw [show IntKind.u64.max = ((18446744073709551615 : Nat) : Int) from rfl, u64_xor_nat 18446744073709551615 x (by decide) h]
  congr 1
  apply Nat.eq_of_testBit_eq
  intro i
  rw [Nat.testBit_xor, show 18446744073709551615 = 2 ^ 64 - 1 from rfl, Nat.testBit_two_pow_sub_one, show 2 ^ 64 - 1 - x = 2 ^ 64 - (x + 1) by omega, Nat.testBit_two_pow_sub_succ (by omega)]
  by_cases hi : i < 64
  · simp [hi]
  · have : x.testBit i = false := Nat.testBit_lt_two_pow (Nat.lt_of_lt_of_le h (Nat.pow_le_pow_right (by omega : 2 > 0) (show 64 ≤ i by omega)))
    simp [hi, this]
theorem first0_any (x : Nat) (m : Int) (w : World) (h1 : x < 18446744073709551616) (hd : Deb w) (h0 : 6 < w.heap.size) :
    Calls Tryd.prog 111 #[.int .u64 x, .int .i64 m, .bool false] w fun e W' => e = .returned (.int .i64 (headI (onesL (lowN (18446744073709551615 - x) m) 64))) ∧ Below w.heap.size w W' :=
  callsIn_wide.1 (first0_in 3 (by omega) x _ (not_walk x h1) (by omega) m w h1 hd h0)
end Go.Proofs.YtnjifmecaeagaaaDoor
