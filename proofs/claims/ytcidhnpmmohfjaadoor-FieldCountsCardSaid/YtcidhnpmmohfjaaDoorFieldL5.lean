/-
  The laws of package field: the walks (5): how many, which ones, the first one.
-/
import Derived.Test.YtcidhnpmmohfjaaDoorFieldL4
import Derived.Test.YtcidhnpmmohfjaaDoorFieldR
set_option linter.unusedVariables false
namespace Go.Proofs.YtcidhnpmmohfjaaDoor
open Go.RowKit

theorem own_ge {w : World} {base e n : Nat} {v : Value} {xs : List Value} (h : w.ownsRow base e 1 v n xs) : ∀ k, v.ownBlock = some k → base ≤ k := by
  intro k hk
  rcases h.2 with ⟨hv, _⟩ | ⟨g, cap, cur, hv, hb, hg, _⟩
  · subst hv; simp [Value.ownBlock] at hk
  · subst hv; simp [Value.ownBlock] at hk; omega
theorem ones_push (x k : Nat) (h : x.testBit k = true) : (onesL x (k + 1)).map (fun y : Nat => Value.int .i64 y) = (onesL x k).map (fun y : Nat => Value.int .i64 y) ++ [.int .i64 (k : Int)] ∧ (onesL x (k + 1)).length = (onesL x k).length + 1 := by
  rw [ones_succ, h]; simp
theorem ones_skip (x k : Nat) (h : x.testBit k = false) : onesL x (k + 1) = onesL x k := by
  rw [ones_succ, h]; simp
theorem rel_push {w wr w1 : World} {x k : Nat} {v v' : Value} {C : Array Value} {t : TypeId} (h : x.testBit k = true) (hB : Below w.heap.size w wr) (hown : wr.ownsRow w.heap.size 3 1 v (onesL x k).length ((onesL x k).map fun y : Nat => Value.int .i64 y))
    (hown' : w1.ownsRow w.heap.size 3 1 v' ((onesL x k).length + 1) ((onesL x k).map (fun y : Nat => Value.int .i64 y) ++ [.int .i64 (k : Int)])) (hg : (wr.alloc (.cells C t)).grownBy w1 v.ownBlock) :
    w1.ownsRow w.heap.size 3 1 v' (onesL x (k + 1)).length ((onesL x (k + 1)).map fun y : Nat => Value.int .i64 y) ∧ Below w.heap.size w w1 := by
  obtain ⟨e1, e2⟩ := ones_push x k h
  rw [e1, e2]
  exact ⟨hown', (hB.alloc hB.size _).grown hg (by have := hB.size; simp; omega) (own_ge hown)⟩
theorem held_bd (m : Int) : heldN m ≤ 64 := by unfold heldN; omega
theorem held_lt {m : Int} {k : Nat} (h : k < heldN m) : (k : Int) < m ∧ (k : Int) < 64 := by unfold heldN at h; omega
theorem held_end {m : Int} {k : Nat} (h : k = heldN m) (h1 : (k : Int) < m) : (k : Int) = 64 := by unfold heldN at h; omega

set_option maxHeartbeats 1000000 in
theorem refPlaces_own (x : Nat) (m : Int) (w : World) (hx : x < 18446744073709551616) :
    Calls Tryd.prog 16 #[.int .u64 x, .int .i64 m] w fun e w' => ∃ v, e = .returned v ∧ w'.ownsRow w.heap.size 3 1 v (onesL x (heldN m)).length ((onesL x (heldN m)).map fun y : Nat => Value.int .i64 y) ∧ Below w.heap.size w w' := by
  obtain ⟨i0, hi, hz0, hz1, hz2⟩ := info_parts infoInt
  have hbd := held_bd m
  go_enter Tryd.func16, Tryd.ntmps16
  go_wp2_with fail
  go_loopw [5, 6] (fun v i wr => ∃ k : Nat, k ≤ heldN m ∧ i = .int .i64 k ∧ wr.ownsRow w.heap.size 3 1 v (onesL x k).length ((onesL x k).map fun y : Nat => Value.int .i64 y) ∧ Below w.heap.size w wr) (fun _ i _ => 65 - (intOf i).toNat)
  case atStart => exact ⟨0, Nat.zero_le _, rfl, World.ownsRow_nil _ _ _ _, Below.refl _ _⟩
  case round =>
    obtain ⟨k, hk, rfl, hown, hB⟩ := hrel
    have hl64 := len_le x k
    have hlen : (onesL x k).length ≤ 64 := by omega
    clear hl64
    by_cases hlt : k < heldN m
    · obtain ⟨l1, l2⟩ := held_lt hlt
      have HX := Lib.hid (refBit_any x k wr hx (by omega))
      cases hb : x.testBit k
      · rw [hb] at HX
        go_wp2_with (go_at_call 23; refine HX.out.mono ?_; rintro e w' ⟨rfl, rfl⟩)
        go_roundw
        case rel => exact ⟨k + 1, by omega, by go_num, by rw [ones_skip x k hb]; exact hown, hB⟩
        case measure => simp [intOf]; omega
      · rw [hb] at HX
        go_wp2_with (first | (go_at_call 23; refine HX.out.mono ?_; rintro e w' ⟨rfl, rfl⟩) | (at_builtin; refine wpList_append_own _ rfl _ _ 28 rfl w.heap.size 3 i0 (.int .i64 0) 1 8 Tryd.underlying28 hi hz0 hz1 hz2 rfl (by decide) _ _ _ rfl (hown.alloc _) ⟨_, 0, none⟩ 1 1 [.int .i64 (k : Int)] rfl rfl (cell_one_new _ _ _) (by simp [Value.oneCell']) (by unfold maxLen; omega) (by omega) (by have := hB.size; simp; omega) ?_; intro v' w1 hown' hgrow _; obtain ⟨R1, R2⟩ := rel_push hb hB hown hown' hgrow; clear hown' hgrow))
        go_roundw
        case rel => exact ⟨k + 1, by omega, by go_num, R1, R2⟩
        case measure => simp [intOf]; omega
    · obtain rfl : k = heldN m := by omega
      by_cases h1 : ((heldN m : Nat) : Int) < m
      · have h2 := held_end rfl h1
        go_wp2_with fail
        go_ret
        exact ⟨_, rfl, hown, hB⟩
      · go_wp2_with fail
        go_ret
        exact ⟨_, rfl, hown, hB⟩

theorem head_at (y N k : Nat) (hk : k < N) (h0 : onesL y k = []) (hb : y.testBit k = true) : headI (onesL y N) = k := by
  have hn : ∀ i, i < k → y.testBit i = false := by
    intro i hi
    cases hbi : y.testBit i
    · rfl
    · have : i ∈ onesL y k := by unfold onesL; rw [List.mem_filter, List.mem_range]; exact ⟨hi, hbi⟩
      rw [h0] at this; simp at this
  rcases first_spec y N with ⟨e, h⟩ | ⟨t, r, e, ht, htb, h⟩
  · rw [h k hk] at hb; simp at hb
  · rw [e]
    have : t = k := by
      rcases Nat.lt_trichotomy t k with h1 | h1 | h1
      · rw [hn t h1] at htb; simp at htb
      · exact h1
      · rw [h k h1] at hb; simp at hb
    subst this; rfl

set_option maxHeartbeats 1000000 in
theorem refFirst_any (x y : Nat) (one : Bool) (m : Int) (w : World) (hx : x < 18446744073709551616) (hy : ∀ i, i < 64 → y.testBit i = (x.testBit i == one)) :
    Calls Tryd.prog 21 #[.int .u64 x, .int .i64 m, .bool one] w fun e w' => e = .returned (.int .i64 (headI (onesL y (heldN m)))) ∧ w = w' := by
  have hbd := held_bd m
  have HY := Lib.hid hy
  clear hy
  go_enter Tryd.func21, Tryd.ntmps21
  go_wp2_with fail
  go_loop [7] (fun i => ∃ k : Nat, k ≤ heldN m ∧ i = .int .i64 k ∧ onesL y k = []) (fun i => 65 - (intOf i).toNat)
  case atStart => exact ⟨0, Nat.zero_le _, rfl, rfl⟩
  case round =>
    obtain ⟨k, hk, rfl, hnone⟩ := hrel
    have HN := Lib.hid hnone
    clear hnone
    by_cases hlt : k < heldN m
    · obtain ⟨l1, l2⟩ := held_lt hlt
      have HX := Lib.hid (refBit_any x k w hx (by omega))
      have HK := Lib.hid (HY.out k (by omega))
      cases hb : x.testBit k <;> cases one
      all_goals
        rw [hb] at HX HK
        go_wp2_with (go_at_call 23; refine HX.out.mono ?_; rintro e w' ⟨rfl, rfl⟩)
        first
          | (go_round
             case rel => exact ⟨k + 1, by omega, by go_num, by rw [ones_skip y k (HK.out.trans rfl)]; exact HN.out⟩
             case measure => simp [intOf]; omega)
          | (go_ret; exact ⟨by rw [head_at y _ k hlt HN.out (HK.out.trans rfl)]; rfl, rfl⟩)
    · obtain rfl : k = heldN m := by omega
      have he : headI (onesL y (heldN m)) = -1 := by rw [HN.out]; rfl
      have HE := Lib.hid he
      clear he
      by_cases h1 : ((heldN m : Nat) : Int) < m
      · have h2 := held_end rfl h1
        go_wp2_with fail
        go_ret
        exact ⟨by rw [HE.out]; rfl, rfl⟩
      · go_wp2_with fail
        go_ret
        exact ⟨by rw [HE.out]; rfl, rfl⟩

set_option maxHeartbeats 1000000 in
theorem refInts_one (l : List Nat) (va vb : Value) (ba bb : Nat) (w : World) (hl : l.length ≤ 64) (ha : IsL w ba va l) (hb : IsL w bb vb l) :
    Calls Tryd.prog 18 #[va, vb] w fun e w' => e = .returned (.bool true) ∧ Below w.heap.size w w' := by
  rcases ha with ⟨rfl, rfl⟩ | ⟨g, cap, rfl, _, hg, hc⟩
  · rcases hb with ⟨rfl, _⟩ | ⟨g2, cap2, rfl, _, hg2, hc2⟩
    all_goals
      go_enter Tryd.func18, Tryd.ntmps18
      go_wp2_with fail
      refine wp_loop_rounds 1 ?_
      rw [rounds_succ]
      go_wp2_with fail
      go_ret
      exact ⟨rfl, Below.refl _ _⟩
  · rcases hb with ⟨rfl, hnil⟩ | ⟨g2, cap2, rfl, _, hg2, hc2⟩
    · subst hnil
      go_enter Tryd.func18, Tryd.ntmps18
      go_wp2_with fail
      refine wp_loop_rounds 1 ?_
      rw [rounds_succ]
      go_wp2_with fail
      go_ret
      exact ⟨rfl, Below.refl _ _⟩
    · have HC := Lib.hid hc
      have HC2 := Lib.hid hc2
      clear hc hc2
      go_enter Tryd.func18, Tryd.ntmps18
      go_wp2_with fail
      go_loopw [5] (fun i wr => ∃ k : Nat, k ≤ l.length ∧ i = .int .i64 k ∧ Below w.heap.size w wr) (fun i _ => 65 - (intOf i).toNat)
      case atStart => exact ⟨0, Nat.zero_le _, rfl, Below.refl _ _⟩
      case round =>
        obtain ⟨k, hk, rfl, hB⟩ := hrel
        by_cases hlt : k < l.length
        · have c1 := ((bcell hB).1 g k hg).trans (HC.out k hlt)
          have c2 := ((bcell hB).1 g2 k hg2).trans (HC2.out k hlt)
          generalize l.getD k 0 = p at *
          go_wp2_with fail
          go_region
          all_goals (try go_wp2_with fail)
          go_roundw
          case rel => exact ⟨k + 1, by omega, by go_num, hB.drew⟩
          case measure => simp [intOf]; omega
        · obtain rfl : k = l.length := by omega
          go_wp2_with fail
          go_ret
          exact ⟨rfl, hB⟩

theorem ones_held (x : Nat) (m : Int) (hx : x < 18446744073709551616) : onesL (lowN x m) 64 = onesL x (heldN m) := by
  unfold lowN
  exact ones_low x _ (held_bd m)
theorem IsL.len {w : World} {b : Nat} {v : Value} {l : List Nat} (h : IsL w b v l) : ∃ p cap, v = .slice p l.length cap := by
  rcases h with ⟨rfl, rfl⟩ | ⟨g, cap, rfl, _⟩
  · exact ⟨_, _, rfl⟩
  · exact ⟨_, _, rfl⟩

set_option maxHeartbeats 1000000 in
theorem fieldCounts (x : Nat) (m : Int) (w : World) (hd : Dw w) (hx : x < 18446744073709551616) :
    Calls Tryd.prog 4 #[.int .u64 x, .int .i64 m] w fun e w' => e = .returned (.bool true) ∧ Below w.heap.size w w' := by
  have hlen : (onesL x (heldN m)).length ≤ 64 := Nat.le_trans (len_le x _) (held_bd m)
  have e1 := ones_held x m hx
  have e2 := ones_held (18446744073709551615 - x) m (by omega)
  have P1 : ∀ w, Dw w → Calls Tryd.prog 17 #[.int .u64 x, .int .i64 m] w fun e w' => e = .returned (.int .i64 ((onesL x (heldN m)).length : Int)) ∧ Below w.heap.size w w' := fun w hd => by
    rw [← e1]; exact ones_any x m w hx hd.1 hd.2
  have P2 : ∀ w, Dw w → Calls Tryd.prog 19 #[.int .u64 x, .int .i64 m] w fun e w' => ∃ v, e = .returned v ∧ IsL w' w.heap.size v (onesL x (heldN m)) ∧ Below w.heap.size w w' := fun w hd => by
    rw [← e1]; exact (placesL_any x m w hx hd.1 hd.2).mono fun e w' ⟨v, he, ho, hb⟩ => ⟨v, he, IsL.of_owns ho, hb⟩
  have P3 : ∀ w, Dw w → Calls Tryd.prog 20 #[.int .u64 x, .int .i64 m, .bool true] w fun e w' => e = .returned (.int .i64 (headI (onesL x (heldN m)))) ∧ Below w.heap.size w w' := fun w hd => by
    rw [← e1]; exact first1_any x m w hx hd.1 hd.2
  have P4 : ∀ w, Dw w → Calls Tryd.prog 20 #[.int .u64 x, .int .i64 m, .bool false] w fun e w' => e = .returned (.int .i64 (headI (onesL (18446744073709551615 - x) (heldN m)))) ∧ Below w.heap.size w w' := fun w hd => by
    rw [← e2]; exact first0_any x m w hx hd.1 hd.2
  have R1 : ∀ w, Calls Tryd.prog 21 #[.int .u64 x, .int .i64 m, .bool true] w fun e w' => e = .returned (.int .i64 (headI (onesL x (heldN m)))) ∧ w = w' := fun w =>
    refFirst_any x x true m w hx (fun i _ => by simp)
  have R2 : ∀ w, Calls Tryd.prog 21 #[.int .u64 x, .int .i64 m, .bool false] w fun e w' => e = .returned (.int .i64 (headI (onesL (18446744073709551615 - x) (heldN m)))) ∧ w = w' := fun w =>
    refFirst_any x _ false m w hx (fun i hi => by rw [opp_testBit x i hx hi]; simp)
  have R3 : ∀ w, Calls Tryd.prog 16 #[.int .u64 x, .int .i64 m] w fun e w' => ∃ v, e = .returned v ∧ IsL w' w.heap.size v (onesL x (heldN m)) ∧ Below w.heap.size w w' := fun w =>
    (refPlaces_own x m w hx).mono fun e w' ⟨v, he, ho, hb⟩ => ⟨v, he, IsL.of_owns ho, hb⟩
  have HP1 := Lib.hid P1
  have HP2 := Lib.hid P2
  have HP3 := Lib.hid P3
  have HP4 := Lib.hid P4
  have HR1 := Lib.hid R1
  have HR2 := Lib.hid R2
  have HR3 := Lib.hid R3
  clear P1 P2 P3 P4 R1 R2 R3 e1 e2
  generalize headI (onesL x (heldN m)) = q1 at *
  generalize headI (onesL (18446744073709551615 - x) (heldN m)) = q2 at *
  generalize onesL x (heldN m) = l at *
  go_enter Tryd.func4, Tryd.ntmps4
  go_wp2_with fail
  refine (awake_any _ hd).mono ?_
  rintro e w1 ⟨rfl, B1⟩
  have d1 := hd.keep B1
  have z1 := B1.size
  go_wp2_with fail
  refine (HR3.out _).mono ?_
  rintro e w2 ⟨v, rfl, L2, hb2⟩
  have d2 := d1.keep hb2
  obtain ⟨B2, z2⟩ := belowStep B1 z1 hb2
  obtain ⟨pv, cv, rfl⟩ := L2.len
  have HL2 := Lib.hid L2
  clear L2
  go_wp2_with fail
  refine (HP1.out _ d2).mono ?_
  rintro e w3 ⟨rfl, hb3⟩
  have d3 := d2.keep hb3
  obtain ⟨B3, z3⟩ := belowStep B2 z2 hb3
  have HL3 := Lib.hid (HL2.out.keep hb3)
  go_wp2_with fail
  refine (HP2.out _ d3).mono ?_
  rintro e w4 ⟨v4, rfl, L4, hb4⟩
  have d4 := d3.keep hb4
  obtain ⟨B4, z4⟩ := belowStep B3 z3 hb4
  have HL4 := Lib.hid (HL3.out.keep hb4)
  have HL5 := Lib.hid L4
  clear L4
  go_wp2_with fail
  refine (refInts_one l _ _ _ _ _ hlen HL5.out HL4.out).mono ?_
  rintro e w5 ⟨rfl, hb5⟩
  have d5 := d4.keep hb5
  obtain ⟨B5, z5⟩ := belowStep B4 z4 hb5
  go_wp2_with fail
  refine (HP3.out _ d5).mono ?_
  rintro e w6 ⟨rfl, hb6⟩
  have d6 := d5.keep hb6
  obtain ⟨B6, z6⟩ := belowStep B5 z5 hb6
  go_wp2_with fail
  refine (HR1.out _).mono ?_
  rintro e w' ⟨rfl, rfl⟩
  go_wp2_with fail
  refine (HP4.out _ d6).mono ?_
  rintro e w7 ⟨rfl, hb7⟩
  obtain ⟨B7, z7⟩ := belowStep B6 z6 hb7
  go_wp2_with fail
  refine (HR2.out _).mono ?_
  rintro e w' ⟨rfl, rfl⟩
  go_wp2_with fail
  go_ret
  exact ⟨rfl, B7⟩
end Go.Proofs.YtcidhnpmmohfjaaDoor
