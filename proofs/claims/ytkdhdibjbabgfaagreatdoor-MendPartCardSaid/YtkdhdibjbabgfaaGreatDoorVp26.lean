/-
  Part of the proof of MendPart.
-/
import Derived.Test.YtkdhdibjbabgfaaGreatDoorVp14
import Derived.Laws.EntriesVeiled
import Derived.Test.YtkdhdibjbabgfaaGreatDoorVp0
set_option maxRecDepth 10000
set_option maxHeartbeats 2000000
set_option linter.unusedVariables false
set_option linter.unusedSimpArgs false
namespace Go.Proofs.YtkdhdibjbabgfaaGreatDoor
open Go.RowKit Go.ChangeShapes Go.WideShapes Go.Deep
theorem refBit_any (x i : Nat) (w : World) (hx : x < 18446744073709551616) (hi : i ≤ 64) : Calls Tryz.prog 88 #[.int .u64 x, .int .i64 i] w fun e w' => e = .returned (.bool (x.testBit i)) ∧ w = w' := by
 go_enter Tryz.func88, Tryz.ntmps88
 go_wp2
 go_loop [0, 5] (fun v k => ∃ j : Nat, j ≤ i ∧ k = .int .i64 j ∧ v = .int .u64 ((x / 2 ^ j : Nat) : Int)) (fun _ k => 65 - (intOf k).toNat)
 case atStart => exact ⟨0, by omega, rfl, by simp⟩
 case round =>
  obtain ⟨j, hj, rfl, rfl⟩ := hrel
  have hle : x / 2 ^ j ≤ x := Nat.div_le_self _ _
  have hds : x / 2 ^ j / 2 = x / 2 ^ (j + 1) := by rw [Nat.pow_succ, Nat.div_div_eq_div_mul]
  have htb := Nat.testBit_eq_decide_div_mod_eq (x := x) (i := j)
  generalize hy : x / 2 ^ j = y at *
  have HD := lh hds
  have HT := lh htb
  clear hds htb hy
  by_cases hlt : (j : Int) < i
  ·go_wp2
   go_round
   case rel => exact ⟨j + 1, by omega, by go_num, by rw [← HD.out]; go_num⟩
   case measure => simp [intOf]; omega
  ·obtain rfl : j = i := by omega
   go_wp2
   go_ret
   refine ⟨ret_b ?_, rfl⟩
   rw [HT.out, Bool.eq_iff_iff]
   simp only [beq_iff_eq, decide_eq_true_eq]
   omega
def doN (x : Nat) (o : Ox) : Nat := if o.1 = 0 then o.2.2 else if o.1 = 1 then x ||| o.2.2 else if o.1 = 2 then x &&& o.2.2 else x
theorem doN_lt {x : Nat} {o : Ox} (hx : x < 18446744073709551616) (ho : o.2.2 < 18446744073709551616) : doN x o < 18446744073709551616 := by
 unfold doN
 split
 ·exact ho
 split
 ·exact Nat.or_lt_two_pow (n := 64) hx ho
 split
 ·exact Nat.lt_of_le_of_lt Nat.and_le_left hx
 ·exact hx
def pwN (k : Nat) : Nat := 2 ^ k % 18446744073709551616
theorem pwN_lt (k : Nat) (h : k < 64) : pwN k = 2 ^ k := Nat.mod_eq_of_lt (by have := pow_lt64 h; omega)
theorem pwN_succ (k : Nat) : (2 * pwN k) % 18446744073709551616 = pwN (k + 1) := by
 unfold pwN
 rw [Nat.mul_mod_mod, Nat.pow_succ, Nat.mul_comm]
theorem refDo_easy (x : Nat) (o : Ox) (w : World) (hx : x < 18446744073709551616) (h : o.1 ≠ 1 ∧ o.1 ≠ 2) : Calls Tryz.prog 55 #[.int .u64 (x : Nat), opV o] w fun e w' => e = .returned (.int .u64 (doN x o : Nat)) ∧ Below w.heap.size w w' := by
 obtain ⟨k, a, v⟩ := o
 unfold opV
 simp only [] at *
 have hB : Below w.heap.size w (w.alloc (.cells #[.int .i64 k, .int .i64 a, .int .u64 (v : Nat)] (53 : Nat))) := bZ _ _
 obtain ⟨c0, c1, c2⟩ := C3.new w (.int .i64 k) (.int .i64 a) (.int .u64 (v : Nat)) (53 : Nat)
 by_cases h0 : k = 0
 ·subst h0
  have e := lh (show doN x (0, a, v) = v from by simp [doN])
  clear h
  go_enter Tryz.func55, Tryz.ntmps55
  go_wp2_with fail
  go_ret
  exact ⟨by rw [e.out]; rfl, hB⟩
 ·have e := lh (show doN x (k, a, v) = x from by simp [doN, h0, h.1, h.2])
  have h0' : (k == 0) = false := by rw [beq_eq_false_iff_ne]; exact h0
  have h1 : (k != 1) = true := by rw [bne_iff_ne]; exact h.1
  have h2 : (k != 2) = true := by rw [bne_iff_ne]; exact h.2
  obtain ⟨h3, h4⟩ := h
  go_enter Tryz.func55, Tryz.ntmps55
  go_wp2_with fail
  go_ret
  exact ⟨by rw [e.out]; rfl, hB⟩
theorem refDo_1 (x v : Nat) (a : Int) (w : World) (hx : x < 18446744073709551616) (hv : v < 18446744073709551616) : Calls Tryz.prog 55 #[.int .u64 (x : Nat), opV (1, a, v)] w fun e w' => e = .returned (.int .u64 (x ||| v : Nat)) ∧ Below w.heap.size w w' := by
 have hRl : x ||| v < 18446744073709551616 := by have := doN_lt (o := (1, a, v)) hx hv; simpa [doN] using this
 have hstep := lh (fun i => show (x ||| v) % 2 ^ (i + 1) = (x ||| v) % 2 ^ i + if (x.testBit i || v.testBit i) then 2 ^ i else 0 from by rw [mod_step, Nat.testBit_or])
 have hend := lh (show (x ||| v) % 2 ^ 64 = x ||| v from Nat.mod_eq_of_lt (by simpa using hRl))
 have hX := lh (fun i (hi : i ≤ 64) w => refBit_any x i w hx hi)
 have hV := lh (fun i (hi : i ≤ 64) w => refBit_any v i w hv hi)
 have hlt := lh (fun i => show (x ||| v) % 2 ^ i < 2 ^ i from Nat.mod_lt _ (Nat.pow_pos (by decide)))
 generalize x ||| v = R at *
 unfold opV
 simp only []
 have hB : Below w.heap.size w (w.alloc (.cells #[.int .i64 1, .int .i64 a, .int .u64 (v : Nat)] (53 : Nat))) := bZ _ _
 obtain ⟨c0, c1, c2⟩ := C3.new w (.int .i64 1) (.int .i64 a) (.int .u64 (v : Nat)) (53 : Nat)
 go_enter Tryz.func55, Tryz.ntmps55
 go_wp2_with fail
 obtain ⟨W, hW⟩ : ∃ W : World, W = w.alloc (.cells #[.int .i64 1, .int .i64 a, .int .u64 (v : Nat)] (53 : Nat)) := ⟨_, rfl⟩
 rw [← hW] at c0 c1 c2 hB ⊢
 clear hW
 go_loop [5, 6, 7, 8, 9] (fun n p i _ _ => ∃ k : Nat, k ≤ 64 ∧ i = .int .i64 k ∧ n = .int .u64 (R % 2 ^ k : Nat) ∧ p = .int .u64 (pwN k : Nat)) (fun _ _ i _ _ => 65 - (intOf i).toNat)
 case atStart => exact ⟨0, by omega, rfl, by simp [Nat.mod_one], by simp [pwN]⟩
 case round =>
  obtain ⟨k, hk, rfl, rfl, rfl⟩ := hrel
  by_cases hk2 : k < 64
  ·have hk3 : (k : Int) < 64 := by omega
   have hy := pwN_lt k hk2
   have hyl := pow_lt64 hk2
   have hs := hstep.out k
   have hl := hlt.out k
   have hX1 := hX.out k (by omega)
   have hV1 := hV.out k (by omega)
   have hp2 : IntKind.u64.wrap (2 * (pwN k : Int)) = ((pwN (k + 1) : Nat) : Int) := by
    rw [IntKind.wrap_u64, ← pwN_succ]; omega
   rw [hy] at hp2
   rw [hy]
   generalize 2 ^ k = y at *
   replace hp2 := lh hp2
   clear hy
   generalize R % y = n0 at *
   generalize x.testBit k = xb at *
   generalize v.testBit k = vb at *
   have hs2 := lh hs
   clear hs
   have hX2 := lh hX1
   have hV2 := lh hV1
   clear hX1 hV1
   cases xb <;> cases vb
   all_goals
    have hs3 := hs2.out
    simp only [Bool.or_true, Bool.or_false, Bool.and_true, Bool.and_false, Bool.false_eq_true, if_true, if_false, Nat.add_zero] at hs3
    have hs4 := lh hs3
    clear hs3 hs2
    go_wp2_with fail
    refine (hX2.out _).mono ?_
    rintro e w' ⟨rfl, rfl⟩
    go_wp2_with fail
    refine (hV2.out _).mono ?_
    rintro e w' ⟨rfl, rfl⟩
    have hp3 := hp2.out
    go_wp2_with fail
    go_round
    case rel => exact ⟨k + 1, by omega, by go_num, by first | (rw [hs4.out]; done) | (rw [hs4.out]; first | rfl | go_num), by first | rfl | (rw [hp2.out])⟩
    case measure => simp [intOf]; omega
  ·obtain rfl : k = 64 := by omega
   rw [hend.out]
   go_wp2_with fail
   go_ret
   exact ⟨rfl, hB⟩
theorem refDo_2 (x v : Nat) (a : Int) (w : World) (hx : x < 18446744073709551616) (hv : v < 18446744073709551616) : Calls Tryz.prog 55 #[.int .u64 (x : Nat), opV (2, a, v)] w fun e w' => e = .returned (.int .u64 (x &&& v : Nat)) ∧ Below w.heap.size w w' := by
 have hRl : x &&& v < 18446744073709551616 := by have := doN_lt (o := (2, a, v)) hx hv; simpa [doN] using this
 have hstep := lh (fun i => show (x &&& v) % 2 ^ (i + 1) = (x &&& v) % 2 ^ i + if (x.testBit i && v.testBit i) then 2 ^ i else 0 from by rw [mod_step, Nat.testBit_and])
 have hend := lh (show (x &&& v) % 2 ^ 64 = x &&& v from Nat.mod_eq_of_lt (by simpa using hRl))
 have hX := lh (fun i (hi : i ≤ 64) w => refBit_any x i w hx hi)
 have hV := lh (fun i (hi : i ≤ 64) w => refBit_any v i w hv hi)
 have hlt := lh (fun i => show (x &&& v) % 2 ^ i < 2 ^ i from Nat.mod_lt _ (Nat.pow_pos (by decide)))
 generalize x &&& v = R at *
 unfold opV
 simp only []
 have hB : Below w.heap.size w (w.alloc (.cells #[.int .i64 2, .int .i64 a, .int .u64 (v : Nat)] (53 : Nat))) := bZ _ _
 obtain ⟨c0, c1, c2⟩ := C3.new w (.int .i64 2) (.int .i64 a) (.int .u64 (v : Nat)) (53 : Nat)
 go_enter Tryz.func55, Tryz.ntmps55
 go_wp2_with fail
 obtain ⟨W, hW⟩ : ∃ W : World, W = w.alloc (.cells #[.int .i64 2, .int .i64 a, .int .u64 (v : Nat)] (53 : Nat)) := ⟨_, rfl⟩
 rw [← hW] at c0 c1 c2 hB ⊢
 clear hW
 go_loop [5, 6, 7, 8, 9] (fun n p i _ _ => ∃ k : Nat, k ≤ 64 ∧ i = .int .i64 k ∧ n = .int .u64 (R % 2 ^ k : Nat) ∧ p = .int .u64 (pwN k : Nat)) (fun _ _ i _ _ => 65 - (intOf i).toNat)
 case atStart => exact ⟨0, by omega, rfl, by simp [Nat.mod_one], by simp [pwN]⟩
 case round =>
  obtain ⟨k, hk, rfl, rfl, rfl⟩ := hrel
  by_cases hk2 : k < 64
  ·have hk3 : (k : Int) < 64 := by omega
   have hy := pwN_lt k hk2
   have hyl := pow_lt64 hk2
   have hs := hstep.out k
   have hl := hlt.out k
   have hX1 := hX.out k (by omega)
   have hV1 := hV.out k (by omega)
   have hp2 : IntKind.u64.wrap (2 * (pwN k : Int)) = ((pwN (k + 1) : Nat) : Int) := by
    rw [IntKind.wrap_u64, ← pwN_succ]; omega
   rw [hy] at hp2
   rw [hy]
   generalize 2 ^ k = y at *
   replace hp2 := lh hp2
   clear hy
   generalize R % y = n0 at *
   generalize x.testBit k = xb at *
   generalize v.testBit k = vb at *
   have hs2 := lh hs
   clear hs
   have hX2 := lh hX1
   have hV2 := lh hV1
   clear hX1 hV1
   cases xb <;> cases vb
   all_goals
    have hs3 := hs2.out
    simp only [Bool.or_true, Bool.or_false, Bool.and_true, Bool.and_false, Bool.false_eq_true, if_true, if_false, Nat.add_zero] at hs3
    have hs4 := lh hs3
    clear hs3 hs2
    go_wp2_with fail
    refine (hX2.out _).mono ?_
    rintro e w' ⟨rfl, rfl⟩
    go_wp2_with fail
    refine (hV2.out _).mono ?_
    rintro e w' ⟨rfl, rfl⟩
    have hp3 := hp2.out
    go_wp2_with fail
    go_round
    case rel => exact ⟨k + 1, by omega, by go_num, by first | (rw [hs4.out]; done) | (rw [hs4.out]; first | rfl | go_num), by first | rfl | (rw [hp2.out])⟩
    case measure => simp [intOf]; omega
  ·obtain rfl : k = 64 := by omega
   rw [hend.out]
   go_wp2_with fail
   go_ret
   exact ⟨rfl, hB⟩
theorem refDo_any (x : Nat) (o : Ox) (w : World) (hx : x < 18446744073709551616) (ho : o.2.2 < 18446744073709551616) : Calls Tryz.prog 55 #[.int .u64 (x : Nat), opV o] w fun e w' => e = .returned (.int .u64 (doN x o : Nat)) ∧ Below w.heap.size w w' := by
 by_cases h1 : o.1 = 1
 ·obtain ⟨k, a, v⟩ := o
  simp only [] at h1 ho; subst h1
  have := refDo_1 x v a w hx ho
  simpa [doN] using this
 by_cases h2 : o.1 = 2
 ·obtain ⟨k, a, v⟩ := o
  simp only [] at h2 ho; subst h2
  have := refDo_2 x v a w hx ho
  simpa [doN] using this
 ·exact refDo_easy x o w hx ⟨h1, h2⟩
theorem op_set (x v : Nat) (k a : Int) (w : World) (hx : x < 18446744073709551616) (hv : v < 18446744073709551616) : Calls Tryz.prog 110 #[.agg #[.int .i64 k, .int .i64 a, .int .u64 (v : Nat)], .int .u64 (x : Nat)] w fun e w' => e = .returned (.int .u64 (v : Nat)) ∧ Below w.heap.size w w' := by
 have hB : Below w.heap.size w (w.alloc (.cells #[.int .i64 k, .int .i64 a, .int .u64 (v : Nat)] (137 : Nat))) := bZ _ _
 obtain ⟨c0, c1, c2⟩ := C3.new w (.int .i64 k) (.int .i64 a) (.int .u64 (v : Nat)) (137 : Nat)
 go_enter Tryz.func110, Tryz.ntmps110
 go_wp2_with fail
 go_ret
 exact ⟨rfl, hB⟩
theorem op_or (x v : Nat) (k a : Int) (w : World) (hx : x < 18446744073709551616) (hv : v < 18446744073709551616) : Calls Tryz.prog 111 #[.agg #[.int .i64 k, .int .i64 a, .int .u64 (v : Nat)], .int .u64 (x : Nat)] w fun e w' => e = .returned (.int .u64 (x ||| v : Nat)) ∧ Below w.heap.size w w' := by
 have e : bits .or .u64 (x : Int) (v : Int) = ((x ||| v : Nat) : Int) := u64_or_nat x v (by omega) (by omega)
 replace e := lh e
 have hB : Below w.heap.size w (w.alloc (.cells #[.int .i64 k, .int .i64 a, .int .u64 (v : Nat)] (137 : Nat))) := bZ _ _
 obtain ⟨c0, c1, c2⟩ := C3.new w (.int .i64 k) (.int .i64 a) (.int .u64 (v : Nat)) (137 : Nat)
 go_enter Tryz.func111, Tryz.ntmps111
 go_wp2_with fail
 go_ret
 exact ⟨by rw [← e.out]; rfl, hB⟩
theorem op_and (x v : Nat) (k a : Int) (w : World) (hx : x < 18446744073709551616) (hv : v < 18446744073709551616) : Calls Tryz.prog 112 #[.agg #[.int .i64 k, .int .i64 a, .int .u64 (v : Nat)], .int .u64 (x : Nat)] w fun e w' => e = .returned (.int .u64 (x &&& v : Nat)) ∧ Below w.heap.size w w' := by
 have e : bits .and .u64 (x : Int) (v : Int) = ((x &&& v : Nat) : Int) := u64_and_nat x v (by omega) (by omega)
 replace e := lh e
 have hB : Below w.heap.size w (w.alloc (.cells #[.int .i64 k, .int .i64 a, .int .u64 (v : Nat)] (137 : Nat))) := bZ _ _
 obtain ⟨c0, c1, c2⟩ := C3.new w (.int .i64 k) (.int .i64 a) (.int .u64 (v : Nat)) (137 : Nat)
 go_enter Tryz.func112, Tryz.ntmps112
 go_wp2_with fail
 go_ret
 exact ⟨by rw [← e.out]; rfl, hB⟩
theorem do_easy (x : Nat) (o : Ox) (w : World) (hx : x < 18446744073709551616) (h : o.1 < 0 ∨ 3 ≤ o.1) : Calls Tryz.prog 83 #[.int .u64 (x : Nat), opV o] w fun e w' => e = .returned (.int .u64 (x : Nat)) ∧ Below w.heap.size w w' := by
 obtain ⟨k, a, v⟩ := o
 unfold opV
 simp only [] at *
 have hB : Below w.heap.size w (w.alloc (.cells #[.int .i64 k, .int .i64 a, .int .u64 (v : Nat)] (53 : Nat))) := bZ _ _
 rcases h with h | h
 ·go_enter Tryz.func83, Tryz.ntmps83
  go_wp2_with fail
  go_ret
  exact ⟨rfl, hB.alloc hB.size _⟩
 ·have h' : ¬ k < 0 := by omega
  go_enter Tryz.func83, Tryz.ntmps83
  go_wp2_with fail
  go_ret
  exact ⟨rfl, hB.alloc hB.size _⟩
end Go.Proofs.YtkdhdibjbabgfaaGreatDoor
