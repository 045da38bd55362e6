/-
  Part of the proof of MendPart.
-/
import Derived.Test.YtkdhdibjbabgfaaGreatDoorVp15
import Derived.Test.YtkdhdibjbabgfaaGreatDoorVp2
import Derived.Test.YtkdhdibjbabgfaaGreatDoorVp37
import Derived.Test.YtkdhdibjbabgfaaGreatDoorVp4
import Derived.Test.YtkdhdibjbabgfaaGreatDoorVp6
import Derived.Test.YtkdhdibjbabgfaaGreatDoorVp7
import Derived.Test.YtkdhdibjbabgfaaGreatDoorVp0
set_option maxRecDepth 10000
set_option maxHeartbeats 4000000
set_option linter.unusedVariables false
set_option linter.unusedSimpArgs false
section
namespace Go.Proofs.YtkdhdibjbabgfaaGreatDoor
open Go.RowKit
theorem st8_ex {W : World} {g : Nat} {t : TypeId} (h : W.heap[g]? = some (.cells (List.replicate 8 (Value.int .u64 0)).toArray t (0, 0))) (x0 x1 x2 x3 x4 x5 x6 x7 : Value) :
 ∃ w9, w9 = ((((((((W.setCell ⟨g, 0, none⟩ x0).setCell ⟨g, 1, none⟩ x1).setCell ⟨g, 2, none⟩ x2).setCell ⟨g, 3, none⟩ x3).setCell ⟨g, 4, none⟩ x4).setCell ⟨g, 5, none⟩ x5).setCell ⟨g, 6, none⟩ x6).setCell ⟨g, 7, none⟩ x7) ∧ w9.heap[g]? = some (.cells #[x0, x1, x2, x3, x4, x5, x6, x7] t (0, 0)) ∧ Below g W w9 := by
 have q1 := heap_setCell_same _ g 0 _ _ x0 h
 have q2 := heap_setCell_same _ g 1 _ _ x1 q1
 have q3 := heap_setCell_same _ g 2 _ _ x2 q2
 have q4 := heap_setCell_same _ g 3 _ _ x3 q3
 have q5 := heap_setCell_same _ g 4 _ _ x4 q4
 have q6 := heap_setCell_same _ g 5 _ _ x5 q5
 have q7 := heap_setCell_same _ g 6 _ _ x6 q6
 have q8 := heap_setCell_same _ g 7 _ _ x7 q7
 have b0 := Below.refl g W
 have b1 := Below.setCell (p := ⟨g, 0, none⟩) b0 (Nat.le_refl _) x0
 have b2 := Below.setCell (p := ⟨g, 1, none⟩) b1 (Nat.le_refl _) x1
 have b3 := Below.setCell (p := ⟨g, 2, none⟩) b2 (Nat.le_refl _) x2
 have b4 := Below.setCell (p := ⟨g, 3, none⟩) b3 (Nat.le_refl _) x3
 have b5 := Below.setCell (p := ⟨g, 4, none⟩) b4 (Nat.le_refl _) x4
 have b6 := Below.setCell (p := ⟨g, 5, none⟩) b5 (Nat.le_refl _) x5
 have b7 := Below.setCell (p := ⟨g, 6, none⟩) b6 (Nat.le_refl _) x6
 have b8 := Below.setCell (p := ⟨g, 7, none⟩) b7 (Nat.le_refl _) x7
 simp only [List.replicate, List.setIfInBounds_toArray, List.set_cons_zero, List.set_cons_succ] at q8
 exact ⟨_, rfl, q8, b8⟩
theorem parts_x (v : Value) (l : List Nat) (w : World) (x0 x1 x2 x3 x4 x5 x6 x7 : Nat) (e0 : l.getD 0 0 = x0) (e1 : l.getD 1 0 = x1) (e2 : l.getD 2 0 = x2) (e3 : l.getD 3 0 = x3) (e4 : l.getD 4 0 = x4) (e5 : l.getD 5 0 = x5) (e6 : l.getD 6 0 = x6) (e7 : l.getD 7 0 = x7) (h8 : 8 ≤ l.length) (hv : SL w v l) :
 Calls Tryz.prog 80 #[v] w fun e w' => e = .returned (.agg #[.int .u64 x0, .int .u64 x1, .int .u64 x2, .int .u64 x3, .int .u64 x4, .int .u64 x5, .int .u64 x6, .int .u64 x7]) ∧ Below w.heap.size w w' := by
 obtain ⟨sp, cap, rfl⟩ := hv.form
 go_enter Tryz.func80, Tryz.ntmps80
 go_wp2_with fail
 have hw1 := heap_alloc_new (w.alloc (.cells (List.replicate 8 (Value.int .u64 0)).toArray 117)) (.cells (List.replicate 8 (Value.int .u64 0)).toArray 117)
 have hB1 : Below w.heap.size w ((w.alloc (.cells (List.replicate 8 (Value.int .u64 0)).toArray 117)).alloc (.cells (List.replicate 8 (Value.int .u64 0)).toArray 117)) := (bZ _ _).alloc (by simp) _
 have hr0 := Below.heap_alloc (w.alloc (.cells (List.replicate 8 (Value.int .u64 0)).toArray 117)) (.cells (List.replicate 8 (Value.int .u64 0)).toArray 117) w.heap.size (by simp)
 rw [heap_alloc_new w] at hr0
 rw [show (w.alloc (.cells (List.replicate 8 (Value.int .u64 0)).toArray 117)).heap.size = w.heap.size + 1 by simp] at hw1
 obtain ⟨w2, hrun, hrow2, hb2⟩ := copyW l hw1 (hv.keep hB1)
 have hrun2 : (Builtin.copy_ #[23, 23] 3 #[.slice (some ⟨w.heap.size + 1, 0, none⟩) 8 8, .slice sp l.length cap]).run Tryz.prog ((w.alloc (.cells #[Value.int .u64 0, Value.int .u64 0, Value.int .u64 0, Value.int .u64 0, Value.int .u64 0, Value.int .u64 0, Value.int .u64 0, Value.int .u64 0] 117)).alloc (.cells #[Value.int .u64 0, Value.int .u64 0, Value.int .u64 0, Value.int .u64 0, Value.int .u64 0, Value.int .u64 0, Value.int .u64 0, Value.int .u64 0] 117)) = .ok (goInt (Nat.min l.length 8)) w2 := hrun
 rw [hrun2]
 rw [show Nat.min l.length 8 = 8 from Nat.min_eq_right h8, Nat.sub_self, List.replicate_zero, List.append_nil] at hrow2
 have hr0' := (hb2.block w.heap.size (by omega)).trans hr0
 have hB2 : Below w.heap.size w w2 := hB1.trans (hb2.mono (by omega))
 have hK := fun i (hi : i < 8) => (row_cell hrow2 i).1.trans (by rw [List.getElem?_toArray, wv_at (l.take 8) i (by simp; omega), List.getD_eq_getElem?_getD, List.getElem?_take, if_pos hi, ← List.getD_eq_getElem?_getD])
 have a0 := hK 0 (by omega)
 have a1 := hK 1 (by omega)
 have a2 := hK 2 (by omega)
 have a3 := hK 3 (by omega)
 have a4 := hK 4 (by omega)
 have a5 := hK 5 (by omega)
 have a6 := hK 6 (by omega)
 have a7 := hK 7 (by omega)
 have b0 := row_cell hr0' 0
 have b1 := row_cell hr0' 1
 have b2 := row_cell hr0' 2
 have b3 := row_cell hr0' 3
 have b4 := row_cell hr0' 4
 have b5 := row_cell hr0' 5
 have b6 := row_cell hr0' 6
 have b7 := row_cell hr0' 7
 simp only [List.getElem?_toArray, List.replicate, List.getElem?_cons_zero, List.getElem?_cons_succ] at b0 b1 b2 b3 b4 b5 b6 b7
 clear hrun hrun2 hrow2 hr0 hw1 hb2 hK hB1 hv
 rw [e0] at a0
 rw [e1] at a1
 rw [e2] at a2
 rw [e3] at a3
 rw [e4] at a4
 rw [e5] at a5
 rw [e6] at a6
 rw [e7] at a7
 have hr9 := lh hr0'
 clear hr0'
 clear e0 e1 e2 e3 e4 e5 e6 e7
 go_wp2_with fail
 obtain ⟨w9, hw9, hq, hb9⟩ := st8_ex hr9.out (.int .u64 (x0 : Int)) (.int .u64 (x1 : Int)) (.int .u64 (x2 : Int)) (.int .u64 (x3 : Int)) (.int .u64 (x4 : Int)) (.int .u64 (x5 : Int)) (.int .u64 (x6 : Int)) (.int .u64 (x7 : Int))
 rw [← hw9]
 refine bodyPost_ret (v := .agg #[.int .u64 x0, .int .u64 x1, .int .u64 x2, .int .u64 x3, .int .u64 x4, .int .u64 x5, .int .u64 x6, .int .u64 x7]) ?_ rfl ⟨rfl, hB2.trans hb9⟩
 exact results_cell_row (p := 2) (ty := 117) rfl _ _ w.heap.size 117 _ (0, 0) _ rfl hq Tryz.underlying117 rfl (by kernel_rfl)
end Go.Proofs.YtkdhdibjbabgfaaGreatDoor
end
section
namespace Go.Proofs.YtkdhdibjbabgfaaGreatDoor
open Go.RowKit Go.ChangeShapes Go.WideShapes Go.Deep
theorem open_yes_rd (l : List Nat) (N g off cap : Nat) (w : World) (hl : WL l) (hlen : l.length ≤ 900) (hN : l.length = N + 1) (hcap : N + 1 ≤ cap) (hg : g < w.heap.size) (hc : Hid (∀ i, i < N + 1 → w.cell? ⟨g, off + i, none⟩ = some (.int .u64 (l.getD i 0 : Nat))))
 (hne : l.getD N 0 = moreN 0 (l.take N)) :
 Calls Tryz.prog 127 #[.slice (some ⟨g, off, none⟩) (N + 1) cap] w fun e w' => ∃ v', e = .returned (.tuple #[v', .bool true]) ∧ SL w' v' (l.take N) ∧ Below w.heap.size w w' := by
 obtain ⟨i0, hi, hz0, hz1, hz2⟩ := info_parts infoU64
 have hS := lh (fun w1 (hb : Below w.heap.size w w1) => sl_take hN hcap hg hc.out hb (N + 1) (Nat.le_refl _))
 have hlast := hc.out N (by omega)
 have hx := hl.at N (by omega)
 have hm := moreN_lt 0 (l.take N)
 have hO := lh (fun w1 (hb : Below w.heap.size w w1) => of_any (.slice (some ⟨g, off, none⟩) N cap) (l.take N) w1 (fun x hx => hl x (List.mem_of_mem_take hx)) (by simp; omega) (sl_take hN hcap hg hc.out hb N (by omega)))
 rw [← hne] at hO hm
 replace hne := lh hne
 generalize l.getD N 0 = x at *
 have q1 : (N : Int) < (N : Int) + 1 := by omega
 have q2 : (N : Int) ≤ (cap : Int) := by omega
 have q3 : (0 : Int) ≤ (N : Int) := by omega
 have hd := (Below.refl w.heap.size w).drew
 have T : ((x : Int) == (x : Int)) = true := by simp
 have T1 : IntKind.u64.wrap (x : Int) = (x : Int) := by rw [IntKind.wrap_u64]; omega
 have T2 : ((x : Int) != IntKind.u64.wrap (x : Int)) = false := by rw [T1]; simp
 go_enter Tryz.func127, Tryz.ntmps127
 go_wp2_with fail
 go_region_held3 (fun w' => w'.cell? ⟨g, off + N, none⟩ = some (.int .u64 x) ∧ Below w.heap.size w w')
  (((try go_split_ands); refine ⟨?_, ?_⟩ <;> first | assumption | (exact cellK (by assumption) hb) | (exact Below.trans (by assumption) (hb.mono (Below.size (by assumption))))))
  (((try go_split_ands); first | (go_at_call 133; (with_reducible refine (hO.out _ (by assumption)).mono ?_); rintro e w8 ⟨rfl, hb⟩)))
 go_split_ands
 have hBW := ‹Below w.heap.size w _›
 go_wp2_with (at_make; refine wpList_make_full _ rfl _ _ 23 rfl w.heap.size 25 i0 (.int .u64 0) 1 Tryz.underlying23 hi hz0 hz1 .i64 .i64 _ _ N rfl rfl rfl rfl (by rw [hz2]; omega) (by unfold maxLen; omega) hBW.size ?_; intro w1 hown hgr)
 have hrow := row_of_owns hown rfl
 rw [show (madeCells (Value.int IntKind.u64 0).cells (N * 1)).toList = List.replicate N (Value.int .u64 0) by
  rw [Nat.mul_one]; exact toList_madeCells_one _ _] at hrow
 have hB1 : Below w.heap.size w w1 := hBW.grown hgr hBW.size (by simp)
 have hSl := hS.out w1 hB1
 rw [List.take_of_length_le (by omega), ← hN] at hSl
 obtain ⟨w2, hrun, hrow2, hb2⟩ := copyW l hrow hSl
 rw [hN] at hrun
 rw [hN, show Nat.min (N + 1) N = N from Nat.min_eq_right (by omega), Nat.sub_self, List.replicate_zero, List.append_nil] at hrow2
 rw [hrun]
 have hB2 : Below w.heap.size w w2 := hB1.trans (hb2.mono hBW.size)
 have hg2 := (Array.getElem?_eq_some_iff.1 hrow2).1
 have hR := lh (row_cell hrow2)
 clear hrun hrow hrow2 hown hgr hb2 hB1 hSl hS
 go_wp2_with fail
 go_ret2
 have hlk : (l.take N).length = N := by simp; omega
 refine ⟨_, rfl, .inr ⟨_, 0, N, by rw [hlk]; rfl, hg2, by omega, fun i hi => ?_⟩, hB2⟩
 rw [Nat.zero_add, (hR.out i).1, List.getElem?_toArray, wv_at _ i hi]
def opAt (ws : List Nat) (i : Nat) : Ox := (((ws.getD (2 * i) 0 % 4 : Nat) : Int), ((ws.getD (2 * i) 0 / 4 % 1048576 : Nat) : Int), ws.getD (2 * i + 1) 0)
def opsN (ws : List Nat) (k : Nat) : List Ox := (List.range k).map (opAt ws)
def fineB (ws : List Nat) (i : Nat) : Bool := !wrongB (opAt ws i) && decide (ws.getD (2 * i) 0 < 4194304)
def decB (ws : List Nat) (k : Nat) : Bool := decide (ws.getD (2 * k) 0 = moreN 0 (ws.take (2 * k))) && (List.range k).all (fineB ws)
theorem opsN_succ (ws : List Nat) (k : Nat) : opsN ws (k + 1) = opsN ws k ++ [opAt ws k] := by simp [opsN, List.range_succ]
theorem opsN_len (ws : List Nat) (k : Nat) : (opsN ws k).length = k := by simp [opsN]
theorem decB_all {ws : List Nat} {k : Nat} (h : decB ws k = true) : ws.getD (2 * k) 0 = moreN 0 (ws.take (2 * k)) ∧ ∀ i, i < k → fineB ws i = true := by
 simp only [decB, Bool.and_eq_true, decide_eq_true_eq, List.all_eq_true, List.mem_range] at h
 exact h
theorem decB_of {ws : List Nat} {k : Nat} (h : ws.getD (2 * k) 0 = moreN 0 (ws.take (2 * k))) (h2 : ∀ i, i < k → fineB ws i = true) : decB ws k = true := by
 simp only [decB, Bool.and_eq_true, decide_eq_true_eq, List.all_eq_true, List.mem_range]
 exact ⟨h, h2⟩
theorem wordOp_at (ws : List Nat) (i : Nat) (h : ws.getD (2 * i) 0 < 18446744073709551616) : (wordOp (opAt ws i) = ((ws.getD (2 * i) 0 : Nat) : Int)) ↔ ws.getD (2 * i) 0 < 4194304 := by
 unfold wordOp opAt
 simp only []
 generalize ws.getD (2 * i) 0 = x at *
 omega
theorem get_k (x : Nat) (w : World) (h1 : x < 18446744073709551616) :
 Calls Tryz.prog 94 #[.int .u64 (x : Nat), .int .i64 0, .int .i64 2] w fun e w' => e = .returned (.int .u64 ((x % 4 : Nat) : Int)) ∧ w = w' := by
 refine (get_yes x 0 2 w (by omega) (by omega) (by omega) (by omega) (by omega) (by omega)).mono ?_
 rintro e w' ⟨rfl, rfl⟩
 refine ⟨?_, rfl⟩
 simp [getI, getN]
theorem get_a (x : Nat) (w : World) (h1 : x < 18446744073709551616) :
 Calls Tryz.prog 94 #[.int .u64 (x : Nat), .int .i64 2, .int .i64 20] w fun e w' => e = .returned (.int .u64 ((x / 4 % 1048576 : Nat) : Int)) ∧ w = w' := by
 refine (get_yes x 2 20 w (by omega) (by omega) (by omega) (by omega) (by omega) (by omega)).mono ?_
 rintro e w' ⟨rfl, rfl⟩
 refine ⟨?_, rfl⟩
 simp [getI, getN]
theorem dec_bad (v : Value) (ws : List Nat) (m : Int) (w : World) (hv : KL .u64 w v ws) (hlen : ws.length ≤ 900) (hm1 : -9223372036854775808 ≤ m) (hm2 : m ≤ 9223372036854775807) (h : m < 0 ∨ (0 ≤ m ∧ 19 < m) ∨ (0 ≤ m ∧ m ≤ 19 ∧ (ws.length : Int) < 2 * m + 1)) :
 Calls Tryz.prog 103 #[v, .int .i64 m] w fun e w' => e = .returned (.tuple #[.slice none 0 0, .bool false]) ∧ Below w.heap.size w w' := by
 obtain ⟨A, cap, rfl, _⟩ := hv.form rfl
 clear hv
 rcases h with h | ⟨h, h2⟩ | ⟨h, h2, h3⟩
 all_goals
  go_enter Tryz.func103, Tryz.ntmps103
  go_wp2_with fail
  go_ret2
  exact ⟨rfl, Below.refl _ _⟩
theorem take_facts {ws : List Nat} {k : Nat} (hk : 2 * k + 1 ≤ ws.length) : (ws.take (2 * k + 1)).length = 2 * k + 1 ∧ (ws.take (2 * k + 1)).getD (2 * k) 0 = ws.getD (2 * k) 0 ∧ (ws.take (2 * k + 1)).take (2 * k) = ws.take (2 * k) := by
 refine ⟨by rw [List.length_take]; omega, ?_, ?_⟩
 ·rw [List.getD_eq_getElem?_getD, List.getD_eq_getElem?_getD, List.getElem?_take_of_lt (by omega)]
 ·rw [List.take_take]; congr 1; omega
theorem dec_sum (v : Value) (ws : List Nat) (k : Nat) (w : World) (hv : KL .u64 w v ws) (hW : WL ws) (hlen : ws.length ≤ 900) (hk : k ≤ 19) (hkl : 2 * k + 1 ≤ ws.length) (hne : ¬ ws.getD (2 * k) 0 = moreN 0 (ws.take (2 * k))) :
 Calls Tryz.prog 103 #[v, .int .i64 (k : Nat)] w fun e w' => e = .returned (.tuple #[.slice none 0 0, .bool false]) ∧ Below w.heap.size w w' := by
 obtain ⟨t1, t2, t3⟩ := take_facts hkl
 obtain ⟨n, hn⟩ : ∃ n, ws.length = n := ⟨_, rfl⟩
 obtain ⟨A, cap, rfl, hC⟩ := hv.form hn
 obtain ⟨g, off, rfl, hcap, hg, _⟩ := hC w 0 (Below.refl _ _) (by omega)
 have hO := lh (open_no (ws.take (2 * k + 1)) (2 * k) g off cap w (fun x hx => hW x (List.mem_of_mem_take hx)) (by omega) t1 (by omega) hg (lh (fun i hi => by
  obtain ⟨g', off', he, _, _, hc⟩ := hC w i (Below.refl _ _) (by omega)
  cases he
  rw [hc, List.getD_eq_getElem?_getD, List.getD_eq_getElem?_getD, List.getElem?_take_of_lt hi])) (by rw [t2, t3]; exact hne))
 have q1 : (k : Int) ≤ 19 := by omega
 have q2 : 2 * (k : Int) + 1 ≤ (n : Int) := by omega
 have q3 := lh (fun w => run_slice_to (P := Tryz.prog) (ty := 23) Tryz.underlying23 (info_parts infoU64).choose_spec.1 (some ⟨g, off, none⟩) n cap (2 * k + 1) (by omega) w)
 have q4 : ((2 * k + 1 : Nat) : Int) = 2 * (k : Int) + 1 := by omega
 rw [q4] at q3
 have q5 := q3.out
 replace hn := lh hn
 clear hv hC hne t1 t2 t3 q3 q4
 go_enter Tryz.func103, Tryz.ntmps103
 go_wp2_with fail
 refine hO.out.mono ?_
 rintro e w2 ⟨rfl, hb⟩
 go_wp2_with fail
 go_ret2
 exact ⟨rfl, hb⟩
theorem dec_yes (v : Value) (ws : List Nat) (k : Nat) (w : World) (hv : KL .u64 w v ws) (hW : WL ws) (hlen : ws.length ≤ 900) (hk : k ≤ 19) (hkl : 2 * k + 1 ≤ ws.length) (hne : ws.getD (2 * k) 0 = moreN 0 (ws.take (2 * k))) (hd : decB ws k = true) :
 Calls Tryz.prog 103 #[v, .int .i64 (k : Nat)] w fun e w' => ∃ v', e = .returned (.tuple #[v', .bool true]) ∧ OwnE 53 3 opE w' w.heap.size v' (opsN ws k) ∧ Below w.heap.size w w' := by
 obtain ⟨_, hfi⟩ := decB_all hd
 have hFi := lh hfi
 clear hfi hd
 obtain ⟨t1, t2, t3⟩ := take_facts hkl
 obtain ⟨n, hn⟩ : ∃ n, ws.length = n := ⟨_, rfl⟩
 obtain ⟨A, cap, rfl, hC⟩ := hv.form hn
 obtain ⟨g, off, rfl, hcap, hg, _⟩ := hC w 0 (Below.refl _ _) (by omega)
 have hO := open_yes_rd (ws.take (2 * k + 1)) (2 * k) g off cap w (fun x hx => hW x (List.mem_of_mem_take hx)) (by omega) t1 (by omega) hg (lh (fun i hi => by
  obtain ⟨g', off', he, _, _, hc⟩ := hC w i (Below.refl _ _) (by omega)
  cases he
  rw [hc, List.getD_eq_getElem?_getD, List.getD_eq_getElem?_getD, List.getElem?_take_of_lt hi])) (by rw [t2, t3]; exact hne)
 rw [t3] at hO
 replace hO := lh hO
 have htl : (ws.take (2 * k)).length = 2 * k := by rw [List.length_take]; omega
 have htg := lh (fun i (hi : i < 2 * k) => show (ws.take (2 * k)).getD i 0 = ws.getD i 0 from by rw [List.getD_eq_getElem?_getD, List.getD_eq_getElem?_getD, List.getElem?_take_of_lt hi])
 have hWa := lh (fun i (hi : i < n) => hW.at i (by omega))
 have hSu := lh (fun i => opsN_succ ws i)
 have hLn := lh (fun i => opsN_len ws i)
 have hWo := lh (fun i h => wordOp_at ws i h)
 have q1 : (k : Int) ≤ 19 := by omega
 have q2 : 2 * (k : Int) + 1 ≤ (n : Int) := by omega
 have q3 := lh (fun w => run_slice_to (P := Tryz.prog) (ty := 23) Tryz.underlying23 (info_parts infoU64).choose_spec.1 (some ⟨g, off, none⟩) n cap (2 * k + 1) (by omega) w)
 have q4 : ((2 * k + 1 : Nat) : Int) = 2 * (k : Int) + 1 := by omega
 rw [q4] at q3
 have q5 := q3.out
 have hkn : 2 * k + 1 ≤ n := by omega
 replace hn := lh hn
 clear hv hC hne t1 t2 t3 q3 q4 hW hlen hkl
 obtain ⟨i0, hi, hz0, hz1, hz2⟩ := info_parts infoOp
 go_enter Tryz.func103, Tryz.ntmps103
 go_wp2_with fail
 refine hO.out.mono ?_
 rintro e w1 ⟨v1, rfl, hs1, hb1⟩
 obtain ⟨A1, c1, rfl, hC1⟩ := hs1.kl.form htl
 clear hO hs1 q5
 go_wp2_with (at_make; refine wpList_make_own _ rfl _ _ 35 rfl w1.heap.size 53 i0 (.agg #[.int .i64 0, .int .i64 0, .int .u64 0]) 3 Tryz.underlying35 hi hz0 hz1 .i64 .i64 _ k rfl rfl rfl (by rw [hz2]; omega) (by unfold maxLen; omega) (Nat.le_refl _) ?_; intro w2 hown hgr)
 have hs1 := hb1.size
 have hB2 : Below w.heap.size w w2 := hb1.grown hgr hb1.size (by simp)
 have hB12 : Below w1.heap.size w1 w2 := (Below.refl _ _).grown hgr (Nat.le_refl _) (by simp)
 have hO2 : OwnE 53 3 opE w2 w1.heap.size (.slice (some ⟨w1.heap.size, 0, none⟩) 0 k) [] := hown
 clear hown hgr
 replace htl := lh htl
 replace hC1 := lh hC1
 go_wp2_with fail
 go_loopw [40, 8] (fun i l wr => ∃ (j : Nat) (J : List Ox), j ≤ k ∧ i = .int .i64 j ∧ Hid (J = opsN ws j) ∧ OwnE 53 3 opE wr w1.heap.size l J ∧ Below w.heap.size w wr ∧ Below w1.heap.size w1 wr) (fun i _ _ => k + 1 - (intOf i).toNat)
 case atStart => exact ⟨0, [], Nat.zero_le _, rfl, rfl, hO2, hB2, hB12⟩
 case round =>
  clear hO2 hB2 hB12
  obtain ⟨j, J, hj, rfl, hJ, hown, hB, hBb⟩ := hrel
  by_cases hlt : j < k
  ·obtain ⟨ga, oa, rfl, hca, hga, d0⟩ := hC1.out wr (2 * j) hBb (by omega)
   obtain ⟨gb, ob, he, _, _, d1⟩ := hC1.out wr (2 * j + 1) hBb (by omega)
   simp only [Option.some.injEq, Addr.mk.injEq, and_true] at he
   obtain ⟨rfl, rfl⟩ := he
   rw [htg.out _ (by omega)] at d0 d1
   have hlt' : (j : Int) < (k : Int) := by omega
   have hx := hWa.out (2 * j) (by omega)
   have hJl : J.length = j := by rw [hJ.out]; exact hLn.out j
   have hsu := hSu.out j
   rw [← hJ.out] at hsu
   have hWo1 := hWo.out j hx
   have hfb := hFi.out j hlt
   have hfd : fineB ws j = (!wrongB (opAt ws j) && decide (ws.getD (2 * j) 0 < 4194304)) := rfl
   have hoe : opAt ws j = (((ws.getD (2 * j) 0 % 4 : Nat) : Int), ((ws.getD (2 * j) 0 / 4 % 1048576 : Nat) : Int), ws.getD (2 * j + 1) 0) := rfl
   have hG1 := lh (fun w => get_k (ws.getD (2 * j) 0) w hx)
   have hG2 := lh (fun w => get_a (ws.getD (2 * j) 0) w hx)
   have hb1' : ws.getD (2 * j) 0 % 4 < 4 := Nat.mod_lt _ (by decide)
   have hb2' : ws.getD (2 * j) 0 / 4 % 1048576 < 1048576 := Nat.mod_lt _ (by decide)
   rw [hfd] at hfb
   generalize opAt ws j = o at *
   generalize ws.getD (2 * j) 0 = x at *
   generalize ws.getD (2 * j + 1) 0 = y at *
   generalize x % 4 = kk at *
   generalize x / 4 % 1048576 = aa at *
   have hWr := fun w => wrong_any o w
   have hFs := fun w (h : wrongB o = false) => first_any_rd o w h
   unfold opV at hWr hFs
   rw [hoe] at hWr hFs
   simp only [] at hWr hFs
   rw [← hoe] at hWr hFs
   have hWo2 := lh hWo1
   have hsu2 := lh hsu
   have hoe2 := lh hoe
   simp only [Bool.and_eq_true, Bool.not_eq_true', decide_eq_true_eq] at hfb
   have hwf := lh hfb.1
   have hxl := lh hfb.2
   rw [hfb.1] at hWr
   clear hWo1 hsu hoe hfb hfd
   have i1 : IntKind.i64.wrap (2 * (j : Int)) = 2 * (j : Int) := by rw [IntKind.wrap_i64]; omega
   have i2 : IntKind.i64.wrap (2 * (j : Int) + 1) = 2 * (j : Int) + 1 := by rw [IntKind.wrap_i64]; omega
   have i3 : (2 * (j : Int) + 1).toNat = 2 * j + 1 := by omega
   have i4 : 0 ≤ 2 * (j : Int) + 1 := by omega
   have i5 : 2 * (j : Int) + 1 < 2 * (k : Int) := by omega
   have i6 : IntKind.i64.wrap ((kk : Nat) : Int) = (kk : Int) := by rw [IntKind.wrap_i64]; omega
   have i7 : IntKind.i64.wrap ((aa : Nat) : Int) = (aa : Int) := by rw [IntKind.wrap_i64]; omega
   replace hWr := lh hWr
   replace hFs := lh hFs
   go_wp2_with fail
   refine wp_region_tail (S := (fun w' => w'.cell? ⟨ga, oa + (2 * j + 1), none⟩ = some (.int .u64 (y : Nat)) ∧ Below wr.heap.size wr w')) (n := 14) (by kernel_rfl) ?_ (fun hHeld hInv => ?_) (by decide)
   ·(try dsimp only)
    (first | assumption | (exact ⟨d1, (Below.refl _ _).drew⟩) | ((try go_split_ands); exact ⟨cellK (by assumption) hb, Below.trans (by assumption) (hb.mono (Below.size (by assumption)))⟩))
   refine takeVS 0 hInv ?_; clear hInv; intro hInv
   refine takeVS 3 hInv ?_; clear hInv; intro hInv
   refine takeVS 6 hInv ?_; clear hInv; intro hInv
   refine takeVS 7 hInv ?_; clear hInv; intro hInv
   refine takeVS 8 hInv ?_; clear hInv; intro hInv
   refine takeVS 9 hInv ?_; clear hInv; intro hInv
   refine takeVS 10 hInv ?_; clear hInv; intro hInv
   refine takeVS 11 hInv ?_; clear hInv; intro hInv
   refine twoS 1 13 hInv (by decide) (by decide) rfl rfl (by kernel_rfl) (fun K hK => ?_) (fun K hK => ?_)
   ·go_simp
    (with_reducible refine (hG1.out _).mono ?_); rintro e w8 ⟨rfl, rfl⟩
    refine hK.out _ _ ?_ (fun hHeld2 hInv2 => ?_)
    ·(try dsimp only)
     (first | assumption | (exact ⟨d1, (Below.refl _ _).drew⟩) | ((try go_split_ands); exact ⟨cellK (by assumption) hb, Below.trans (by assumption) (hb.mono (Below.size (by assumption)))⟩))
    clear hK K hHeld hInv
    have hHeld := hHeld2
    have hInv := hInv2
    clear hHeld2 hInv2
    try simp only [Act.put,sA,sB,sC] at hInv ⊢
    refine takeVS 2 hInv ?_; clear hInv; intro hInv
    refine twoS 4 13 hInv (by decide) (by decide) rfl rfl (by kernel_rfl) (fun K hK => ?_) (fun K hK => ?_)
    ·go_simp
     (with_reducible refine (hG2.out _).mono ?_); rintro e w8 ⟨rfl, rfl⟩
     refine hK.out _ _ ?_ (fun hHeld2 hInv2 => ?_)
     ·(try dsimp only)
      (first | assumption | (exact ⟨d1, (Below.refl _ _).drew⟩) | ((try go_split_ands); exact ⟨cellK (by assumption) hb, Below.trans (by assumption) (hb.mono (Below.size (by assumption)))⟩))
     clear hK K hHeld hInv
     have hHeld := hHeld2
     have hInv := hInv2
     clear hHeld2 hInv2
     try simp only [Act.put,sA,sB,sC] at hInv ⊢
     refine takeVS 5 hInv ?_; clear hInv; intro hInv
     refine takeVS 12 hInv ?_; clear hInv; intro hInv
     refine oneS 13 hInv (by decide) rfl (by kernel_rfl) (fun K hK => ?_)
     go_simp
     have hb := bZ wr.drew (.cells #[.int .i64 0, .int .i64 0, .int .u64 0] (53 : Nat))
     refine hK.out _ _ ?_ (fun hHeld2 hInv2 => ?_)
     ·(try dsimp only)
      (first | assumption | (exact ⟨d1, (Below.refl _ _).drew⟩) | ((try go_split_ands); exact ⟨cellK (by assumption) hb, Below.trans (by assumption) (hb.mono (Below.size (by assumption)))⟩))
     clear hK K hHeld hInv
     have hHeld := hHeld2
     have hInv := hInv2
     clear hHeld2 hInv2
     try simp only [Act.put,sA,sB,sC] at hInv ⊢
     refine lastS 14 rfl (by decide) (by kernel_rfl) (fun K hK => ?_)
     go_simp
     refine hK.out _ _ ?_
     clear hK K
     try simp only [Act.put,sA,sB,sC]
     refine wpAnyS_done (by kernel_rfl) ?_ _
     obtain ⟨W, hW⟩ : ∃ W : World, W = (wr.alloc (.cells #[.int .i64 (kk : Int), .int .i64 (aa : Int), .int .u64 (y : Nat)] (53 : Nat))).drew := ⟨_, rfl⟩
     have hbA : Below wr.heap.size wr W := by rw [hW]; exact (bZ _ _).drew
     have hkW : C3 W wr.heap.size (.int .i64 (kk : Int)) (.int .i64 (aa : Int)) (.int .u64 (y : Nat)) := by rw [hW]; exact C3.new _ _ _ _ _
     rw [← hW]
     clear hW hHeld hInv d0 d1
     have hownW := hown.keep hbA
     have hBW := hB.trans (hbA.mono hB.size)
     have hBbW := hBb.trans (hbA.mono hBb.size)
     clear hown hB hBb hbA
     obtain ⟨b0, b1, b2⟩ := id hkW
     go_wp2_with fail
     refine (hWr.out _).mono ?_
     rintro e W2 ⟨rfl, hb2⟩
     replace hkW := hkW.keep hb2
     replace hownW := hownW.keep hb2
     replace hBW := hBW.trans (hb2.mono hBW.size)
     replace hBbW := hBbW.trans (hb2.mono hBbW.size)
     clear hb2 b0 b1 b2
     obtain ⟨b0, b1, b2⟩ := id hkW
     go_wp2_with fail
     refine (hFs.out _ hwf.out).mono ?_
     rintro e W3 ⟨rfl, hb3⟩
     replace hkW := hkW.keep hb3
     replace hownW := hownW.keep hb3
     replace hBW := hBW.trans (hb3.mono hBW.size)
     replace hBbW := hBbW.trans (hb3.mono hBbW.size)
     clear hb3 b0 b1 b2
     obtain ⟨b0, b1, b2⟩ := id hkW
     rw [(hWo2.out).2 hxl.out]
     have f1 : ((x : Int) != (x : Int)) = false := by simp
     have hone : EL 3 opE (W3.alloc (.cells #[.int .i64 (kk : Int), .int .i64 (aa : Int), .int .u64 (y : Nat)] (53 : Nat))) (.slice (some ⟨W3.heap.size, 0, none⟩) 1 1) [o] := (OwnE.lit 53 opE_len W3 [o] #[.int .i64 (kk : Int), .int .i64 (aa : Int), .int .u64 (y : Nat)] (by rw [hoe2.out]; rfl) (by simp)).el opE_len
     obtain ⟨v', w4, hrun, ho, hg4, _, _⟩ := appE opT (hownW.alloc (.cells #[.int .i64 (kk : Int), .int .i64 (aa : Int), .int .u64 (y : Nat)] (53 : Nat))) hone (by have := hBbW.size; simp; omega) (by omega) (by simp)
     have hB4 : Below w.heap.size w w4 := (hBW.alloc hBW.size _).grown hg4 (by have := hBW.size; simp; omega) (fun i hi => by have := (hownW.lt _ hi).1; omega)
     have hBb4 : Below w1.heap.size w1 w4 := (hBbW.alloc hBbW.size _).grown hg4 (by have := hBbW.size; simp; omega) (fun i hi => (hownW.lt _ hi).1)
     rw [hsu2.out.symm] at ho
     obtain ⟨J2, hJ2⟩ : ∃ J2, J2 = opsN ws (j + 1) := ⟨_, rfl⟩
     rw [← hJ2] at ho
     replace hJ2 := lh hJ2
     clear hone hg4 hownW hBW hBbW
     go_wp2_with (at_builtin; refine wpList_append_run rfl _ _ 35 rfl _ _ _ rfl rfl hrun ?_)
     clear hrun
     go_wp2_with fail
     go_roundw
     case rel => exact ⟨j + 1, _, by omega, by go_num, hJ2, ho, hB4, hBb4⟩
     case measure => simp [intOf]; omega
    ·go_simp
     have hb := bZ wr.drew (.cells #[.int .i64 0, .int .i64 0, .int .u64 0] (53 : Nat))
     refine hK.out _ _ ?_ (fun hHeld2 hInv2 => ?_)
     ·(try dsimp only)
      (first | assumption | (exact ⟨d1, (Below.refl _ _).drew⟩) | ((try go_split_ands); exact ⟨cellK (by assumption) hb, Below.trans (by assumption) (hb.mono (Below.size (by assumption)))⟩))
     clear hK K hHeld hInv
     have hHeld := hHeld2
     have hInv := hInv2
     clear hHeld2 hInv2
     try simp only [Act.put,sA,sB,sC] at hInv ⊢
     refine oneS 4 hInv (by decide) rfl (by kernel_rfl) (fun K hK => ?_)
     go_simp
     (with_reducible refine (hG2.out _).mono ?_); rintro e w8 ⟨rfl, rfl⟩
     refine hK.out _ _ ?_ (fun hHeld2 hInv2 => ?_)
     ·(try dsimp only)
      (first | assumption | (exact ⟨d1, (Below.refl _ _).drew⟩) | ((try go_split_ands); exact ⟨cellK (by assumption) hb, Below.trans (by assumption) (hb.mono (Below.size (by assumption)))⟩))
     clear hK K hHeld hInv
     have hHeld := hHeld2
     have hInv := hInv2
     clear hHeld2 hInv2
     try simp only [Act.put,sA,sB,sC] at hInv ⊢
     refine takeVS 5 hInv ?_; clear hInv; intro hInv
     refine takeVS 12 hInv ?_; clear hInv; intro hInv
     refine lastS 14 rfl (by decide) (by kernel_rfl) (fun K hK => ?_)
     go_simp
     refine hK.out _ _ ?_
     clear hK K
     try simp only [Act.put,sA,sB,sC]
     refine wpAnyS_done (by kernel_rfl) ?_ _
     obtain ⟨W, hW⟩ : ∃ W : World, W = (wr.alloc (.cells #[.int .i64 (kk : Int), .int .i64 (aa : Int), .int .u64 (y : Nat)] (53 : Nat))).drew := ⟨_, rfl⟩
     have hbA : Below wr.heap.size wr W := by rw [hW]; exact (bZ _ _).drew
     have hkW : C3 W wr.heap.size (.int .i64 (kk : Int)) (.int .i64 (aa : Int)) (.int .u64 (y : Nat)) := by rw [hW]; exact C3.new _ _ _ _ _
     rw [← hW]
     clear hW hHeld hInv d0 d1
     have hownW := hown.keep hbA
     have hBW := hB.trans (hbA.mono hB.size)
     have hBbW := hBb.trans (hbA.mono hBb.size)
     clear hown hB hBb hbA
     obtain ⟨b0, b1, b2⟩ := id hkW
     go_wp2_with fail
     refine (hWr.out _).mono ?_
     rintro e W2 ⟨rfl, hb2⟩
     replace hkW := hkW.keep hb2
     replace hownW := hownW.keep hb2
     replace hBW := hBW.trans (hb2.mono hBW.size)
     replace hBbW := hBbW.trans (hb2.mono hBbW.size)
     clear hb2 b0 b1 b2
     obtain ⟨b0, b1, b2⟩ := id hkW
     go_wp2_with fail
     refine (hFs.out _ hwf.out).mono ?_
     rintro e W3 ⟨rfl, hb3⟩
     replace hkW := hkW.keep hb3
     replace hownW := hownW.keep hb3
     replace hBW := hBW.trans (hb3.mono hBW.size)
     replace hBbW := hBbW.trans (hb3.mono hBbW.size)
     clear hb3 b0 b1 b2
     obtain ⟨b0, b1, b2⟩ := id hkW
     rw [(hWo2.out).2 hxl.out]
     have f1 : ((x : Int) != (x : Int)) = false := by simp
     have hone : EL 3 opE (W3.alloc (.cells #[.int .i64 (kk : Int), .int .i64 (aa : Int), .int .u64 (y : Nat)] (53 : Nat))) (.slice (some ⟨W3.heap.size, 0, none⟩) 1 1) [o] := (OwnE.lit 53 opE_len W3 [o] #[.int .i64 (kk : Int), .int .i64 (aa : Int), .int .u64 (y : Nat)] (by rw [hoe2.out]; rfl) (by simp)).el opE_len
     obtain ⟨v', w4, hrun, ho, hg4, _, _⟩ := appE opT (hownW.alloc (.cells #[.int .i64 (kk : Int), .int .i64 (aa : Int), .int .u64 (y : Nat)] (53 : Nat))) hone (by have := hBbW.size; simp; omega) (by omega) (by simp)
     have hB4 : Below w.heap.size w w4 := (hBW.alloc hBW.size _).grown hg4 (by have := hBW.size; simp; omega) (fun i hi => by have := (hownW.lt _ hi).1; omega)
     have hBb4 : Below w1.heap.size w1 w4 := (hBbW.alloc hBbW.size _).grown hg4 (by have := hBbW.size; simp; omega) (fun i hi => (hownW.lt _ hi).1)
     rw [hsu2.out.symm] at ho
     obtain ⟨J2, hJ2⟩ : ∃ J2, J2 = opsN ws (j + 1) := ⟨_, rfl⟩
     rw [← hJ2] at ho
     replace hJ2 := lh hJ2
     clear hone hg4 hownW hBW hBbW
     go_wp2_with (at_builtin; refine wpList_append_run rfl _ _ 35 rfl _ _ _ rfl rfl hrun ?_)
     clear hrun
     go_wp2_with fail
     go_roundw
     case rel => exact ⟨j + 1, _, by omega, by go_num, hJ2, ho, hB4, hBb4⟩
     case measure => simp [intOf]; omega
   ·go_simp
    have hb := bZ wr.drew (.cells #[.int .i64 0, .int .i64 0, .int .u64 0] (53 : Nat))
    refine hK.out _ _ ?_ (fun hHeld2 hInv2 => ?_)
    ·(try dsimp only)
     (first | assumption | (exact ⟨d1, (Below.refl _ _).drew⟩) | ((try go_split_ands); exact ⟨cellK (by assumption) hb, Below.trans (by assumption) (hb.mono (Below.size (by assumption)))⟩))
    clear hK K hHeld hInv
    have hHeld := hHeld2
    have hInv := hInv2
    clear hHeld2 hInv2
    try simp only [Act.put,sA,sB,sC] at hInv ⊢
    refine oneS 1 hInv (by decide) rfl (by kernel_rfl) (fun K hK => ?_)
    go_simp
    (with_reducible refine (hG1.out _).mono ?_); rintro e w8 ⟨rfl, rfl⟩
    refine hK.out _ _ ?_ (fun hHeld2 hInv2 => ?_)
    ·(try dsimp only)
     (first | assumption | (exact ⟨d1, (Below.refl _ _).drew⟩) | ((try go_split_ands); exact ⟨cellK (by assumption) hb, Below.trans (by assumption) (hb.mono (Below.size (by assumption)))⟩))
    clear hK K hHeld hInv
    have hHeld := hHeld2
    have hInv := hInv2
    clear hHeld2 hInv2
    try simp only [Act.put,sA,sB,sC] at hInv ⊢
    refine takeVS 2 hInv ?_; clear hInv; intro hInv
    refine oneS 4 hInv (by decide) rfl (by kernel_rfl) (fun K hK => ?_)
    go_simp
    (with_reducible refine (hG2.out _).mono ?_); rintro e w8 ⟨rfl, rfl⟩
    refine hK.out _ _ ?_ (fun hHeld2 hInv2 => ?_)
    ·(try dsimp only)
     (first | assumption | (exact ⟨d1, (Below.refl _ _).drew⟩) | ((try go_split_ands); exact ⟨cellK (by assumption) hb, Below.trans (by assumption) (hb.mono (Below.size (by assumption)))⟩))
    clear hK K hHeld hInv
    have hHeld := hHeld2
    have hInv := hInv2
    clear hHeld2 hInv2
    try simp only [Act.put,sA,sB,sC] at hInv ⊢
    refine takeVS 5 hInv ?_; clear hInv; intro hInv
    refine takeVS 12 hInv ?_; clear hInv; intro hInv
    refine lastS 14 rfl (by decide) (by kernel_rfl) (fun K hK => ?_)
    go_simp
    refine hK.out _ _ ?_
    clear hK K
    try simp only [Act.put,sA,sB,sC]
    refine wpAnyS_done (by kernel_rfl) ?_ _
    obtain ⟨W, hW⟩ : ∃ W : World, W = (wr.alloc (.cells #[.int .i64 (kk : Int), .int .i64 (aa : Int), .int .u64 (y : Nat)] (53 : Nat))).drew := ⟨_, rfl⟩
    have hbA : Below wr.heap.size wr W := by rw [hW]; exact (bZ _ _).drew
    have hkW : C3 W wr.heap.size (.int .i64 (kk : Int)) (.int .i64 (aa : Int)) (.int .u64 (y : Nat)) := by rw [hW]; exact C3.new _ _ _ _ _
    rw [← hW]
    clear hW hHeld hInv d0 d1
    have hownW := hown.keep hbA
    have hBW := hB.trans (hbA.mono hB.size)
    have hBbW := hBb.trans (hbA.mono hBb.size)
    clear hown hB hBb hbA
    obtain ⟨b0, b1, b2⟩ := id hkW
    go_wp2_with fail
    refine (hWr.out _).mono ?_
    rintro e W2 ⟨rfl, hb2⟩
    replace hkW := hkW.keep hb2
    replace hownW := hownW.keep hb2
    replace hBW := hBW.trans (hb2.mono hBW.size)
    replace hBbW := hBbW.trans (hb2.mono hBbW.size)
    clear hb2 b0 b1 b2
    obtain ⟨b0, b1, b2⟩ := id hkW
    go_wp2_with fail
    refine (hFs.out _ hwf.out).mono ?_
    rintro e W3 ⟨rfl, hb3⟩
    replace hkW := hkW.keep hb3
    replace hownW := hownW.keep hb3
    replace hBW := hBW.trans (hb3.mono hBW.size)
    replace hBbW := hBbW.trans (hb3.mono hBbW.size)
    clear hb3 b0 b1 b2
    obtain ⟨b0, b1, b2⟩ := id hkW
    rw [(hWo2.out).2 hxl.out]
    have f1 : ((x : Int) != (x : Int)) = false := by simp
    have hone : EL 3 opE (W3.alloc (.cells #[.int .i64 (kk : Int), .int .i64 (aa : Int), .int .u64 (y : Nat)] (53 : Nat))) (.slice (some ⟨W3.heap.size, 0, none⟩) 1 1) [o] := (OwnE.lit 53 opE_len W3 [o] #[.int .i64 (kk : Int), .int .i64 (aa : Int), .int .u64 (y : Nat)] (by rw [hoe2.out]; rfl) (by simp)).el opE_len
    obtain ⟨v', w4, hrun, ho, hg4, _, _⟩ := appE opT (hownW.alloc (.cells #[.int .i64 (kk : Int), .int .i64 (aa : Int), .int .u64 (y : Nat)] (53 : Nat))) hone (by have := hBbW.size; simp; omega) (by omega) (by simp)
    have hB4 : Below w.heap.size w w4 := (hBW.alloc hBW.size _).grown hg4 (by have := hBW.size; simp; omega) (fun i hi => by have := (hownW.lt _ hi).1; omega)
    have hBb4 : Below w1.heap.size w1 w4 := (hBbW.alloc hBbW.size _).grown hg4 (by have := hBbW.size; simp; omega) (fun i hi => (hownW.lt _ hi).1)
    rw [hsu2.out.symm] at ho
    obtain ⟨J2, hJ2⟩ : ∃ J2, J2 = opsN ws (j + 1) := ⟨_, rfl⟩
    rw [← hJ2] at ho
    replace hJ2 := lh hJ2
    clear hone hg4 hownW hBW hBbW
    go_wp2_with (at_builtin; refine wpList_append_run rfl _ _ 35 rfl _ _ _ rfl rfl hrun ?_)
    clear hrun
    go_wp2_with fail
    go_roundw
    case rel => exact ⟨j + 1, _, by omega, by go_num, hJ2, ho, hB4, hBb4⟩
    case measure => simp [intOf]; omega
  ·have hR : J = opsN ws k := by
    have hkn : j = k := by omega
    rw [hJ.out, hkn]
   subst hR
   go_wp2_with fail
   go_ret2
   exact ⟨_, rfl, hown.mono hs1, hB⟩
end Go.Proofs.YtkdhdibjbabgfaaGreatDoor
end
