/-
  Part of the proof of JournalUndo.
-/
import Derived.Test.YtkkbngcgphlikaaGreatDoorJu17
import Derived.Test.YtkkbngcgphlikaaGreatDoorJu0
set_option maxRecDepth 10000
set_option maxHeartbeats 4000000
set_option linter.unusedVariables false
set_option linter.unusedSimpArgs false
section
namespace Go.Proofs.YtkkbngcgphlikaaGreatDoor
open Go.RowKit
def smW (a b c : Int) : Int := 10 + 73 * (1 + a % 64) + 33 * (1 + b % 200) + c % 33
def smL (a : Int) : Int := 1 + a % 64
theorem small_any (a b c : Int) (w : World) (h1 : 0 ≤ a) (h2 : a ≤ 255) (h3 : 0 ≤ b) (h4 : b ≤ 255) (h5 : 0 ≤ c) (h6 : c ≤ 255) :
 Calls Tryz.prog 52 #[.int .u8 a, .int .u8 b, .int .u8 c] w fun e w' => e = .returned (.agg #[.int .i64 (smW a b c), .int .i64 (smL a)]) ∧ Below w.heap.size w w' := by
 go_enter Tryz.func52, Tryz.ntmps52
 go_wp2
 go_returns
 refine ⟨?_, by go_grown⟩
 unfold smW smL
 exact ret_g (by omega) (by omega)
end Go.Proofs.YtkkbngcgphlikaaGreatDoor
end
section
namespace Go.Proofs.YtkkbngcgphlikaaGreatDoor
open Go.RowKit Go.ChangeShapes Go.WideShapes Go.Deep
theorem open_yes_rd (l : List Nat) (N g off cap : Nat) (w : World) (hl : WL l) (hlen : l.length ≤ 900) (hN : l.length = N + 1) (hcap : N + 1 ≤ cap) (hg : g < w.heap.size) (hc : Hid (∀ i, i < N + 1 → w.cell? ⟨g, off + i, none⟩ = some (.int .u64 (l.getD i 0 : Nat))))
 (hne : l.getD N 0 = moreN 0 (l.take N)) :
 Calls Tryz.prog 200 #[.slice (some ⟨g, off, none⟩) (N + 1) cap] w fun e w' => ∃ v', e = .returned (.tuple #[v', .bool true]) ∧ SL w' v' (l.take N) ∧ Below w.heap.size w w' := by
 obtain ⟨i0, hi, hz0, hz1, hz2⟩ := info_parts infoU64
 have hS := lh (fun w1 (hb : Below w.heap.size w w1) => sl_take hN hcap hg hc.out hb (N + 1) (Nat.le_refl _))
 have hlast := hc.out N (by omega)
 have hx := hl.at N (by omega)
 have hm := moreN_lt 0 (l.take N)
 have hO := lh (fun w1 (hb : Below w.heap.size w w1) => of_any (.slice (some ⟨g, off, none⟩) N cap) (l.take N) w1 (fun x hx => hl x (List.mem_of_mem_take hx)) (by simp; omega) (sl_take hN hcap hg hc.out hb N (by omega)))
 rw [← hne] at hO hm
 replace hne := lh hne
 generalize l.getD N 0 = x at *
 have q1 : (N : Int) < (N : Int) + 1 := by omega
 have q2 : (N : Int) ≤ (cap : Int) := by omega
 have q3 : (0 : Int) ≤ (N : Int) := by omega
 have hd := (Below.refl w.heap.size w).drew
 have T : ((x : Int) == (x : Int)) = true := by simp
 have T1 : IntKind.u64.wrap (x : Int) = (x : Int) := by rw [IntKind.wrap_u64]; omega
 have T2 : ((x : Int) != IntKind.u64.wrap (x : Int)) = false := by rw [T1]; simp
 go_enter Tryz.func200, Tryz.ntmps200
 go_wp2_with fail
 go_region_held3 (fun w' => w'.cell? ⟨g, off + N, none⟩ = some (.int .u64 x) ∧ Below w.heap.size w w')
  (((try go_split_ands); refine ⟨?_, ?_⟩ <;> first | assumption | (exact cellK (by assumption) hb) | (exact Below.trans (by assumption) (hb.mono (Below.size (by assumption))))))
  (((try go_split_ands); first | (go_at_call 157; (with_reducible refine (hO.out _ (by assumption)).mono ?_); rintro e w8 ⟨rfl, hb⟩)))
 go_split_ands
 have hBW := ‹Below w.heap.size w _›
 go_wp2_with (at_make; refine wpList_make_full _ rfl _ _ 25 rfl w.heap.size 40 i0 (.int .u64 0) 1 Tryz.underlying25 hi hz0 hz1 .i64 .i64 _ _ N rfl rfl rfl rfl (by rw [hz2]; omega) (by unfold maxLen; omega) hBW.size ?_; intro w1 hown hgr)
 have hrow := row_of_owns hown rfl
 rw [show (madeCells (Value.int IntKind.u64 0).cells (N * 1)).toList = List.replicate N (Value.int .u64 0) by
  rw [Nat.mul_one]; exact toList_madeCells_one _ _] at hrow
 have hB1 : Below w.heap.size w w1 := hBW.grown hgr hBW.size (by simp)
 have hSl := hS.out w1 hB1
 rw [List.take_of_length_le (by omega), ← hN] at hSl
 obtain ⟨w2, hrun, hrow2, hb2⟩ := copyW l hrow hSl
 rw [hN] at hrun
 rw [hN, show Nat.min (N + 1) N = N from Nat.min_eq_right (by omega), Nat.sub_self, List.replicate_zero, List.append_nil] at hrow2
 rw [hrun]
 have hB2 : Below w.heap.size w w2 := hB1.trans (hb2.mono hBW.size)
 have hg2 := (Array.getElem?_eq_some_iff.1 hrow2).1
 have hR := lh (row_cell hrow2)
 clear hrun hrow hrow2 hown hgr hb2 hB1 hSl hS
 go_wp2_with fail
 go_ret2
 have hlk : (l.take N).length = N := by simp; omega
 refine ⟨_, rfl, .inr ⟨_, 0, N, by rw [hlk]; rfl, hg2, by omega, fun i hi => ?_⟩, hB2⟩
 rw [Nat.zero_add, (hR.out i).1, List.getElem?_toArray, wv_at _ i hi]
def opAt (ws : List Nat) (i : Nat) : Ox := (((ws.getD (2 * i) 0 % 4 : Nat) : Int), ((ws.getD (2 * i) 0 / 4 % 1048576 : Nat) : Int), ws.getD (2 * i + 1) 0)
def opsN (ws : List Nat) (k : Nat) : List Ox := (List.range k).map (opAt ws)
def fineB (ws : List Nat) (i : Nat) : Bool := !wrongB (opAt ws i) && decide (ws.getD (2 * i) 0 < 4194304)
def decB (ws : List Nat) (k : Nat) : Bool := decide (ws.getD (2 * k) 0 = moreN 0 (ws.take (2 * k))) && (List.range k).all (fineB ws)
theorem opsN_succ (ws : List Nat) (k : Nat) : opsN ws (k + 1) = opsN ws k ++ [opAt ws k] := by simp [opsN, List.range_succ]
theorem opsN_len (ws : List Nat) (k : Nat) : (opsN ws k).length = k := by simp [opsN]
theorem decB_all {ws : List Nat} {k : Nat} (h : decB ws k = true) : ws.getD (2 * k) 0 = moreN 0 (ws.take (2 * k)) ∧ ∀ i, i < k → fineB ws i = true := by
 simp only [decB, Bool.and_eq_true, decide_eq_true_eq, List.all_eq_true, List.mem_range] at h
 exact h
theorem decB_of {ws : List Nat} {k : Nat} (h : ws.getD (2 * k) 0 = moreN 0 (ws.take (2 * k))) (h2 : ∀ i, i < k → fineB ws i = true) : decB ws k = true := by
 simp only [decB, Bool.and_eq_true, decide_eq_true_eq, List.all_eq_true, List.mem_range]
 exact ⟨h, h2⟩
theorem wordOp_at (ws : List Nat) (i : Nat) (h : ws.getD (2 * i) 0 < 18446744073709551616) : (wordOp (opAt ws i) = ((ws.getD (2 * i) 0 : Nat) : Int)) ↔ ws.getD (2 * i) 0 < 4194304 := by
 unfold wordOp opAt
 simp only []
 generalize ws.getD (2 * i) 0 = x at *
 omega
theorem get_k (x : Nat) (w : World) (h1 : x < 18446744073709551616) :
 Calls Tryz.prog 165 #[.int .u64 (x : Nat), .int .i64 0, .int .i64 2] w fun e w' => e = .returned (.int .u64 ((x % 4 : Nat) : Int)) ∧ w = w' := by
 refine (get_yes x 0 2 w (by omega) (by omega) (by omega) (by omega) (by omega) (by omega)).mono ?_
 rintro e w' ⟨rfl, rfl⟩
 refine ⟨?_, rfl⟩
 simp [getI, getN]
theorem get_a (x : Nat) (w : World) (h1 : x < 18446744073709551616) :
 Calls Tryz.prog 165 #[.int .u64 (x : Nat), .int .i64 2, .int .i64 20] w fun e w' => e = .returned (.int .u64 ((x / 4 % 1048576 : Nat) : Int)) ∧ w = w' := by
 refine (get_yes x 2 20 w (by omega) (by omega) (by omega) (by omega) (by omega) (by omega)).mono ?_
 rintro e w' ⟨rfl, rfl⟩
 refine ⟨?_, rfl⟩
 simp [getI, getN]
theorem dec_bad (v : Value) (ws : List Nat) (m : Int) (w : World) (hv : KL .u64 w v ws) (hlen : ws.length ≤ 900) (hm1 : -9223372036854775808 ≤ m) (hm2 : m ≤ 9223372036854775807) (h : m < 0 ∨ (0 ≤ m ∧ 19 < m) ∨ (0 ≤ m ∧ m ≤ 19 ∧ (ws.length : Int) < 2 * m + 1)) :
 Calls Tryz.prog 190 #[v, .int .i64 m] w fun e w' => e = .returned (.tuple #[.slice none 0 0, .bool false]) ∧ Below w.heap.size w w' := by
 obtain ⟨A, cap, rfl, _⟩ := hv.form rfl
 clear hv
 rcases h with h | ⟨h, h2⟩ | ⟨h, h2, h3⟩
 all_goals
  go_enter Tryz.func190, Tryz.ntmps190
  go_wp2_with fail
  go_ret2
  exact ⟨rfl, Below.refl _ _⟩
theorem take_facts {ws : List Nat} {k : Nat} (hk : 2 * k + 1 ≤ ws.length) : (ws.take (2 * k + 1)).length = 2 * k + 1 ∧ (ws.take (2 * k + 1)).getD (2 * k) 0 = ws.getD (2 * k) 0 ∧ (ws.take (2 * k + 1)).take (2 * k) = ws.take (2 * k) := by
 refine ⟨by rw [List.length_take]; omega, ?_, ?_⟩
 ·rw [List.getD_eq_getElem?_getD, List.getD_eq_getElem?_getD, List.getElem?_take_of_lt (by omega)]
 rw [List.take_take]; congr 1; omega
theorem dec_sum (v : Value) (ws : List Nat) (k : Nat) (w : World) (hv : KL .u64 w v ws) (hW : WL ws) (hlen : ws.length ≤ 900) (hk : k ≤ 19) (hkl : 2 * k + 1 ≤ ws.length) (hne : ¬ ws.getD (2 * k) 0 = moreN 0 (ws.take (2 * k))) :
 Calls Tryz.prog 190 #[v, .int .i64 (k : Nat)] w fun e w' => e = .returned (.tuple #[.slice none 0 0, .bool false]) ∧ Below w.heap.size w w' := by
 obtain ⟨t1, t2, t3⟩ := take_facts hkl
 obtain ⟨n, hn⟩ : ∃ n, ws.length = n := ⟨_, rfl⟩
 obtain ⟨A, cap, rfl, hC⟩ := hv.form hn
 obtain ⟨g, off, rfl, hcap, hg, _⟩ := hC w 0 (Below.refl _ _) (by omega)
 have hO := lh (open_no (ws.take (2 * k + 1)) (2 * k) g off cap w (fun x hx => hW x (List.mem_of_mem_take hx)) (by omega) t1 (by omega) hg (lh (fun i hi => by
  obtain ⟨g', off', he, _, _, hc⟩ := hC w i (Below.refl _ _) (by omega)
  cases he
  rw [hc, List.getD_eq_getElem?_getD, List.getD_eq_getElem?_getD, List.getElem?_take_of_lt hi])) (by rw [t2, t3]; exact hne))
 have q1 : (k : Int) ≤ 19 := by omega
 have q2 : 2 * (k : Int) + 1 ≤ (n : Int) := by omega
 have q3 := lh (fun w => run_slice_to (P := Tryz.prog) (ty := 25) Tryz.underlying25 (info_parts infoU64).choose_spec.1 (some ⟨g, off, none⟩) n cap (2 * k + 1) (by omega) w)
 have q4 : ((2 * k + 1 : Nat) : Int) = 2 * (k : Int) + 1 := by omega
 rw [q4] at q3
 have q5 := q3.out
 replace hn := lh hn
 clear hv hC hne t1 t2 t3 q3 q4
 go_enter Tryz.func190, Tryz.ntmps190
 go_wp2_with fail
 refine hO.out.mono ?_
 rintro e w2 ⟨rfl, hb⟩
 go_wp2_with fail
 go_ret2
 exact ⟨rfl, hb⟩
theorem dec_yes (v : Value) (ws : List Nat) (k : Nat) (w : World) (hv : KL .u64 w v ws) (hW : WL ws) (hlen : ws.length ≤ 900) (hk : k ≤ 19) (hkl : 2 * k + 1 ≤ ws.length) (hne : ws.getD (2 * k) 0 = moreN 0 (ws.take (2 * k))) (hd : decB ws k = true) :
 Calls Tryz.prog 190 #[v, .int .i64 (k : Nat)] w fun e w' => ∃ v', e = .returned (.tuple #[v', .bool true]) ∧ OwnE 107 3 opE w' w.heap.size v' (opsN ws k) ∧ Below w.heap.size w w' := by
 obtain ⟨_, hfi⟩ := decB_all hd
 have hFi := lh hfi
 clear hfi hd
 obtain ⟨t1, t2, t3⟩ := take_facts hkl
 obtain ⟨n, hn⟩ : ∃ n, ws.length = n := ⟨_, rfl⟩
 obtain ⟨A, cap, rfl, hC⟩ := hv.form hn
 obtain ⟨g, off, rfl, hcap, hg, _⟩ := hC w 0 (Below.refl _ _) (by omega)
 have hO := open_yes_rd (ws.take (2 * k + 1)) (2 * k) g off cap w (fun x hx => hW x (List.mem_of_mem_take hx)) (by omega) t1 (by omega) hg (lh (fun i hi => by
  obtain ⟨g', off', he, _, _, hc⟩ := hC w i (Below.refl _ _) (by omega)
  cases he
  rw [hc, List.getD_eq_getElem?_getD, List.getD_eq_getElem?_getD, List.getElem?_take_of_lt hi])) (by rw [t2, t3]; exact hne)
 rw [t3] at hO
 replace hO := lh hO
 have htl : (ws.take (2 * k)).length = 2 * k := by rw [List.length_take]; omega
 have htg := lh (fun i (hi : i < 2 * k) => show (ws.take (2 * k)).getD i 0 = ws.getD i 0 from by rw [List.getD_eq_getElem?_getD, List.getD_eq_getElem?_getD, List.getElem?_take_of_lt hi])
 have hWa := lh (fun i (hi : i < n) => hW.at i (by omega))
 have hSu := lh (fun i => opsN_succ ws i)
 have hLn := lh (fun i => opsN_len ws i)
 have hWo := lh (fun i h => wordOp_at ws i h)
 have q1 : (k : Int) ≤ 19 := by omega
 have q2 : 2 * (k : Int) + 1 ≤ (n : Int) := by omega
 have q3 := lh (fun w => run_slice_to (P := Tryz.prog) (ty := 25) Tryz.underlying25 (info_parts infoU64).choose_spec.1 (some ⟨g, off, none⟩) n cap (2 * k + 1) (by omega) w)
 have q4 : ((2 * k + 1 : Nat) : Int) = 2 * (k : Int) + 1 := by omega
 rw [q4] at q3
 have q5 := q3.out
 have hkn : 2 * k + 1 ≤ n := by omega
 replace hn := lh hn
 clear hv hC hne t1 t2 t3 q3 q4 hW hlen hkl
 obtain ⟨i0, hi, hz0, hz1, hz2⟩ := info_parts infoOp
 go_enter Tryz.func190, Tryz.ntmps190
 go_wp2_with fail
 refine hO.out.mono ?_
 rintro e w1 ⟨v1, rfl, hs1, hb1⟩
 obtain ⟨A1, c1, rfl, hC1⟩ := hs1.kl.form htl
 clear hO hs1 q5
 go_wp2_with (at_make; refine wpList_make_own _ rfl _ _ 29 rfl w1.heap.size 107 i0 (.agg #[.int .i64 0, .int .i64 0, .int .u64 0]) 3 Tryz.underlying29 hi hz0 hz1 .i64 .i64 _ k rfl rfl rfl (by rw [hz2]; omega) (by unfold maxLen; omega) (Nat.le_refl _) ?_; intro w2 hown hgr)
 have hs1 := hb1.size
 have hB2 : Below w.heap.size w w2 := hb1.grown hgr hb1.size (by simp)
 have hB12 : Below w1.heap.size w1 w2 := (Below.refl _ _).grown hgr (Nat.le_refl _) (by simp)
 have hO2 : OwnE 107 3 opE w2 w1.heap.size (.slice (some ⟨w1.heap.size, 0, none⟩) 0 k) [] := hown
 clear hown hgr
 replace htl := lh htl
 replace hC1 := lh hC1
 go_wp2_with fail
 go_loopw [40, 8] (fun i l wr => ∃ (j : Nat) (J : List Ox), j ≤ k ∧ i = .int .i64 j ∧ Hid (J = opsN ws j) ∧ OwnE 107 3 opE wr w1.heap.size l J ∧ Below w.heap.size w wr ∧ Below w1.heap.size w1 wr) (fun i _ _ => k + 1 - (intOf i).toNat)
 case atStart => exact ⟨0, [], Nat.zero_le _, rfl, rfl, hO2, hB2, hB12⟩
 clear hO2 hB2 hB12
 obtain ⟨j, J, hj, rfl, hJ, hown, hB, hBb⟩ := hrel
 by_cases hlt : j < k
 rotate_left
 ·have hR : J = opsN ws k := by
   have hkn : j = k := by omega
   rw [hJ.out, hkn]
  subst hR
  go_wp2_with fail
  go_ret2
  exact ⟨_, rfl, hown.mono hs1, hB⟩
 obtain ⟨ga, oa, rfl, hca, hga, d0⟩ := hC1.out wr (2 * j) hBb (by omega)
 obtain ⟨gb, ob, he, _, _, d1⟩ := hC1.out wr (2 * j + 1) hBb (by omega)
 simp only [Option.some.injEq, Addr.mk.injEq, and_true] at he
 obtain ⟨rfl, rfl⟩ := he
 rw [htg.out _ (by omega)] at d0 d1
 have hlt' : (j : Int) < (k : Int) := by omega
 have hx := hWa.out (2 * j) (by omega)
 have hJl : J.length = j := by rw [hJ.out]; exact hLn.out j
 have hsu := hSu.out j
 rw [← hJ.out] at hsu
 have hWo1 := hWo.out j hx
 have hfb := hFi.out j hlt
 have hfd : fineB ws j = (!wrongB (opAt ws j) && decide (ws.getD (2 * j) 0 < 4194304)) := rfl
 have hoe : opAt ws j = (((ws.getD (2 * j) 0 % 4 : Nat) : Int), ((ws.getD (2 * j) 0 / 4 % 1048576 : Nat) : Int), ws.getD (2 * j + 1) 0) := rfl
 have hG1 := lh (fun w => get_k (ws.getD (2 * j) 0) w hx)
 have hG2 := lh (fun w => get_a (ws.getD (2 * j) 0) w hx)
 have hb1' : ws.getD (2 * j) 0 % 4 < 4 := Nat.mod_lt _ (by decide)
 have hb2' : ws.getD (2 * j) 0 / 4 % 1048576 < 1048576 := Nat.mod_lt _ (by decide)
 rw [hfd] at hfb
 generalize opAt ws j = o at *
 generalize ws.getD (2 * j) 0 = x at *
 generalize ws.getD (2 * j + 1) 0 = y at *
 generalize x % 4 = kk at *
 generalize x / 4 % 1048576 = aa at *
 have hWr := fun w => wrong_any o w
 have hFs := fun w (h : wrongB o = false) => first_any_rd o w h
 unfold opV at hWr hFs
 rw [hoe] at hWr hFs
 simp only [] at hWr hFs
 rw [← hoe] at hWr hFs
 have hWo2 := lh hWo1
 have hsu2 := lh hsu
 have hoe2 := lh hoe
 simp only [Bool.and_eq_true, Bool.not_eq_true', decide_eq_true_eq] at hfb
 have hwf := lh hfb.1
 have hxl := lh hfb.2
 rw [hfb.1] at hWr
 clear hWo1 hsu hoe hfb hfd
 have i1 : IntKind.i64.wrap (2 * (j : Int)) = 2 * (j : Int) := by rw [IntKind.wrap_i64]; omega
 have i2 : IntKind.i64.wrap (2 * (j : Int) + 1) = 2 * (j : Int) + 1 := by rw [IntKind.wrap_i64]; omega
 have i3 : (2 * (j : Int) + 1).toNat = 2 * j + 1 := by omega
 have i4 : 0 ≤ 2 * (j : Int) + 1 := by omega
 have i5 : 2 * (j : Int) + 1 < 2 * (k : Int) := by omega
 have i6 : IntKind.i64.wrap ((kk : Nat) : Int) = (kk : Int) := by rw [IntKind.wrap_i64]; omega
 have i7 : IntKind.i64.wrap ((aa : Nat) : Int) = (aa : Int) := by rw [IntKind.wrap_i64]; omega
 replace hWr := lh hWr
 replace hFs := lh hFs
 go_wp2_with fail
 refine wp_region_tail (S := (fun w' => w'.cell? ⟨ga, oa + (2 * j + 1), none⟩ = some (.int .u64 (y : Nat)) ∧ Below wr.heap.size wr w')) (n := 14) (by kernel_rfl) ?_ (fun hHeld hInv => ?_) (by decide)
 ·(try dsimp only)
  (first | assumption | (exact ⟨d1, (Below.refl _ _).drew⟩) | ((try go_split_ands); exact ⟨cellK (by assumption) hb, Below.trans (by assumption) (hb.mono (Below.size (by assumption)))⟩))
 refine takeVS 0 hInv ?_; clear hInv; intro hInv
 refine takeVS 3 hInv ?_; clear hInv; intro hInv
 refine takeVS 6 hInv ?_; clear hInv; intro hInv
 refine takeVS 7 hInv ?_; clear hInv; intro hInv
 refine takeVS 8 hInv ?_; clear hInv; intro hInv
 refine takeVS 9 hInv ?_; clear hInv; intro hInv
 refine takeVS 10 hInv ?_; clear hInv; intro hInv
 refine takeVS 11 hInv ?_; clear hInv; intro hInv
 refine twoS 1 13 hInv (by decide) (by decide) rfl rfl (by kernel_rfl) (fun K hK => ?_) (fun K hK => ?_)
 rotate_left
 ·go_simp
  have hb := bZ wr.drew (.cells #[.int .i64 0, .int .i64 0, .int .u64 0] (107 : Nat))
  refine hK.out _ _ ?_ (fun hHeld2 hInv2 => ?_)
  ·(try dsimp only)
   (first | assumption | (exact ⟨d1, (Below.refl _ _).drew⟩) | ((try go_split_ands); exact ⟨cellK (by assumption) hb, Below.trans (by assumption) (hb.mono (Below.size (by assumption)))⟩))
  clear hK K hHeld hInv
  have hHeld := hHeld2
  have hInv := hInv2
  clear hHeld2 hInv2
  try simp only [Act.put,sA,sB,sC] at hInv ⊢
  refine oneS 1 hInv (by decide) rfl (by kernel_rfl) (fun K hK => ?_)
  go_simp
  (with_reducible refine (hG1.out _).mono ?_); rintro e w8 ⟨rfl, rfl⟩
  refine hK.out _ _ ?_ (fun hHeld2 hInv2 => ?_)
  ·(try dsimp only)
   (first | assumption | (exact ⟨d1, (Below.refl _ _).drew⟩) | ((try go_split_ands); exact ⟨cellK (by assumption) hb, Below.trans (by assumption) (hb.mono (Below.size (by assumption)))⟩))
  clear hK K hHeld hInv
  have hHeld := hHeld2
  have hInv := hInv2
  clear hHeld2 hInv2
  try simp only [Act.put,sA,sB,sC] at hInv ⊢
  refine takeVS 2 hInv ?_; clear hInv; intro hInv
  refine oneS 4 hInv (by decide) rfl (by kernel_rfl) (fun K hK => ?_)
  go_simp
  (with_reducible refine (hG2.out _).mono ?_); rintro e w8 ⟨rfl, rfl⟩
  refine hK.out _ _ ?_ (fun hHeld2 hInv2 => ?_)
  ·(try dsimp only)
   (first | assumption | (exact ⟨d1, (Below.refl _ _).drew⟩) | ((try go_split_ands); exact ⟨cellK (by assumption) hb, Below.trans (by assumption) (hb.mono (Below.size (by assumption)))⟩))
  clear hK K hHeld hInv
  have hHeld := hHeld2
  have hInv := hInv2
  clear hHeld2 hInv2
  try simp only [Act.put,sA,sB,sC] at hInv ⊢
  refine takeVS 5 hInv ?_; clear hInv; intro hInv
  refine takeVS 12 hInv ?_; clear hInv; intro hInv
  refine lastS 14 rfl (by decide) (by kernel_rfl) (fun K hK => ?_)
  go_simp
  refine hK.out _ _ ?_
  clear hK K
  try simp only [Act.put,sA,sB,sC]
  refine wpAnyS_done (by kernel_rfl) ?_ _
  obtain ⟨W, hW⟩ : ∃ W : World, W = (wr.alloc (.cells #[.int .i64 (kk : Int), .int .i64 (aa : Int), .int .u64 (y : Nat)] (107 : Nat))).drew := ⟨_, rfl⟩
  have hbA : Below wr.heap.size wr W := by rw [hW]; exact (bZ _ _).drew
  have hkW : C3 W wr.heap.size (.int .i64 (kk : Int)) (.int .i64 (aa : Int)) (.int .u64 (y : Nat)) := by rw [hW]; exact C3.new _ _ _ _ _
  rw [← hW]
  clear hW hHeld hInv d0 d1
  have hownW := hown.keep hbA
  have hBW := hB.trans (hbA.mono hB.size)
  have hBbW := hBb.trans (hbA.mono hBb.size)
  clear hown hB hBb hbA
  obtain ⟨b0, b1, b2⟩ := id hkW
  go_wp2_with fail
  refine (hWr.out _).mono ?_
  rintro e W2 ⟨rfl, hb2⟩
  replace hkW := hkW.keep hb2
  replace hownW := hownW.keep hb2
  replace hBW := hBW.trans (hb2.mono hBW.size)
  replace hBbW := hBbW.trans (hb2.mono hBbW.size)
  clear hb2 b0 b1 b2
  obtain ⟨b0, b1, b2⟩ := id hkW
  go_wp2_with fail
  refine (hFs.out _ hwf.out).mono ?_
  rintro e W3 ⟨rfl, hb3⟩
  replace hkW := hkW.keep hb3
  replace hownW := hownW.keep hb3
  replace hBW := hBW.trans (hb3.mono hBW.size)
  replace hBbW := hBbW.trans (hb3.mono hBbW.size)
  clear hb3 b0 b1 b2
  obtain ⟨b0, b1, b2⟩ := id hkW
  rw [(hWo2.out).2 hxl.out]
  have f1 : ((x : Int) != (x : Int)) = false := by simp
  have hone : EL 3 opE (W3.alloc (.cells #[.int .i64 (kk : Int), .int .i64 (aa : Int), .int .u64 (y : Nat)] (107 : Nat))) (.slice (some ⟨W3.heap.size, 0, none⟩) 1 1) [o] := (OwnE.lit 107 opE_len W3 [o] #[.int .i64 (kk : Int), .int .i64 (aa : Int), .int .u64 (y : Nat)] (by rw [hoe2.out]; rfl) (by simp)).el opE_len
  obtain ⟨v', w4, hrun, ho, hg4, _, _⟩ := appE opT (hownW.alloc (.cells #[.int .i64 (kk : Int), .int .i64 (aa : Int), .int .u64 (y : Nat)] (107 : Nat))) hone (by have := hBbW.size; simp; omega) (by omega) (by simp)
  have hB4 : Below w.heap.size w w4 := (hBW.alloc hBW.size _).grown hg4 (by have := hBW.size; simp; omega) (fun i hi => by have := (hownW.lt _ hi).1; omega)
  have hBb4 : Below w1.heap.size w1 w4 := (hBbW.alloc hBbW.size _).grown hg4 (by have := hBbW.size; simp; omega) (fun i hi => (hownW.lt _ hi).1)
  rw [hsu2.out.symm] at ho
  obtain ⟨J2, hJ2⟩ : ∃ J2, J2 = opsN ws (j + 1) := ⟨_, rfl⟩
  rw [← hJ2] at ho
  replace hJ2 := lh hJ2
  clear hone hg4 hownW hBW hBbW
  go_wp2_with (at_builtin; refine wpList_append_run rfl _ _ 29 rfl _ _ _ rfl rfl hrun ?_)
  clear hrun
  go_wp2_with fail
  go_roundw
  case rel => exact ⟨j + 1, _, by omega, by go_num, hJ2, ho, hB4, hBb4⟩
  simp [intOf]; omega
 go_simp
 (with_reducible refine (hG1.out _).mono ?_); rintro e w8 ⟨rfl, rfl⟩
 refine hK.out _ _ ?_ (fun hHeld2 hInv2 => ?_)
 ·(try dsimp only)
  (first | assumption | (exact ⟨d1, (Below.refl _ _).drew⟩) | ((try go_split_ands); exact ⟨cellK (by assumption) hb, Below.trans (by assumption) (hb.mono (Below.size (by assumption)))⟩))
 clear hK K hHeld hInv
 have hHeld := hHeld2
 have hInv := hInv2
 clear hHeld2 hInv2
 try simp only [Act.put,sA,sB,sC] at hInv ⊢
 refine takeVS 2 hInv ?_; clear hInv; intro hInv
 refine twoS 4 13 hInv (by decide) (by decide) rfl rfl (by kernel_rfl) (fun K hK => ?_) (fun K hK => ?_)
 ·go_simp
  (with_reducible refine (hG2.out _).mono ?_); rintro e w8 ⟨rfl, rfl⟩
  refine hK.out _ _ ?_ (fun hHeld2 hInv2 => ?_)
  ·(try dsimp only)
   (first | assumption | (exact ⟨d1, (Below.refl _ _).drew⟩) | ((try go_split_ands); exact ⟨cellK (by assumption) hb, Below.trans (by assumption) (hb.mono (Below.size (by assumption)))⟩))
  clear hK K hHeld hInv
  have hHeld := hHeld2
  have hInv := hInv2
  clear hHeld2 hInv2
  try simp only [Act.put,sA,sB,sC] at hInv ⊢
  refine takeVS 5 hInv ?_; clear hInv; intro hInv
  refine takeVS 12 hInv ?_; clear hInv; intro hInv
  refine oneS 13 hInv (by decide) rfl (by kernel_rfl) (fun K hK => ?_)
  go_simp
  have hb := bZ wr.drew (.cells #[.int .i64 0, .int .i64 0, .int .u64 0] (107 : Nat))
  refine hK.out _ _ ?_ (fun hHeld2 hInv2 => ?_)
  ·(try dsimp only)
   (first | assumption | (exact ⟨d1, (Below.refl _ _).drew⟩) | ((try go_split_ands); exact ⟨cellK (by assumption) hb, Below.trans (by assumption) (hb.mono (Below.size (by assumption)))⟩))
  clear hK K hHeld hInv
  have hHeld := hHeld2
  have hInv := hInv2
  clear hHeld2 hInv2
  try simp only [Act.put,sA,sB,sC] at hInv ⊢
  refine lastS 14 rfl (by decide) (by kernel_rfl) (fun K hK => ?_)
  go_simp
  refine hK.out _ _ ?_
  clear hK K
  try simp only [Act.put,sA,sB,sC]
  refine wpAnyS_done (by kernel_rfl) ?_ _
  obtain ⟨W, hW⟩ : ∃ W : World, W = (wr.alloc (.cells #[.int .i64 (kk : Int), .int .i64 (aa : Int), .int .u64 (y : Nat)] (107 : Nat))).drew := ⟨_, rfl⟩
  have hbA : Below wr.heap.size wr W := by rw [hW]; exact (bZ _ _).drew
  have hkW : C3 W wr.heap.size (.int .i64 (kk : Int)) (.int .i64 (aa : Int)) (.int .u64 (y : Nat)) := by rw [hW]; exact C3.new _ _ _ _ _
  rw [← hW]
  clear hW hHeld hInv d0 d1
  have hownW := hown.keep hbA
  have hBW := hB.trans (hbA.mono hB.size)
  have hBbW := hBb.trans (hbA.mono hBb.size)
  clear hown hB hBb hbA
  obtain ⟨b0, b1, b2⟩ := id hkW
  go_wp2_with fail
  refine (hWr.out _).mono ?_
  rintro e W2 ⟨rfl, hb2⟩
  replace hkW := hkW.keep hb2
  replace hownW := hownW.keep hb2
  replace hBW := hBW.trans (hb2.mono hBW.size)
  replace hBbW := hBbW.trans (hb2.mono hBbW.size)
  clear hb2 b0 b1 b2
  obtain ⟨b0, b1, b2⟩ := id hkW
  go_wp2_with fail
  refine (hFs.out _ hwf.out).mono ?_
  rintro e W3 ⟨rfl, hb3⟩
  replace hkW := hkW.keep hb3
  replace hownW := hownW.keep hb3
  replace hBW := hBW.trans (hb3.mono hBW.size)
  replace hBbW := hBbW.trans (hb3.mono hBbW.size)
  clear hb3 b0 b1 b2
  obtain ⟨b0, b1, b2⟩ := id hkW
  rw [(hWo2.out).2 hxl.out]
  have f1 : ((x : Int) != (x : Int)) = false := by simp
  have hone : EL 3 opE (W3.alloc (.cells #[.int .i64 (kk : Int), .int .i64 (aa : Int), .int .u64 (y : Nat)] (107 : Nat))) (.slice (some ⟨W3.heap.size, 0, none⟩) 1 1) [o] := (OwnE.lit 107 opE_len W3 [o] #[.int .i64 (kk : Int), .int .i64 (aa : Int), .int .u64 (y : Nat)] (by rw [hoe2.out]; rfl) (by simp)).el opE_len
  obtain ⟨v', w4, hrun, ho, hg4, _, _⟩ := appE opT (hownW.alloc (.cells #[.int .i64 (kk : Int), .int .i64 (aa : Int), .int .u64 (y : Nat)] (107 : Nat))) hone (by have := hBbW.size; simp; omega) (by omega) (by simp)
  have hB4 : Below w.heap.size w w4 := (hBW.alloc hBW.size _).grown hg4 (by have := hBW.size; simp; omega) (fun i hi => by have := (hownW.lt _ hi).1; omega)
  have hBb4 : Below w1.heap.size w1 w4 := (hBbW.alloc hBbW.size _).grown hg4 (by have := hBbW.size; simp; omega) (fun i hi => (hownW.lt _ hi).1)
  rw [hsu2.out.symm] at ho
  obtain ⟨J2, hJ2⟩ : ∃ J2, J2 = opsN ws (j + 1) := ⟨_, rfl⟩
  rw [← hJ2] at ho
  replace hJ2 := lh hJ2
  clear hone hg4 hownW hBW hBbW
  go_wp2_with (at_builtin; refine wpList_append_run rfl _ _ 29 rfl _ _ _ rfl rfl hrun ?_)
  clear hrun
  go_wp2_with fail
  go_roundw
  case rel => exact ⟨j + 1, _, by omega, by go_num, hJ2, ho, hB4, hBb4⟩
  simp [intOf]; omega
 go_simp
 have hb := bZ wr.drew (.cells #[.int .i64 0, .int .i64 0, .int .u64 0] (107 : Nat))
 refine hK.out _ _ ?_ (fun hHeld2 hInv2 => ?_)
 ·(try dsimp only)
  (first | assumption | (exact ⟨d1, (Below.refl _ _).drew⟩) | ((try go_split_ands); exact ⟨cellK (by assumption) hb, Below.trans (by assumption) (hb.mono (Below.size (by assumption)))⟩))
 clear hK K hHeld hInv
 have hHeld := hHeld2
 have hInv := hInv2
 clear hHeld2 hInv2
 try simp only [Act.put,sA,sB,sC] at hInv ⊢
 refine oneS 4 hInv (by decide) rfl (by kernel_rfl) (fun K hK => ?_)
 go_simp
 (with_reducible refine (hG2.out _).mono ?_); rintro e w8 ⟨rfl, rfl⟩
 refine hK.out _ _ ?_ (fun hHeld2 hInv2 => ?_)
 ·(try dsimp only)
  (first | assumption | (exact ⟨d1, (Below.refl _ _).drew⟩) | ((try go_split_ands); exact ⟨cellK (by assumption) hb, Below.trans (by assumption) (hb.mono (Below.size (by assumption)))⟩))
 clear hK K hHeld hInv
 have hHeld := hHeld2
 have hInv := hInv2
 clear hHeld2 hInv2
 try simp only [Act.put,sA,sB,sC] at hInv ⊢
 refine takeVS 5 hInv ?_; clear hInv; intro hInv
 refine takeVS 12 hInv ?_; clear hInv; intro hInv
 refine lastS 14 rfl (by decide) (by kernel_rfl) (fun K hK => ?_)
 go_simp
 refine hK.out _ _ ?_
 clear hK K
 try simp only [Act.put,sA,sB,sC]
 refine wpAnyS_done (by kernel_rfl) ?_ _
 obtain ⟨W, hW⟩ : ∃ W : World, W = (wr.alloc (.cells #[.int .i64 (kk : Int), .int .i64 (aa : Int), .int .u64 (y : Nat)] (107 : Nat))).drew := ⟨_, rfl⟩
 have hbA : Below wr.heap.size wr W := by rw [hW]; exact (bZ _ _).drew
 have hkW : C3 W wr.heap.size (.int .i64 (kk : Int)) (.int .i64 (aa : Int)) (.int .u64 (y : Nat)) := by rw [hW]; exact C3.new _ _ _ _ _
 rw [← hW]
 clear hW hHeld hInv d0 d1
 have hownW := hown.keep hbA
 have hBW := hB.trans (hbA.mono hB.size)
 have hBbW := hBb.trans (hbA.mono hBb.size)
 clear hown hB hBb hbA
 obtain ⟨b0, b1, b2⟩ := id hkW
 go_wp2_with fail
 refine (hWr.out _).mono ?_
 rintro e W2 ⟨rfl, hb2⟩
 replace hkW := hkW.keep hb2
 replace hownW := hownW.keep hb2
 replace hBW := hBW.trans (hb2.mono hBW.size)
 replace hBbW := hBbW.trans (hb2.mono hBbW.size)
 clear hb2 b0 b1 b2
 obtain ⟨b0, b1, b2⟩ := id hkW
 go_wp2_with fail
 refine (hFs.out _ hwf.out).mono ?_
 rintro e W3 ⟨rfl, hb3⟩
 replace hkW := hkW.keep hb3
 replace hownW := hownW.keep hb3
 replace hBW := hBW.trans (hb3.mono hBW.size)
 replace hBbW := hBbW.trans (hb3.mono hBbW.size)
 clear hb3 b0 b1 b2
 obtain ⟨b0, b1, b2⟩ := id hkW
 rw [(hWo2.out).2 hxl.out]
 have f1 : ((x : Int) != (x : Int)) = false := by simp
 have hone : EL 3 opE (W3.alloc (.cells #[.int .i64 (kk : Int), .int .i64 (aa : Int), .int .u64 (y : Nat)] (107 : Nat))) (.slice (some ⟨W3.heap.size, 0, none⟩) 1 1) [o] := (OwnE.lit 107 opE_len W3 [o] #[.int .i64 (kk : Int), .int .i64 (aa : Int), .int .u64 (y : Nat)] (by rw [hoe2.out]; rfl) (by simp)).el opE_len
 obtain ⟨v', w4, hrun, ho, hg4, _, _⟩ := appE opT (hownW.alloc (.cells #[.int .i64 (kk : Int), .int .i64 (aa : Int), .int .u64 (y : Nat)] (107 : Nat))) hone (by have := hBbW.size; simp; omega) (by omega) (by simp)
 have hB4 : Below w.heap.size w w4 := (hBW.alloc hBW.size _).grown hg4 (by have := hBW.size; simp; omega) (fun i hi => by have := (hownW.lt _ hi).1; omega)
 have hBb4 : Below w1.heap.size w1 w4 := (hBbW.alloc hBbW.size _).grown hg4 (by have := hBbW.size; simp; omega) (fun i hi => (hownW.lt _ hi).1)
 rw [hsu2.out.symm] at ho
 obtain ⟨J2, hJ2⟩ : ∃ J2, J2 = opsN ws (j + 1) := ⟨_, rfl⟩
 rw [← hJ2] at ho
 replace hJ2 := lh hJ2
 clear hone hg4 hownW hBW hBbW
 go_wp2_with (at_builtin; refine wpList_append_run rfl _ _ 29 rfl _ _ _ rfl rfl hrun ?_)
 clear hrun
 go_wp2_with fail
 go_roundw
 case rel => exact ⟨j + 1, _, by omega, by go_num, hJ2, ho, hB4, hBb4⟩
 simp [intOf]; omega
end Go.Proofs.YtkkbngcgphlikaaGreatDoor
end
section
namespace Go.Proofs.YtkkbngcgphlikaaGreatDoor
open Go.RowKit
theorem has_yes (W L i : Int) (w : World) (h : gOk W L = true) (hi : 0 ≤ i) (hi2 : i < L) :
 Calls Tryz.prog 158 #[.agg #[.int .i64 W, .int .i64 L], .int .i64 i] w fun e w' => e = .returned (.bool true) ∧ Below w.heap.size w w' := by
 have H := lh h
 clear h
 go_enter Tryz.func158, Tryz.ntmps158
 go_wp2_with fail
 refine (right_t W L _ H.out).mono ?_
 rintro e w1 ⟨rfl, hb⟩
 have k1 := (C2.new w (.int .i64 W) (.int .i64 L) 37).keep hb
 obtain ⟨c0, c1⟩ := id k1
 go_wp2_with fail
 go_ret
 exact ⟨ret_b (by simp), (bZ _ _).trans (hb.mono (by simp))⟩
theorem has_t (W L i : Int) (w : World) (h : lOk W L i = true) :
 Calls Tryz.prog 158 #[.agg #[.int .i64 W, .int .i64 L], .int .i64 i] w fun e w' => e = .returned (.bool true) ∧ Below w.heap.size w w' := has_yes W L i w (lOk_t h).1 (lOk_t h).2.1 (lOk_t h).2.2
theorem mark_t (W L i : Int) (w : World) (h : lOk W L i = true) :
 Calls Tryz.prog 122 #[.agg #[.int .i64 W, .int .i64 L], .int .i64 i] w fun e w' => e = .returned (.int .i64 (10 + i)) ∧ Below w.heap.size w w' := by
 obtain ⟨h0, h1, h2⟩ := lOk_t h
 obtain ⟨h3, h4, _, _⟩ := gOk_t h0
 clear h0
 have H := lh h
 clear h
 go_enter Tryz.func122, Tryz.ntmps122
 go_wp2_with fail
 refine (has_t W L i _ H.out).mono ?_
 rintro e w1 ⟨rfl, hb⟩
 go_wp2_with fail
 go_ret
 exact ⟨rfl, (bZ _ _).trans (hb.mono (by simp))⟩
theorem words_t (W L i : Int) (w : World) (h : lOk W L i = true) :
 Calls Tryz.prog 113 #[.agg #[.int .i64 W, .int .i64 L], .int .i64 i] w fun e w' => ∃ b, e = .returned (.func (.func 161) #[] #[.pointer (some ⟨b, 0, none⟩)]) ∧ Cap w' b (.int .i64 (10 + L + i * 72)) ∧ w.heap.size ≤ b ∧ Below w.heap.size w w' := by
 obtain ⟨h0, h1, h2⟩ := lOk_t h
 obtain ⟨h3, h4, _, _⟩ := gOk_t h0
 clear h0
 have H := lh h
 clear h
 go_enter Tryz.func113, Tryz.ntmps113
 go_wp2_with fail
 refine (has_t W L i _ H.out).mono ?_
 rintro e w1 ⟨rfl, hb⟩
 have k1 := (C2.new w (.int .i64 W) (.int .i64 L) 37).keep hb
 obtain ⟨c0, c1⟩ := id k1
 have lt1 := k1.lt
 have hB : Below w.heap.size w w1 := (bZ _ _).trans (hb.mono (by simp))
 go_wp2_with fail
 refine (lane_any W L i _ h3 h4 h1 (by omega)).mono ?_
 rintro e w2 ⟨rfl, hb2⟩
 obtain ⟨hB2, hz2⟩ := belowStep hB (Nat.le_of_lt lt1) hb2
 go_wp2_with fail
 go_ret
 exact ⟨w2.heap.size, rfl, by unfold Cap; simp [go_sem], hz2, hB2.alloc hz2 _⟩
theorem words2_any (f s m : Int) (b : Nat) (w : World) (hc : w.cell? ⟨b, 0, none⟩ = some (.int .i64 f)) (h1 : 0 ≤ f) (h2 : f ≤ 100000) (h3 : 0 ≤ s) (h4 : s ≤ 100) :
 Calls Tryz.prog 161 #[.int .i64 s, .int .i64 m, .pointer (some ⟨b, 0, none⟩)] w fun e w' => e = .returned (.agg #[.int .i64 (f + s), .int .i64 m]) ∧ Below w.heap.size w w' := by
 have hlt : b < w.heap.size := World.block_lt_of_cell? w _ hc
 go_enter Tryz.func161, Tryz.ntmps161
 go_wp2
 go_returns
 exact ⟨rfl, by go_grown⟩
theorem log_t (W L i : Int) (w : World) (h : lOk W L i = true) :
 Calls Tryz.prog 175 #[.agg #[.int .i64 W, .int .i64 L], .int .i64 i] w fun e w' => e = .returned (.agg #[.int .i64 (10 + L + i * 72), .int .i64 32]) ∧ Below w.heap.size w w' := by
 obtain ⟨h0, h1, h2⟩ := lOk_t h
 obtain ⟨h3, h4, _, _⟩ := gOk_t h0
 clear h0
 have H := lh h
 clear h
 go_enter Tryz.func175, Tryz.ntmps175
 go_wp2_with fail
 refine (words_t W L i _ H.out).mono ?_
 rintro e w1 ⟨b, rfl, hcap, hbl, hb⟩
 have k1 := (C2.new (w.alloc (.cells #[.int .i64 W, .int .i64 L] 37)) (.int .i64 0) (.int .i64 0) 70).keep hb
 have f1 := (F2.new (w.alloc (.cells #[.int .i64 W, .int .i64 L] 37)) (.int .i64 0) (.int .i64 0) 70).keep (by simp) hb
 simp only [World.size_alloc] at k1 f1
 have hB : Below w.heap.size w w1 := ((bZ _ _).alloc (by simp) _).trans (hb.mono (by simp; omega))
 have lt1 := k1.lt
 go_wp2_with fail
 refine (words2_any (10 + L + i * 72) 0 32 b _ hcap (by omega) (by omega) (by omega) (by omega)).mono ?_
 rintro e w2 ⟨rfl, hb2⟩
 have k2 := k1.keep hb2
 have f2 := f1.keep lt1 hb2
 obtain ⟨hB2, hz2⟩ := belowStep hB (by omega) hb2
 obtain ⟨c0, c1⟩ := id k2
 obtain ⟨g0, g1⟩ := id f2
 go_wp2_with fail
 refine bodyPost_ret (v := .agg #[.int .i64 (10 + L + i * 72), .int .i64 32]) (by simp [results, Tryz.results175, go_sem, c0, c1]) rfl ⟨rfl, ?_⟩
 go_grown
theorem redo_t (W L i : Int) (w : World) (h : lOk W L i = true) :
 Calls Tryz.prog 57 #[.agg #[.int .i64 W, .int .i64 L], .int .i64 i] w fun e w' => e = .returned (.agg #[.int .i64 (10 + L + i * 72 + 32), .int .i64 40]) ∧ Below w.heap.size w w' := by
 obtain ⟨h0, h1, h2⟩ := lOk_t h
 obtain ⟨h3, h4, _, _⟩ := gOk_t h0
 clear h0
 have H := lh h
 clear h
 go_enter Tryz.func57, Tryz.ntmps57
 go_wp2_with fail
 refine (words_t W L i _ H.out).mono ?_
 rintro e w1 ⟨b, rfl, hcap, hbl, hb⟩
 have k1 := (C2.new (w.alloc (.cells #[.int .i64 W, .int .i64 L] 37)) (.int .i64 0) (.int .i64 0) 70).keep hb
 have f1 := (F2.new (w.alloc (.cells #[.int .i64 W, .int .i64 L] 37)) (.int .i64 0) (.int .i64 0) 70).keep (by simp) hb
 simp only [World.size_alloc] at k1 f1
 have hB : Below w.heap.size w w1 := ((bZ _ _).alloc (by simp) _).trans (hb.mono (by simp; omega))
 have lt1 := k1.lt
 go_wp2_with fail
 refine (words2_any (10 + L + i * 72) 32 40 b _ hcap (by omega) (by omega) (by omega) (by omega)).mono ?_
 rintro e w2 ⟨rfl, hb2⟩
 have k2 := k1.keep hb2
 have f2 := f1.keep lt1 hb2
 obtain ⟨hB2, hz2⟩ := belowStep hB (by omega) hb2
 obtain ⟨c0, c1⟩ := id k2
 obtain ⟨g0, g1⟩ := id f2
 go_wp2_with fail
 refine bodyPost_ret (v := .agg #[.int .i64 (10 + L + i * 72 + 32), .int .i64 40]) (by simp [results, Tryz.results57, go_sem, c0, c1]) rfl ⟨rfl, ?_⟩
 go_grown
end Go.Proofs.YtkkbngcgphlikaaGreatDoor
end
section
namespace Go.Proofs.YtkkbngcgphlikaaGreatDoor
open Go.RowKit Go.ChangeShapes Go.WideShapes Go.Deep
theorem seal_new (v : Value) (l : List Nat) (w : World) (hl : WL l) (hlen : l.length ≤ 900) (hv : SL w v l) :
 Calls Tryz.prog 112 #[v] w fun e w' => ∃ v', e = .returned v' ∧ SL w' v' (l ++ [moreN 0 l]) ∧ (∀ k, v'.ownBlock = some k → w.heap.size ≤ k) ∧ Below w.heap.size w w' := by
 obtain ⟨i0, hi, hz0, hz1, hz2⟩ := info_parts infoU64
 have hvv := hv
 have hv1 : ∃ sp cap, v = .slice sp l.length cap := by
  rcases hv with ⟨rfl, sp, cap, rfl⟩ | ⟨g, off, cap, rfl, _⟩
  ·exact ⟨_, _, rfl⟩
  exact ⟨_, _, rfl⟩
 obtain ⟨sp, cap, rfl⟩ := hv1
 have hn1 := lh (show ((l.length : Int) + 1) = ((l.length + 1 : Nat) : Int) by omega)
 go_enter Tryz.func112, Tryz.ntmps112
 go_wp2_with (at_make; refine wpList_make_full _ rfl _ _ 25 rfl w.heap.size 40 i0 (.int .u64 0) 1 Tryz.underlying25 hi hz0 hz1 .i64 .i64 _ _ (l.length + 1) rfl rfl hn1.out hn1.out (by rw [hz2]; omega) (by unfold maxLen; omega) (Nat.le_refl _) ?_; intro w1 hown hgr)
 have hrow := row_of_owns hown rfl
 rw [show (madeCells (Value.int IntKind.u64 0).cells ((l.length + 1) * 1)).toList = List.replicate (l.length + 1) (Value.int .u64 0) by
  rw [Nat.mul_one]; exact toList_madeCells_one _ _] at hrow
 have hB1 : Below w.heap.size w w1 := (Below.refl _ _).grown hgr (Nat.le_refl _) (by simp)
 obtain ⟨w2, hrun, hrow2, hb2⟩ := copyW l hrow (hvv.keep hB1)
 rw [show Nat.min l.length (l.length + 1) = l.length from Nat.min_eq_left (by omega), List.take_of_length_le (Nat.le_refl _), show l.length + 1 - l.length = 1 by omega] at hrow2
 rw [hrun]
 have hB2 : Below w.heap.size w w2 := hB1.trans hb2
 have hg2 : w.heap.size < w2.heap.size := (Array.getElem?_eq_some_iff.1 hrow2).1
 have hO := lh (of_any _ l w2 hl (by omega) (hvv.keep hB2))
 have hS2 := lh (hvv.keep hB2)
 have hR := lh (row_cell hrow2)
 clear hrun hrow hrow2 hown hgr hvv hb2 hB1
 go_wp2_with fail
 refine hO.out.mono ?_
 rintro e w3 ⟨rfl, hb3⟩
 have hB3 : Below w.heap.size w w3 := hB2.trans (hb3.mono hB2.size)
 have hc3 : w3.cell? ⟨w.heap.size, l.length, none⟩ = some (.int .u64 0) := by
  rw [(bcell hb3).1 _ _ hg2, (hR.out l.length).1]
  simp [wv]
 have hf3 : w3.frozen? ⟨w.heap.size, l.length, none⟩ = false := by rw [(bcell hb3).2 _ _ hg2]; exact (hR.out l.length).2
 have hm := moreN_lt 0 l
 generalize hmm : moreN 0 l = m at *
 replace hmm := lh hmm
 go_wp2_with fail
 go_ret
 refine ⟨_, rfl, ?_, fun k e => (by simp [Value.ownBlock] at e; omega), hB3.setCell (Nat.le_refl _) _⟩
 rw [hmm.out]
 refine .inr ⟨w.heap.size, 0, l.length + 1, by simp, ?_, by simp, fun i hi => ?_⟩
 ·have := Nat.lt_of_lt_of_le hg2 hb3.size
  simpa using this
 simp only [List.length_append, List.length_singleton] at hi
 rw [Nat.zero_add]
 by_cases e : i = l.length
 ·subst e
  rw [World.cell?_setCell_same _ _ _ hc3]
  simp
 rw [World.cell?_setCell_other _ _ _ _ (by intro h; simp only [Addr.mk.injEq] at h; omega), (bcell hb3).1 _ _ hg2, (hR.out i).1]
 have hi2 : i < l.length := by omega
 rw [List.getElem?_toArray, List.getElem?_append_left (by rw [wv_len]; exact hi2), wv_at l i hi2]
 simp [List.getD_eq_getElem?_getD, List.getElem?_append_left hi2]
theorem Encode_new (gn : Nat) (x : Ex) (w : World) (hg : gn < 18446744073709551616) (hx : KL .u64 w x.2.1 x.2.2) (hl : WL x.2.2) (hlen : x.2.2.length ≤ 800) (hr : rightB x = true) :
 Calls Tryz.prog 93 #[.int .u64 (gn : Nat), eV x] w fun e w' => ∃ v, e = .returned (.tuple #[v, .int .i64 0]) ∧ KL .u64 w' v (encW gn x.1.toNat x.2.2) ∧ (∀ k, v.ownBlock = some k → w.heap.size ≤ k) ∧ Below w.heap.size w w' := by
 obtain ⟨a, v, l⟩ := x
 obtain ⟨A, cap, hv, _⟩ := hx.form rfl
 simp only [] at hv
 subst hv
 have hrr := canB_iff.1 hr
 simp only [] at hrr hlen hl
 obtain ⟨a, rfl⟩ := Int.eq_ofNat_of_zero_le hrr.1
 obtain ⟨i0, hi, hz0, hz1, hz2⟩ := info_parts infoU64
 have hb0 : Below w.heap.size w (w.alloc (.cells #[.int .i64 (a : Nat), .slice A l.length cap] (136 : Nat))) := bZ _ _
 have hC := Right_any ((a : Int), .slice A l.length cap, l) _ (hx.keep hb0)
 rw [hr] at hC
 have kk := World.alloc_heap_new w (.cells #[.int .i64 (a : Nat), .slice A l.length cap] (136 : Nat))
 obtain ⟨n, hn⟩ : ∃ n, l.length = n := ⟨_, rfl⟩
 obtain ⟨f, hf⟩ : ∃ f, firstW gn a n = f := ⟨_, rfl⟩
 have hfl := firstW_lt gn a n (by omega) (by omega)
 have hE := lh (show encW gn ((a : Nat) : Int).toNat l = (f :: l) ++ [moreN 0 (f :: l)] from by unfold encW; rw [Int.toNat_natCast, hn, hf])
 have hWL : Hid (WL (f :: l)) := fun y hy => by
  rcases List.mem_cons.1 hy with rfl | hy
  ·rw [← hf]; exact hfl
  exact hl y hy
 have hF := lh (fun w' => first_any gn a n w' hg (by omega) (by omega))
 rw [hf] at hF
 simp only [hn, eV, eE] at hC kk hb0 ⊢
 have hn800 : n ≤ 800 := by omega
 have hnh := lh hn
 have hxh : Hid (KL .u64 w (.slice A n cap) l) := by
  have q : KL .u64 w (.slice A l.length cap) l := hx
  rw [hn] at q
  exact q
 clear hx hr hrr hlen hl hn hf hfl
 go_enter Tryz.func93, Tryz.ntmps93
 go_wp2_with (first
  | (go_at_call 144; refine hC.mono ?_; rintro e w1 ⟨rfl, hb⟩; clear hC
     have hb1 := hb0.trans (hb.mono (by simp))
     have k0 : w1.heap[w.heap.size]? = some (.cells #[.int .i64 (a : Nat), .slice A n cap] (136 : Nat) (0, 0)) := (hb.block _ (by simp)).trans kk
     have hs1 : w.heap.size < w1.heap.size := (Array.getElem?_eq_some_iff.1 k0).1
     obtain ⟨p1, z1⟩ := row_cell k0 1
     clear hb hb0 kk)
  | (at_make; refine wpList_make_own _ rfl _ _ 25 rfl w1.heap.size 40 i0 (.int .u64 0) 1 Tryz.underlying25 hi hz0 hz1 .i64 .i64 _ (n + 1) rfl rfl (by first | rfl | (go_num) | simp) (by rw [hz2]; omega) (by unfold maxLen; omega) (Nat.le_refl _) ?_; intro w2 hown hgr
     have hO2 : OwnU w2 w1.heap.size (.slice (some ⟨w1.heap.size, 0, none⟩) 0 (n + 1)) [] := hown
     have hb2 : Below w1.heap.size w1 w2 := (Below.refl _ _).grown hgr (Nat.le_refl _) (by simp)
     have k2 : w2.heap[w.heap.size]? = some (.cells #[.int .i64 (a : Nat), .slice A n cap] (136 : Nat) (0, 0)) := (hb2.block _ hs1).trans k0
     obtain ⟨p2, z2⟩ := row_cell k2 0
     obtain ⟨p3, z3⟩ := row_cell k2 1
     have hs2 := hb2.size
     obtain ⟨v3, w3, hr3, hO3, hb3⟩ := appW (hO2.keep (bZ _ (.cells #[.int .u64 (f : Nat)] (40 : Nat)))) (KL.one w2 f 40) (by rw [World.size_alloc]; omega) (by simp) (by simp)
     replace hO3 : OwnU w3 w1.heap.size v3 [f] := by simpa using hO3
     have hb3' : Below w1.heap.size w1 w3 := (hb2.trans ((bZ _ _).mono hb2.size)).trans hb3
     have k3 : w3.heap[w.heap.size]? = some (.cells #[.int .i64 (a : Nat), .slice A n cap] (136 : Nat) (0, 0)) := (hb3'.block _ hs1).trans k0
     obtain ⟨p4, z4⟩ := row_cell k3 1
     have hb3w := hb1.trans (hb3'.mono hb1.size)
     obtain ⟨v4, w4, hr4, hO4, hb4⟩ := appW hO3 (hxh.out.keep hb3w) hb3'.size (by simp) (by show l.length ≤ 1000000; rw [hnh.out]; omega)
     replace hO4 : OwnU w4 w1.heap.size v4 (f :: l) := hO4
     have hb4w := lh (hb3w.trans (hb4.mono hb1.size))
     have hSl := seal_new v4 (f :: l) w4 hWL.out (by rw [List.length_cons, hnh.out]; omega) hO4.kl.sl
     obtain ⟨A3, c3, hv3, _⟩ := hO3.form
     rw [List.length_singleton] at hv3
     subst hv3
     obtain ⟨A4, c4, hv4, _⟩ := hO4.form
     rw [List.length_cons, hnh.out] at hv4
     subst hv4
     clear hown hgr hO2 hO3 hO4 hb2 hb3 hb3' hb4 hb3w k0 k2 k3)
  | (go_at_call 145; refine (hF.out _).mono ?_; rintro e w5 ⟨rfl, rfl⟩)
  | (at_builtin; refine wpList_append_run rfl _ _ 25 rfl _ _ _ rfl rfl hr3 ?_; clear hr3)
  | (at_builtin; refine wpList_append_run rfl _ _ 25 rfl _ _ _ rfl rfl hr4 ?_; clear hr4)
  | (go_at_call 112; refine hSl.mono ?_; rintro e w6 ⟨v6, rfl, hS6, hn6, hb6⟩; clear hSl
     obtain ⟨sp6, c6, hv6⟩ := SL.form hS6
     rw [show (f :: l ++ [moreN 0 (f :: l)]).length = n + 2 from by simp only [List.length_append, List.length_cons, List.length_nil]; rw [hnh.out]] at hv6
     subst hv6))
 go_ret2
 exact ⟨_, rfl, by rw [hE.out]; exact hS6.kl, fun k e => Nat.le_trans hb4w.out.size (hn6 k e), hb4w.out.trans (hb6.mono hb4w.out.size)⟩
theorem enc_new (v : Value) (l : List Ox) (w : World) (hv : OPL w v l) (ho : OVs l) (hr : rightB_rd l = true) :
 Calls Tryz.prog 56 #[v] w fun e w' => ∃ v', e = .returned (.tuple #[v', .int .i64 0]) ∧ SL w' v' (encS l) ∧ (∀ k, v'.ownBlock = some k → w.heap.size ≤ k) ∧ Below w.heap.size w w' := by
 obtain ⟨hl19, hall⟩ := rightB_t hr
 have hR := right_any v l w (by omega) hv
 rw [hr] at hR
 replace hR := lh hR
 obtain ⟨n, hn⟩ : ∃ n, l.length = n := ⟨_, rfl⟩
 obtain ⟨A, cap, rfl, hC⟩ := hv.form hn
 obtain ⟨i0, hi, hz0, hz1, hz2⟩ := info_parts infoU64
 have hS := lh (fun k (hk : k < n) => show encW_rd (l.take (k + 1)) = encW_rd (l.take k) ++ [wN (l.getD k default), (l.getD k default).2.2] from encW_take l k (by omega))
 have hE := lh (show encW_rd (l.take n) = encW_rd l from by rw [List.take_of_length_le (by omega)])
 have hZ := lh (show encW_rd (l.take 0) = [] from by simp [encW_rd])
 have hLn := lh (fun k (hk : k ≤ n) => show (encW_rd (l.take k)).length = 2 * k from by rw [encW_len, List.length_take]; omega)
 have hW := lh (fun k (hk : k < n) => show wrongB (l.getD k default) = false ∧ (l.getD k default).2.2 < 18446744073709551616 from ⟨hall _ (by rw [List.getD_eq_getElem?_getD, List.getElem?_eq_getElem (by omega)]; exact List.getElem_mem _), ho.at k (by omega)⟩)
 have hSe := lh (fun v' w1 (h : OwnU w1 w.heap.size v' (encW_rd l)) => seal_new v' (encW_rd l) w1 (encW_WL hall ho) (by rw [encW_len]; omega) h.kl.sl)
 have hEs := lh (show encW_rd l ++ [moreN 0 (encW_rd l)] = encS l from rfl)
 replace hC := lh hC
 have hn9 : n ≤ 19 := by omega
 have h' : (n : Int) ≤ 19 := by omega
 replace hn := lh hn
 clear hv hr hall ho hl19
 have hm1 := lh (show (2 : Int) * (n : Int) = ((2 * n : Nat) : Int) from by omega)
 go_enter Tryz.func56, Tryz.ntmps56
 go_wp2_with fail
 refine hR.out.mono ?_
 rintro e w1 ⟨rfl, hb1⟩
 go_wp2_with (at_make; refine wpList_make_own _ rfl _ _ 25 rfl w.heap.size 40 i0 (.int .u64 0) 1 Tryz.underlying25 hi hz0 hz1 .i64 .i64 _ (2 * n) rfl rfl hm1.out (by rw [hz2]; omega) (by unfold maxLen; omega) hb1.size ?_; intro w2 hown hgr)
 have hB2 : Below w.heap.size w w2 := hb1.grown hgr hb1.size (by simp)
 have hO2 : OwnU w2 w.heap.size (.slice (some ⟨w1.heap.size, 0, none⟩) 0 (2 * n)) [] := hown
 clear hown hgr hb1 hR
 go_wp2_with fail
 go_loopw [19, 4] (fun i wd wr => ∃ (k : Nat) (J : List Nat), k ≤ n ∧ i = .int .i64 k ∧ Hid (J = encW_rd (l.take k)) ∧ OwnU wr w.heap.size wd J ∧ Below w.heap.size w wr) (fun i _ _ => n + 1 - (intOf i).toNat)
 case atStart => exact ⟨0, [], Nat.zero_le _, rfl, lh hZ.out.symm, hO2, hB2⟩
 clear hO2 hB2
 obtain ⟨k, J, hk, rfl, hJ, hown, hB⟩ := hrel
 by_cases hlt : k < n
 rotate_left
 ·have hR : J = encW_rd l := by
   have hkn : k = n := by omega
   rw [hJ.out, hkn, hE.out]
  subst hR
  obtain rfl : k = n := by omega
  clear hJ
  go_wp2_with fail
  refine (hSe.out _ _ hown).mono ?_
  rintro e w9 ⟨v9, rfl, hs9, hn9b, hb9⟩
  rw [hEs.out] at hs9
  have hB9 := hB.trans (hb9.mono hB.size)
  go_wp2_with fail
  go_ret2
  exact ⟨_, rfl, hs9, fun k e => Nat.le_trans hB.size (hn9b k e), hB9⟩
 obtain ⟨g, off, rfl, hcap, hgw, hg, c0, c1, c2⟩ := hC.out wr k hB hlt
 have hlt' : (k : Int) < (n : Int) := by omega
 have hs1 := hS.out k hlt
 have hJl : J.length = 2 * k := by rw [hJ.out]; exact hLn.out k hk
 obtain ⟨hw1, hov⟩ := hW.out k hlt
 rw [← hJ.out] at hs1
 generalize l.getD k default = o at *
 have hFi := fun w => first_any_rd o w hw1
 rw [wN_eq hw1] at hFi
 generalize wN o = wd at *
 obtain ⟨x, a, y⟩ := o
 unfold opV at hFi
 simp only [] at c0 c1 c2 hov hs1 hFi
 replace hFi := lh hFi
 replace hs1 := lh hs1
 clear hw1
 go_wp2_with fail
 obtain ⟨W, hW⟩ : ∃ W : World, W = wr.alloc (.cells #[.int .i64 x, .int .i64 a, .int .u64 (y : Nat)] (107 : Nat)) := ⟨_, rfl⟩
 have hbA : Below wr.heap.size wr W := by rw [hW]; exact bZ _ _
 have hkW : C3 W wr.heap.size (.int .i64 x) (.int .i64 a) (.int .u64 (y : Nat)) := by rw [hW]; exact C3.new _ _ _ _ _
 obtain ⟨b0, b1, b2⟩ := hkW
 rw [← hW]
 clear hW
 have hownW := hown.keep hbA
 have hBW := hB.trans (hbA.mono hB.size)
 clear hown hB hbA
 refine wp_region_tail (S := (fun w' => w'.cell? ⟨wr.heap.size, 0, none⟩ = some (.int .i64 x) ∧ w'.cell? ⟨wr.heap.size, 1, none⟩ = some (.int .i64 a) ∧ w'.cell? ⟨wr.heap.size, 2, none⟩ = some (.int .u64 (y : Nat)) ∧ Below W.heap.size W w')) (n := 6) (by kernel_rfl) ?_ (fun hHeld hInv => ?_) (by decide)
 ·(try dsimp only)
  (first | assumption | (exact ⟨b0, b1, b2, (Below.refl _ _).drew⟩) | ((try go_split_ands); exact ⟨cellK (by assumption) hb, cellK (by assumption) hb, cellK (by assumption) hb, Below.trans (by assumption) (hb.mono (Below.size (by assumption)))⟩))
 refine takeVS 0 hInv ?_; clear hInv; intro hInv
 refine takeVS 1 hInv ?_; clear hInv; intro hInv
 refine takeVS 3 hInv ?_; clear hInv; intro hInv
 refine takeVS 4 hInv ?_; clear hInv; intro hInv
 refine oneS 2 hInv (by decide) rfl (by kernel_rfl) (fun K hK => ?_)
 go_simp
 ((with_reducible refine (hFi.out _).mono ?_); rintro e w8 ⟨rfl, hb⟩)
 refine hK.out _ _ ?_ (fun hHeld2 hInv2 => ?_)
 ·(try dsimp only)
  (first | assumption | (exact ⟨b0, b1, b2, (Below.refl _ _).drew⟩) | ((try go_split_ands); exact ⟨cellK (by assumption) hb, cellK (by assumption) hb, cellK (by assumption) hb, Below.trans (by assumption) (hb.mono (Below.size (by assumption)))⟩))
 clear hK K hHeld hInv
 have hHeld := hHeld2
 have hInv := hInv2
 clear hHeld2 hInv2
 try simp only [Act.put,sA,sB,sC] at hInv ⊢
 refine oneS 5 hInv (by decide) rfl (by kernel_rfl) (fun K hK => ?_)
 go_simp
 have hb := bZ w8 (.cells #[.int .u64 (wd : Nat), .int .u64 (y : Nat)] (40 : Nat))
 refine hK.out _ _ ?_ (fun hHeld2 hInv2 => ?_)
 ·(try dsimp only)
  (first | assumption | (exact ⟨b0, b1, b2, (Below.refl _ _).drew⟩) | ((try go_split_ands); exact ⟨cellK (by assumption) hb, cellK (by assumption) hb, cellK (by assumption) hb, Below.trans (by assumption) (hb.mono (Below.size (by assumption)))⟩))
 clear hK K hHeld hInv
 have hHeld := hHeld2
 have hInv := hInv2
 clear hHeld2 hInv2
 try simp only [Act.put,sA,sB,sC] at hInv ⊢
 refine lastS 6 rfl (by decide) (by kernel_rfl) (fun K hK => ?_)
 obtain ⟨_, _, _, hbL⟩ := id hHeld
 have hB8 := hBW.trans (hbL.mono hBW.size)
 obtain ⟨v', w4, hrun, ho, hb4⟩ := appW (hownW.keep hbL) (KL.two w8 wd y (40 : Nat)) hB8.size (by omega) (by simp)
 rw [hs1.out.symm] at ho
 obtain ⟨J2, hJ2⟩ : ∃ J2, J2 = encW_rd (l.take (k + 1)) := ⟨_, rfl⟩
 rw [← hJ2] at ho
 replace hJ2 := lh hJ2
 have hBN := hB8.trans hb4
 clear hHeld hb4 hbL hs1 hownW hBW
 rw [if_pos (by rfl)]
 refine wp_append_run _ _ _ _ rfl _ _ _ rfl rfl hrun ?_
 refine hK.out _ _ ?_
 clear hK K
 try simp only [Act.put,sA,sB,sC]
 refine lastS 7 rfl (by decide) (by kernel_rfl) (fun K hK => ?_)
 go_simp
 refine hK.out _ _ ?_
 clear hK K
 try simp only [Act.put,sA,sB,sC]
 refine wpAnyS_done (by kernel_rfl) ?_ _
 clear hInv hrun hB8
 go_wp2_with fail
 go_roundw
 case rel => exact ⟨k + 1, _, by omega, by go_num, hJ2, ho, hBN⟩
 simp [intOf]; omega
end Go.Proofs.YtkkbngcgphlikaaGreatDoor
end
section
namespace Go.Proofs.YtkkbngcgphlikaaGreatDoor
open Go.RowKit
theorem places_nn {l : List Sp} (h : PBs l) : ∀ y ∈ placesL l, 0 ≤ y ∧ y ≤ 2199023255552 := fun y hy => by
 obtain ⟨x, hx, hy⟩ := List.mem_flatMap.1 hy
 obtain ⟨i, hi, rfl⟩ := List.mem_map.1 hy
 obtain ⟨h1, h2, h3, h4⟩ := h x hx
 have := List.mem_range.1 hi
 omega
end Go.Proofs.YtkkbngcgphlikaaGreatDoor
end
