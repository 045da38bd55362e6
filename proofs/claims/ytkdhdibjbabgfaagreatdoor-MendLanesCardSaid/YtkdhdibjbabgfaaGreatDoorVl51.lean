/-
  Part of the proof of MendLanes.
-/
import Derived.Test.YtkdhdibjbabgfaaGreatDoorVl15
import Derived.Test.YtkdhdibjbabgfaaGreatDoorVl41
import Derived.Test.YtkdhdibjbabgfaaGreatDoorVl49
import Derived.Test.YtkdhdibjbabgfaaGreatDoorVl50
import Derived.Test.YtkdhdibjbabgfaaGreatDoorVl0
set_option maxRecDepth 10000
set_option maxHeartbeats 4000000
set_option linter.unusedVariables false
set_option linter.unusedSimpArgs false
section
namespace Go.Proofs.YtkdhdibjbabgfaaGreatDoor
open Go.Lib Go.RowKit Go.ChangeShapes Go.WideShapes Go.Deep Go.Shelf
theorem rmkdec_t (x : Nat) (w : World) (hx : x < 18446744073709551616) (h : mkOk x = true) :
 Calls Tryz.prog 41 #[.int .u64 (x : Nat)] w fun e w' => e = .returned (.tuple #[.agg #[.int .i64 (mkS x : Nat), .int .i64 (mkC x : Nat), .int .u64 (mkG x : Nat)], .bool true]) ∧ Below w.heap.size w w' := by
 refine (refDecode_t (x : Nat) w (by omega) (by omega) (by rw [mkOk_i, h])).mono ?_
 rintro e w' ⟨rfl, hb⟩
 refine ⟨?_, hb⟩
 rw [show ((mkS x : Nat) : Int) = (x : Int) % 4 from by unfold mkS; omega, show ((mkC x : Nat) : Int) = (x : Int) / 4 % 16384 from by unfold mkC; omega, show ((mkG x : Nat) : Int) = (x : Int) / 65536 from by unfold mkG; omega]
theorem rmkdec_f (x : Nat) (w : World) (hx : x < 18446744073709551616) (h : mkOk x = false) :
 Calls Tryz.prog 41 #[.int .u64 (x : Nat)] w fun e w' => e = .returned (.tuple #[.agg #[.int .i64 0, .int .i64 0, .int .u64 0], .bool false]) ∧ Below w.heap.size w w' := by
 refine (refDecode_f (x : Nat) w (by omega) (by omega) (by rw [mkOk_i, h])).mono ?_
 rintro e w' ⟨rfl, hb⟩
 exact ⟨rfl, hb⟩
theorem rlane_yes (v : Value) (I : List Nat) (L ln : Nat) (w : World) (hw : Lw w) (hW : WL I) (hv : KL .u64 w v I) (hg : gOk (I.length : Nat) (L : Nat) = true) (hln : ln < L) (hN : I.length ≤ 800) (hlb : laneB I (I.length : Nat) (L : Nat) (ln : Nat) = true) :
 Calls Tryz.prog 14 #[v, .agg #[.int .i64 (I.length : Nat), .int .i64 (L : Nat)], .int .i64 (ln : Nat)] w fun e w' => ∃ v', e = .returned (.tuple #[v', .bool (laneD I L ln).isSome]) ∧ OPL w' v' ((laneD I L ln).getD []) ∧ Below w.heap.size w w' := by
 obtain ⟨nn, hnn⟩ : ∃ n, I.length = n := ⟨_, rfl⟩
 obtain ⟨s1, s2, s3, s4, s5, s6, s7, s8⟩ := pool_size hg
 obtain ⟨M, hM⟩ : ∃ M, 10 + ln = M := ⟨_, rfl⟩
 have hMn : M < nn := by omega
 obtain ⟨x, hx⟩ : ∃ x, I.getD M 0 = x := ⟨_, rfl⟩
 have hxl : x < 18446744073709551616 := by rw [← hx]; exact hW.getN M
 have hcl : mkC x < 16384 := by unfold mkC; omega
 have hgl : mkG x < 18446744073709551616 := by unfold mkG; omega
 have hNo := lh (fun s w1 (hb : Below w.heap.size w w1) => active_any v I L ln s (mkC x) (mkG x) w1 (hw.keep hb) hW (hv.keep hb) hg hln hN hcl hgl hlb)
 have hDe := lh (fun s w1 (hb : Below w.heap.size w w1) => redoing_any v I L ln s (mkC x) (mkG x) w1 hW (hv.keep hb) hg hln hcl)
 have hPo := lh (fun w1 (hb : Below w.heap.size w w1) => pool_any v I (I.length : Nat) (L : Nat) (ln : Nat) w1 (hw.keep hb) hW (hv.keep hb) (by omega))
 rw [hlb] at hPo
 have hMk := lh (fun w1 => show Calls Tryz.prog 35 #[.agg #[.int .i64 (nn : Nat), .int .i64 (L : Nat)], .int .i64 (ln : Nat)] w1 (fun e w' => e = .returned (.int .i64 (M : Nat)) ∧ Below w1.heap.size w1 w') from by
  have h := refMark_t (nn : Nat) (L : Nat) (ln : Nat) w1 (by unfold lOk; rw [← hnn, hg, Bool.true_and]; exact decide_eq_true (by omega))
  rw [show ((M : Nat) : Int) = 10 + (ln : Int) from by omega]
  exact h)
 have hl : laneD I L ln = (if mkOk x then (if mkS x = 1 then notedD I L ln (mkC x) (mkG x) else if mkS x = 2 then decidedD I L ln (mkC x) else some []) else none) := by unfold laneD; rw [hM, hx]
 obtain ⟨g, off, cap, rfl, hcap, hgs⟩ := hv.addr hnn (by omega)
 have hC := lh (fun w1 (hb : Below w.heap.size w w1) => show w1.cell? ⟨g, off + M, none⟩ = some (.int .u64 (x : Nat)) from by
  obtain ⟨A9, c9, hv9, hK9⟩ := hv.form hnn
  cases hv9
  obtain ⟨g2, o2, hA9, _, _, c0⟩ := hK9 w1 M hb hMn
  cases hA9
  rw [c0, hx])
 rw [hnn] at hNo hDe hPo
 rw [hnn]
 have hA := bZ w (.cells #[.int .i64 (nn : Nat), .int .i64 (L : Nat)] 33)
 have gG := HB.new w #[.int .i64 (nn : Nat), .int .i64 (L : Nat)] 33
 obtain ⟨C, hCC⟩ : ∃ C, w.heap.size = C := ⟨_, rfl⟩
 rw [hCC] at gG
 have hMn' : (M : Int) < (nn : Int) := by omega
 replace hnn := lh hnn
 replace hM := lh hM
 replace hx := lh hx
 clear hW hw hv hg
 cases hok : mkOk x with
 | false =>
   have hno := lh (show laneD I L ln = none from by rw [hl, hok]; rfl)
   have hD := lh (fun w1 => rmkdec_f x w1 hxl hok)
   clear hl hok hNo hDe
   go_enter Tryz.func14, Tryz.ntmps14
   obtain ⟨q0, q1⟩ := gG.c2
   go_wp2_with fail
   refine (hPo.out _ hA).mono ?_
   rintro e wp ⟨rfl, hbp⟩
   replace hA := hA.trans (hbp.mono hA.size)
   replace gG := gG.keep hbp
   clear q0 q1 hPo hbp
   obtain ⟨q0, q1⟩ := gG.c2
   go_wp2_with fail
   refine (hMk.out _).mono ?_
   rintro e w1 ⟨rfl, hb1⟩
   have hB1 := hA.trans (hb1.mono hA.size)
   have gG1 := gG.keep hb1
   have c1 := hC.out _ hB1
   clear q0 q1 hb1 hMk gG
   go_wp2_with fail
   refine (hD.out _).mono ?_
   rintro e w2 ⟨rfl, hb2⟩
   have hB2 := hB1.trans (hb2.mono hB1.size)
   have hb3 := bZ w2 (.cells #[.int .i64 0, .int .i64 0, .int .u64 0] 70)
   have hB3 := hB2.trans (hb3.mono hB2.size)
   have gG3 := (gG1.keep hb2).keep hb3
   have gM3 := HB.new w2 #[.int .i64 0, .int .i64 0, .int .u64 0] 70
   clear c1 hb2 hD gG1
   go_wp2_with fail
   go_ret2
   exact ⟨_, by rw [hno.out]; rfl, by rw [hno.out]; exact OPL.nil _, hB3⟩
 | true =>
   have hD := lh (fun w1 => rmkdec_t x w1 hxl hok)
   have hl2 : laneD I L ln = (if mkS x = 1 then notedD I L ln (mkC x) (mkG x) else if mkS x = 2 then decidedD I L ln (mkC x) else some []) := by rw [hl, hok]; rfl
   clear hl hok
   generalize mkC x = c at *
   generalize mkG x = gn at *
   by_cases h1 : mkS x = 1
   ·have hyes := lh (show laneD I L ln = notedD I L ln c gn from by rw [hl2, if_pos h1])
    rw [h1] at hD
    replace hD := lh (fun w1 => show Calls Tryz.prog 41 #[.int .u64 (x : Nat)] w1 (fun e w' => e = .returned (.tuple #[.agg #[.int .i64 1, .int .i64 (c : Nat), .int .u64 (gn : Nat)], .bool true]) ∧ Below w1.heap.size w1 w') from hD.out w1)
    replace hNo := lh (fun w1 (hb : Below w.heap.size w w1) => show Calls Tryz.prog 42 #[.slice (some ⟨g, off, none⟩) nn cap, .agg #[.int .i64 (nn : Nat), .int .i64 (L : Nat)], .int .i64 (ln : Nat), .agg #[.int .i64 1, .int .i64 (c : Nat), .int .u64 (gn : Nat)]] w1 (fun e w' => ∃ v', e = .returned (.tuple #[v', .bool (notedD I L ln c gn).isSome]) ∧ OPL w' v' ((notedD I L ln c gn).getD []) ∧ Below w1.heap.size w1 w') from hNo.out 1 w1 hb)
    clear hl2 hDe h1
    go_enter Tryz.func14, Tryz.ntmps14
    obtain ⟨q0, q1⟩ := gG.c2
    go_wp2_with fail
    refine (hPo.out _ hA).mono ?_
    rintro e wp ⟨rfl, hbp⟩
    replace hA := hA.trans (hbp.mono hA.size)
    replace gG := gG.keep hbp
    clear q0 q1 hPo hbp
    obtain ⟨q0, q1⟩ := gG.c2
    go_wp2_with fail
    refine (hMk.out _).mono ?_
    rintro e w1 ⟨rfl, hb1⟩
    have hB1 := hA.trans (hb1.mono hA.size)
    have gG1 := gG.keep hb1
    have c1 := hC.out _ hB1
    clear q0 q1 hb1 hMk gG
    go_wp2_with fail
    refine (hD.out _).mono ?_
    rintro e w2 ⟨rfl, hb2⟩
    have hB2 := hB1.trans (hb2.mono hB1.size)
    have hb3 := bZ w2 (.cells #[.int .i64 1, .int .i64 (c : Nat), .int .u64 (gn : Nat)] 70)
    have hB3 := hB2.trans (hb3.mono hB2.size)
    have gG3 := (gG1.keep hb2).keep hb3
    have gM3 := HB.new w2 #[.int .i64 1, .int .i64 (c : Nat), .int .u64 (gn : Nat)] 70
    clear c1 hb2 hD gG1
    obtain ⟨q0, q1⟩ := gG3.c2
    obtain ⟨m0, m1, m2⟩ : (w2.alloc (.cells #[.int .i64 1, .int .i64 (c : Nat), .int .u64 (gn : Nat)] 70)).cell? ⟨w2.heap.size, 0, none⟩ = some (.int .i64 1) ∧ (w2.alloc (.cells #[.int .i64 1, .int .i64 (c : Nat), .int .u64 (gn : Nat)] 70)).cell? ⟨w2.heap.size, 1, none⟩ = some (.int .i64 (c : Nat)) ∧ (w2.alloc (.cells #[.int .i64 1, .int .i64 (c : Nat), .int .u64 (gn : Nat)] 70)).cell? ⟨w2.heap.size, 2, none⟩ = some (.int .u64 (gn : Nat)) := ⟨(row_cell gM3 0).1, (row_cell gM3 1).1, (row_cell gM3 2).1⟩
    go_wp2_with fail
    refine (hNo.out _ hB3).mono ?_
    rintro e w4 ⟨v', rfl, hO, hb4⟩
    have hB4 := hB3.trans (hb4.mono hB3.size)
    clear q0 q1 m0 m1 m2 hNo hb4
    go_wp2_with fail
    go_ret2
    exact ⟨_, by rw [hyes.out]; rfl, by rw [hyes.out]; exact hO, hB4⟩
   by_cases h2 : mkS x = 2
   ·have hyes := lh (show laneD I L ln = decidedD I L ln c from by rw [hl2, if_neg h1, if_pos h2])
    rw [h2] at hD
    replace hD := lh (fun w1 => show Calls Tryz.prog 41 #[.int .u64 (x : Nat)] w1 (fun e w' => e = .returned (.tuple #[.agg #[.int .i64 2, .int .i64 (c : Nat), .int .u64 (gn : Nat)], .bool true]) ∧ Below w1.heap.size w1 w') from hD.out w1)
    replace hDe := lh (fun w1 (hb : Below w.heap.size w w1) => show Calls Tryz.prog 43 #[.slice (some ⟨g, off, none⟩) nn cap, .agg #[.int .i64 (nn : Nat), .int .i64 (L : Nat)], .int .i64 (ln : Nat), .agg #[.int .i64 2, .int .i64 (c : Nat), .int .u64 (gn : Nat)]] w1 (fun e w' => ∃ v', e = .returned (.tuple #[v', .bool (decidedD I L ln c).isSome]) ∧ OPL w' v' ((decidedD I L ln c).getD []) ∧ Below w1.heap.size w1 w') from hDe.out 2 w1 hb)
    clear hl2 hNo h1 h2
    go_enter Tryz.func14, Tryz.ntmps14
    obtain ⟨q0, q1⟩ := gG.c2
    go_wp2_with fail
    refine (hPo.out _ hA).mono ?_
    rintro e wp ⟨rfl, hbp⟩
    replace hA := hA.trans (hbp.mono hA.size)
    replace gG := gG.keep hbp
    clear q0 q1 hPo hbp
    obtain ⟨q0, q1⟩ := gG.c2
    go_wp2_with fail
    refine (hMk.out _).mono ?_
    rintro e w1 ⟨rfl, hb1⟩
    have hB1 := hA.trans (hb1.mono hA.size)
    have gG1 := gG.keep hb1
    have c1 := hC.out _ hB1
    clear q0 q1 hb1 hMk gG
    go_wp2_with fail
    refine (hD.out _).mono ?_
    rintro e w2 ⟨rfl, hb2⟩
    have hB2 := hB1.trans (hb2.mono hB1.size)
    have hb3 := bZ w2 (.cells #[.int .i64 2, .int .i64 (c : Nat), .int .u64 (gn : Nat)] 70)
    have hB3 := hB2.trans (hb3.mono hB2.size)
    have gG3 := (gG1.keep hb2).keep hb3
    have gM3 := HB.new w2 #[.int .i64 2, .int .i64 (c : Nat), .int .u64 (gn : Nat)] 70
    clear c1 hb2 hD gG1
    obtain ⟨q0, q1⟩ := gG3.c2
    obtain ⟨m0, m1, m2⟩ : (w2.alloc (.cells #[.int .i64 2, .int .i64 (c : Nat), .int .u64 (gn : Nat)] 70)).cell? ⟨w2.heap.size, 0, none⟩ = some (.int .i64 2) ∧ (w2.alloc (.cells #[.int .i64 2, .int .i64 (c : Nat), .int .u64 (gn : Nat)] 70)).cell? ⟨w2.heap.size, 1, none⟩ = some (.int .i64 (c : Nat)) ∧ (w2.alloc (.cells #[.int .i64 2, .int .i64 (c : Nat), .int .u64 (gn : Nat)] 70)).cell? ⟨w2.heap.size, 2, none⟩ = some (.int .u64 (gn : Nat)) := ⟨(row_cell gM3 0).1, (row_cell gM3 1).1, (row_cell gM3 2).1⟩
    go_wp2_with fail
    refine (hDe.out _ hB3).mono ?_
    rintro e w4 ⟨v', rfl, hO, hb4⟩
    have hB4 := hB3.trans (hb4.mono hB3.size)
    clear q0 q1 m0 m1 m2 hDe hb4
    go_wp2_with fail
    go_ret2
    exact ⟨_, by rw [hyes.out]; rfl, by rw [hyes.out]; exact hO, hB4⟩
   ·have hyes := lh (show laneD I L ln = some [] from by rw [hl2, if_neg h1, if_neg h2])
    generalize mkS x = st at *
    have h1' : ¬ ((st : Nat) : Int) = 1 := by omega
    have h2' : ¬ ((st : Nat) : Int) = 2 := by omega
    clear hl2 hNo hDe h1 h2
    go_enter Tryz.func14, Tryz.ntmps14
    obtain ⟨q0, q1⟩ := gG.c2
    go_wp2_with fail
    refine (hPo.out _ hA).mono ?_
    rintro e wp ⟨rfl, hbp⟩
    replace hA := hA.trans (hbp.mono hA.size)
    replace gG := gG.keep hbp
    clear q0 q1 hPo hbp
    obtain ⟨q0, q1⟩ := gG.c2
    go_wp2_with fail
    refine (hMk.out _).mono ?_
    rintro e w1 ⟨rfl, hb1⟩
    have hB1 := hA.trans (hb1.mono hA.size)
    have gG1 := gG.keep hb1
    have c1 := hC.out _ hB1
    clear q0 q1 hb1 hMk gG
    go_wp2_with fail
    refine (hD.out _).mono ?_
    rintro e w2 ⟨rfl, hb2⟩
    have hB2 := hB1.trans (hb2.mono hB1.size)
    have hb3 := bZ w2 (.cells #[.int .i64 (st : Nat), .int .i64 (c : Nat), .int .u64 (gn : Nat)] 70)
    have hB3 := hB2.trans (hb3.mono hB2.size)
    have gG3 := (gG1.keep hb2).keep hb3
    have gM3 := HB.new w2 #[.int .i64 (st : Nat), .int .i64 (c : Nat), .int .u64 (gn : Nat)] 70
    clear c1 hb2 hD gG1
    obtain ⟨q0, q1⟩ := gG3.c2
    obtain ⟨m0, m1, m2⟩ : (w2.alloc (.cells #[.int .i64 (st : Nat), .int .i64 (c : Nat), .int .u64 (gn : Nat)] 70)).cell? ⟨w2.heap.size, 0, none⟩ = some (.int .i64 (st : Nat)) ∧ (w2.alloc (.cells #[.int .i64 (st : Nat), .int .i64 (c : Nat), .int .u64 (gn : Nat)] 70)).cell? ⟨w2.heap.size, 1, none⟩ = some (.int .i64 (c : Nat)) ∧ (w2.alloc (.cells #[.int .i64 (st : Nat), .int .i64 (c : Nat), .int .u64 (gn : Nat)] 70)).cell? ⟨w2.heap.size, 2, none⟩ = some (.int .u64 (gn : Nat)) := ⟨(row_cell gM3 0).1, (row_cell gM3 1).1, (row_cell gM3 2).1⟩
    go_wp2_with fail
    go_ret2
    exact ⟨_, by rw [hyes.out]; rfl, by rw [hyes.out]; exact OPL.nil _, hB3⟩
theorem rlane_any (v : Value) (I : List Nat) (W L ln : Int) (w : World) (hw : Lw w) (hW : WL I) (hv : KL .u64 w v I) (hN : I.length ≤ 800) :
 Calls Tryz.prog 14 #[v, .agg #[.int .i64 W, .int .i64 L], .int .i64 ln] w fun e w' => ∃ v', e = .returned (.tuple #[v', .bool (laneP I W L ln).isSome]) ∧ OPL w' v' ((laneP I W L ln).getD []) ∧ Below w.heap.size w w' := by
 cases hl : laneB I W L ln with
 | true =>
   have h2 := hl
   unfold laneB at h2
   rw [Bool.and_eq_true] at h2
   obtain ⟨h3, h4⟩ := h2
   have h5 := of_decide_eq_true h4
   obtain ⟨hp, hW1, hL1⟩ := readB_t h3
   obtain ⟨n, rfl⟩ := Int.eq_ofNat_of_zero_le h5.1
   subst hW1
   subst hL1
   have hy : laneP I (I.length : Nat) (I.getD 3 0 : Nat) (n : Nat) = laneD I (I.getD 3 0) n := if_pos hl
   rw [hy]
   exact rlane_yes v I (I.getD 3 0) n w hw hW hv (gOk_pool (pool_t hp).1).2 (by omega) hN hl
 | false =>
   have hno := lh (show laneP I W L ln = none from if_neg (by rw [hl]; simp))
   have hA := bZ w (.cells #[.int .i64 W, .int .i64 L] 33)
   have hPo := lh (fun w1 (hb : Below w.heap.size w w1) => pool_any v I W L ln w1 (hw.keep hb) hW (hv.keep hb) (by omega))
   rw [hl] at hPo
   obtain ⟨q0, q1⟩ := C2.new w (.int .i64 W) (.int .i64 L) 33
   clear hl
   go_enter Tryz.func14, Tryz.ntmps14
   go_wp2_with fail
   refine (hPo.out _ hA).mono ?_
   rintro e w1 ⟨rfl, hb1⟩
   have hB1 := hA.trans (hb1.mono hA.size)
   clear hb1 hPo
   go_wp2_with fail
   go_ret2
   exact ⟨_, by rw [hno.out]; rfl, by rw [hno.out]; exact OPL.nil _, hB1⟩
end Go.Proofs.YtkdhdibjbabgfaaGreatDoor
end
section
namespace Go.Proofs.YtkdhdibjbabgfaaGreatDoor
open Go.Lib Go.RowKit Go.ChangeShapes Go.WideShapes Go.Deep Go.Shelf
theorem laneP_len {I : List Nat} (hW : WL I) (hN : I.length ≤ 800) (W L ln : Int) : ((laneP I W L ln).getD []).length ≤ 800 := by
 cases hm : laneP I W L ln with
 | none => show 0 ≤ 800; omega
 | some ops =>
   unfold laneP at hm
   split at hm
   ·rename_i hl
    unfold laneB at hl
    rw [Bool.and_eq_true] at hl
    obtain ⟨hp, _, hL⟩ := readB_t hl.1
    have h4 := of_decide_eq_true hl.2
    have hLn : L.toNat = I.getD 3 0 := by rw [hL]; simp
    rw [hLn] at hm
    exact (lane_bd hW (gOk_pool (pool_t hp).1).2 (by omega) hN hm).1
   ·cases hm
theorem logP_len {I : List Nat} (hN : I.length ≤ 800) (W L ln : Int) : (logP I W L ln).length ≤ 801 := by
 unfold logP
 split
 ·have h := logs_few (tabW I L.toNat) (ln.toNat : Nat)
  have h2 : (tabW I L.toNat).length ≤ I.length := by unfold tabW; rw [List.length_take, List.length_drop]; omega
  unfold logSp
  rw [List.length_cons, List.length_map]
  omega
 ·show 0 ≤ 801; omega
theorem mendLanes (g : Gx) (ln : Int) (w : World) (hw : Lw w) (hg : GOk w g) :
 Calls Tryz.prog 3 #[gxV g, .int .i64 ln] w fun e w' => e = .returned (.bool true) ∧ Below w.heap.size w w' := by
 obtain ⟨⟨vT, vF, vI, vS⟩, xs, p⟩ := g
 obtain ⟨hM, hB⟩ := hg
 simp only [] at hM hB
 obtain ⟨AT, nT, cT, AF, nF, cF, AI, nI, cI, AS, nS, cS, rfl, rfl, rfl, rfl⟩ := hM.sl
 have hA := bZ w (.cells #[.int .u8 (p.a : Nat), .int .u8 (p.b : Nat), .slice AT nT cT, .slice AF nF cF, .slice AI nI cI, .int .u64 (p.root : Nat), .int .u64 (p.epoch : Nat), .slice AS nS cS] 28)
 have gA := HB.new w #[.int .u8 (p.a : Nat), .int .u8 (p.b : Nat), .slice AT nT cT, .slice AF nF cF, .slice AI nI cI, .int .u64 (p.root : Nat), .int .u64 (p.epoch : Nat), .slice AS nS cS] 28
 obtain ⟨wa, hwa⟩ : ∃ x, w.alloc (.cells #[.int .u8 (p.a : Nat), .int .u8 (p.b : Nat), .slice AT nT cT, .slice AF nF cF, .slice AI nI cI, .int .u64 (p.root : Nat), .int .u64 (p.epoch : Nat), .slice AS nS cS] 28) = x := ⟨_, rfl⟩
 have hsa : wa.heap.size = w.heap.size + 1 := by rw [← hwa]; simp
 rw [hwa] at hA gA
 have hAw := awake15 wa (hw.keep hA)
 have hFe := lh (fun w1 (hb : Below w.heap.size w w1) => few_any15 p _ _ _ _ xs w1 (hM.keep hb))
 have hMk := lh (fun w1 (hb : Below w.heap.size w w1) (hf : fewB p = true) => make_any p _ _ _ _ xs w1 (hw.keep hb) (hM.keep hb) hB hf)
 have hGe := lh (fun w1 => geom_any p AT AF AI AS nT cT nF cF nI cI nS cS w1 hB)
 obtain ⟨hl1, hl2⟩ := gv_len p
 obtain ⟨N, hN⟩ : ∃ N, gvN p = N := ⟨_, rfl⟩
 obtain ⟨L, hL⟩ : ∃ L, gvL p = L := ⟨_, rfl⟩
 have hL3 : L ≤ 3 := by have := gv_geo p; omega
 have hL1 : 1 ≤ L := by have := gv_geo p; omega
 rw [hN] at hl1 hl2
 rw [hN, hL] at hGe
 have hwk := lh (fun w1 (hb : Below w.heap.size w w1) => hw.keep hb)
 obtain ⟨I, hI⟩ : ∃ I, makeL p = I := ⟨_, rfl⟩
 rw [hI] at hl1 hMk
 replace hI := lh hI
 replace hN := lh hN
 replace hL := lh hL
 replace hl1 := lh hl1
 show Calls Tryz.prog _ #[.agg #[.int .u8 (p.a : Nat), .int .u8 (p.b : Nat), .slice AT nT cT, .slice AF nF cF, .slice AI nI cI, .int .u64 (p.root : Nat), .int .u64 (p.epoch : Nat), .slice AS nS cS], .int .i64 ln] w _
 unfold gvV at hFe hMk hGe
 clear hM hB hw
 go_enter Tryz.func3, Tryz.ntmps3
 subst hwa
 go_wp2_with fail
 refine hAw.mono ?_
 rintro e w1 ⟨rfl, hb1⟩
 have hA1 := hA.trans (hb1.mono hA.size)
 have gA1 := gA.keep hb1
 have p0 := (row_cell gA1 0).1
 have p1 := (row_cell gA1 1).1
 have p2 := (row_cell gA1 2).1
 have p3 := (row_cell gA1 3).1
 have p4 := (row_cell gA1 4).1
 have p5 := (row_cell gA1 5).1
 have p6 := (row_cell gA1 6).1
 have p7 := (row_cell gA1 7).1
 clear hAw gA hA hb1
 go_wp2_with fail
 refine (hFe.out _ hA1).mono ?_
 rintro e w2 ⟨rfl, hb2⟩
 have hA2 := hA1.trans (hb2.mono hA1.size)
 have gA2 := gA1.keep hb2
 clear p0 p1 p2 p3 p4 p5 p6 p7 gA1 hA1 hb2
 have p0 := (row_cell gA2 0).1
 have p1 := (row_cell gA2 1).1
 have p2 := (row_cell gA2 2).1
 have p3 := (row_cell gA2 3).1
 have p4 := (row_cell gA2 4).1
 have p5 := (row_cell gA2 5).1
 have p6 := (row_cell gA2 6).1
 have p7 := (row_cell gA2 7).1
 cases hfew : fewB p with
 | false =>
   go_wp2_with fail
   go_ret
   exact ⟨rfl, hA2⟩
 | true =>
   have hMk2 := hMk.out _ hA2 hfew
   clear hMk hFe hfew
   go_wp2_with fail
   refine hMk2.mono ?_
   rintro e w3 ⟨v3, rfl, hO3, hW, hb3⟩
   have hA3 := hA2.trans (hb3.mono hA2.size)
   have gA3 := gA2.keep hb3
   clear p0 p1 p2 p3 p4 p5 p6 p7 gA2 hMk2
   obtain ⟨A3, c3, rfl⟩ := hO3.sl hl1.out
   have p0 := (row_cell gA3 0).1
   have p1 := (row_cell gA3 1).1
   have p2 := (row_cell gA3 2).1
   have p3 := (row_cell gA3 3).1
   have p4 := (row_cell gA3 4).1
   have p5 := (row_cell gA3 5).1
   have p6 := (row_cell gA3 6).1
   have p7 := (row_cell gA3 7).1
   go_wp2_with fail
   refine (hGe.out _).mono ?_
   rintro e w5 ⟨rfl, hb5⟩
   have hA5 := hA3.trans (hb5.mono hA3.size)
   have hO5 := hO3.keep hb5
   have gG := HB.new w5 #[.int .i64 (N : Nat), .int .i64 (L : Nat)] 33
   have e6 := bZ w5 (.cells #[.int .i64 (N : Nat), .int .i64 (L : Nat)] 33)
   have hO6 := hO5.keep e6
   have hA6 := hA5.trans (e6.mono hA5.size)
   obtain ⟨w6, hw6⟩ : ∃ x, w5.alloc (.cells #[.int .i64 (N : Nat), .int .i64 (L : Nat)] 33) = x := ⟨_, rfl⟩
   obtain ⟨G, hGs⟩ : ∃ G, w5.heap.size = G := ⟨_, rfl⟩
   rw [hw6, hGs] at gG
   rw [hw6] at hO6 hA6
   obtain ⟨q0, q1⟩ := gG.c2
   have hI8 : I.length ≤ 800 := by have := hl1.out; omega
   have hI4 := pool40 hI8
   have hLa := mlane_any (.slice A3 N c3) I (N : Nat) (L : Nat) ln w6 (hwk.out _ hA6) hW.out hO6.kl hI8
   have hpl := laneP_len hW.out hI8 (N : Nat) (L : Nat) ln
   have hgl := logP_len hI8 (N : Nat) (L : Nat) ln
   clear p0 p1 p2 p3 p4 p5 p6 p7 gA3 hA5 hA3 hA2 hO3 hO5 hb5 e6 hGe
   subst hw6
   go_wp2_with fail
   refine hLa.mono ?_
   rintro e w7 ⟨v7, rfl, hO7, hb7⟩
   have hA7 := hA6.trans (hb7.mono hA6.size)
   have hU7 := hO6.keep hb7
   have g7 := gG.keep hb7
   have hLb := rlane_any (.slice A3 N c3) I (N : Nat) (L : Nat) ln w7 (hwk.out _ hA7) hW.out hU7.kl hI8
   clear q0 q1 hLa hO6 hA6 gG hb7
   obtain ⟨q0, q1⟩ := g7.c2
   go_wp2_with fail
   refine hLb.mono ?_
   rintro e w8 ⟨v8, rfl, hO8, hb8⟩
   have hA8 := hA7.trans (hb8.mono hA7.size)
   have hU8 := hU7.keep hb8
   have g8 := g7.keep hb8
   have hP8 := OPL.keep hO7 hb8
   clear q0 q1 hLb hU7 hA7 g7 hb8 hO7
   have hSa := lh (fun w9 (hb : Below w8.heap.size w8 w9) => opsame_any v7 v8 _ _ w9 (by omega) (OPL.keep hP8 hb) (OPL.keep hO8 hb))
   rw [decide_eq_true rfl] at hSa
   have hLo := lh (fun w9 (hb : Below w8.heap.size w8 w9) => log_any (.slice A3 N c3) I (N : Nat) (L : Nat) ln w9 (hwk.out _ (hA8.trans (hb.mono hA8.size))) hW.out (hU8.keep hb).kl hI4)
   have hLr := lh (fun w9 (hb : Below w8.heap.size w8 w9) => rlog_any (.slice A3 N c3) I (N : Nat) (L : Nat) ln w9 (hwk.out _ (hA8.trans (hb.mono hA8.size))) hW.out (hU8.keep hb).kl (by omega) hI4)
   have hSp := lh (fun w9 v u (h1 : PL w9 v (logP I (N : Nat) (L : Nat) ln)) (h2 : PL w9 u (logP I (N : Nat) (L : Nat) ln)) => same_any_pc v u _ _ w9 (by omega) h1 h2)
   rw [decide_eq_true rfl] at hSp
   have hCF := lh (fun w9 (hb : Below w8.heap.size w8 w9) => show w9.cell? ⟨G, 0, none⟩ = some (.int .i64 (N : Nat)) ∧ w9.cell? ⟨G, 1, none⟩ = some (.int .i64 (L : Nat)) from (g8.keep hb).c2)
   generalize (laneP I (N : Nat) (L : Nat) ln).isSome = sm at *
   generalize (laneP I (N : Nat) (L : Nat) ln).getD [] = P at *
   generalize logP I (N : Nat) (L : Nat) ln = Q at *
   clear hI4 hpl hgl hP8 hO8 hU8 g8 hW
   go_wp2_with fail
   refine wp_region_held_drew (S := (fun w' => Below w8.heap.size w8 w')) (by kernel_rfl) (Below.refl _ _).drew (fun hHeld => ?_)
   refine takeH 0 ?_
   refine takeH 1 ?_
   refine takeH 2 ?_
   refine takeH 3 ?_
   refine takeH 4 ?_
   refine takeH 5 ?_
   refine takeH 6 ?_
   refine takeH 7 ?_
   refine takeH 8 ?_
   refine oneL 9 rfl (by kernel_rfl) (fun K hK => ?_)
   go_simp
   refine (hSa.out _ hHeld).mono ?_; rintro e w9 ⟨rfl, hb⟩
   refine hK.out _ _ (hHeld.trans (hb.mono hHeld.size)) (fun hHeld2 => ?_)
   clear hK K hHeld
   have hHeld := hHeld2
   clear hHeld2
   try simp only [Act.put,sA,sB,sC]
   refine takeH 10 ?_
   refine takeH 11 ?_
   refine takeH 12 ?_
   refine takeH 13 ?_
   refine takeH 14 ?_
   refine takeH 16 ?_
   refine takeH 17 ?_
   refine takeH 18 ?_
   refine oneL 15 rfl (by kernel_rfl) (fun K hK => ?_)
   go_simp
   refine (hLo.out _ hHeld).mono ?_; rintro e w10 ⟨v10, rfl, hQ10, hb⟩
   refine hK.out _ _ (hHeld.trans (hb.mono hHeld.size)) (fun hHeld2 => ?_)
   clear hK K hHeld
   have hHeld := hHeld2
   clear hHeld2
   try simp only [Act.put,sA,sB,sC]
   refine oneL 19 rfl (by kernel_rfl) (fun K hK => ?_)
   go_simp
   refine (hLr.out _ hHeld).mono ?_; rintro e w11 ⟨v11, rfl, hQ11, hb⟩
   have hPa := hQ10.keep hb
   have hPb := hQ11
   refine hK.out _ _ (hHeld.trans (hb.mono hHeld.size)) (fun hHeld2 => ?_)
   clear hK K hHeld
   have hHeld := hHeld2
   clear hHeld2
   try simp only [Act.put,sA,sB,sC]
   refine oneL 20 rfl (by kernel_rfl) (fun K hK => ?_)
   go_simp
   refine (hSp.out _ _ _ hPa.pl hPb.pl).mono ?_; rintro e w12 ⟨rfl, hb⟩
   refine hK.out _ _ (hHeld.trans (hb.mono hHeld.size)) (fun hHeld2 => ?_)
   clear hK K hHeld
   have hHeld := hHeld2
   clear hHeld2
   try simp only [Act.put,sA,sB,sC]
   refine takeH 21 ?_
   refine takeH 22 ?_
   refine wpAnyH_done (by kernel_rfl) ?_ _
   have hAe := hA8.trans (hHeld.mono hA8.size)
   go_wp2_with fail
   go_ret
   exact ⟨by simp, hAe⟩
end Go.Proofs.YtkdhdibjbabgfaaGreatDoor
end
