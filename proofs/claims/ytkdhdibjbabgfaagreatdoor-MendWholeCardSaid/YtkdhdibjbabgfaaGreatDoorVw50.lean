/-
  Part of the proof of MendWhole.
-/
import Derived.Test.YtkdhdibjbabgfaaGreatDoorVw42
import Derived.Test.YtkdhdibjbabgfaaGreatDoorVw49
import Derived.Test.YtkdhdibjbabgfaaGreatDoorVw0
set_option maxRecDepth 100000
set_option maxHeartbeats 2000000
set_option linter.unusedVariables false
set_option linter.unusedSimpArgs false
section
namespace Go.Proofs.YtkdhdibjbabgfaaGreatDoor
open Go.Lib Go.RowKit Go.ChangeShapes Go.WideShapes Go.Deep Go.Shelf
theorem rmkdec_t (x : Nat) (w : World) (hx : x < 18446744073709551616) (h : mkOk x = true) :
 Calls Tryz.prog 41 #[.int .u64 (x : Nat)] w fun e w' => e = .returned (.tuple #[.agg #[.int .i64 (mkS x : Nat), .int .i64 (mkC x : Nat), .int .u64 (mkG x : Nat)], .bool true]) ∧ Below w.heap.size w w' := by
 refine (refDecode_t (x : Nat) w (by omega) (by omega) (by rw [mkOk_i, h])).mono ?_
 rintro e w' ⟨rfl, hb⟩
 refine ⟨?_, hb⟩
 rw [show ((mkS x : Nat) : Int) = (x : Int) % 4 from by unfold mkS; omega, show ((mkC x : Nat) : Int) = (x : Int) / 4 % 16384 from by unfold mkC; omega, show ((mkG x : Nat) : Int) = (x : Int) / 65536 from by unfold mkG; omega]
theorem rmkdec_f (x : Nat) (w : World) (hx : x < 18446744073709551616) (h : mkOk x = false) :
 Calls Tryz.prog 41 #[.int .u64 (x : Nat)] w fun e w' => e = .returned (.tuple #[.agg #[.int .i64 0, .int .i64 0, .int .u64 0], .bool false]) ∧ Below w.heap.size w w' := by
 refine (refDecode_f (x : Nat) w (by omega) (by omega) (by rw [mkOk_i, h])).mono ?_
 rintro e w' ⟨rfl, hb⟩
 exact ⟨rfl, hb⟩
theorem rlane_yes (v : Value) (I : List Nat) (L ln : Nat) (w : World) (hw : Lw w) (hW : WL I) (hv : KL .u64 w v I) (hg : gOk (I.length : Nat) (L : Nat) = true) (hln : ln < L) (hN : I.length ≤ 800) (hlb : laneB I (I.length : Nat) (L : Nat) (ln : Nat) = true) :
 Calls Tryz.prog 14 #[v, .agg #[.int .i64 (I.length : Nat), .int .i64 (L : Nat)], .int .i64 (ln : Nat)] w fun e w' => ∃ v', e = .returned (.tuple #[v', .bool (laneD I L ln).isSome]) ∧ OPL w' v' ((laneD I L ln).getD []) ∧ Below w.heap.size w w' := by
 obtain ⟨nn, hnn⟩ : ∃ n, I.length = n := ⟨_, rfl⟩
 obtain ⟨s1, s2, s3, s4, s5, s6, s7, s8⟩ := pool_size hg
 obtain ⟨M, hM⟩ : ∃ M, 10 + ln = M := ⟨_, rfl⟩
 have hMn : M < nn := by omega
 obtain ⟨x, hx⟩ : ∃ x, I.getD M 0 = x := ⟨_, rfl⟩
 have hxl : x < 18446744073709551616 := by rw [← hx]; exact hW.getN M
 have hcl : mkC x < 16384 := by unfold mkC; omega
 have hgl : mkG x < 18446744073709551616 := by unfold mkG; omega
 have hNo := lh (fun s w1 (hb : Below w.heap.size w w1) => active_any v I L ln s (mkC x) (mkG x) w1 (hw.keep hb) hW (hv.keep hb) hg hln hN hcl hgl hlb)
 have hDe := lh (fun s w1 (hb : Below w.heap.size w w1) => redoing_any v I L ln s (mkC x) (mkG x) w1 hW (hv.keep hb) hg hln hcl)
 have hPo := lh (fun w1 (hb : Below w.heap.size w w1) => pool_any v I (I.length : Nat) (L : Nat) (ln : Nat) w1 (hw.keep hb) hW (hv.keep hb) (by omega))
 rw [hlb] at hPo
 have hMk := lh (fun w1 => show Calls Tryz.prog 35 #[.agg #[.int .i64 (nn : Nat), .int .i64 (L : Nat)], .int .i64 (ln : Nat)] w1 (fun e w' => e = .returned (.int .i64 (M : Nat)) ∧ Below w1.heap.size w1 w') from by
  have h := refMark_t (nn : Nat) (L : Nat) (ln : Nat) w1 (by unfold lOk; rw [← hnn, hg, Bool.true_and]; exact decide_eq_true (by omega))
  rw [show ((M : Nat) : Int) = 10 + (ln : Int) from by omega]
  exact h)
 have hl : laneD I L ln = (if mkOk x then (if mkS x = 1 then notedD I L ln (mkC x) (mkG x) else if mkS x = 2 then decidedD I L ln (mkC x) else some []) else none) := by unfold laneD; rw [hM, hx]
 obtain ⟨g, off, cap, rfl, hcap, hgs⟩ := hv.addr hnn (by omega)
 have hC := lh (fun w1 (hb : Below w.heap.size w w1) => show w1.cell? ⟨g, off + M, none⟩ = some (.int .u64 (x : Nat)) from by
  obtain ⟨A9, c9, hv9, hK9⟩ := hv.form hnn
  cases hv9
  obtain ⟨g2, o2, hA9, _, _, c0⟩ := hK9 w1 M hb hMn
  cases hA9
  rw [c0, hx])
 rw [hnn] at hNo hDe hPo
 rw [hnn]
 have hA := bZ w (.cells #[.int .i64 (nn : Nat), .int .i64 (L : Nat)] 33)
 have gG := HB.new w #[.int .i64 (nn : Nat), .int .i64 (L : Nat)] 33
 obtain ⟨C, hCC⟩ : ∃ C, w.heap.size = C := ⟨_, rfl⟩
 rw [hCC] at gG
 have hMn' : (M : Int) < (nn : Int) := by omega
 replace hnn := lh hnn
 replace hM := lh hM
 replace hx := lh hx
 clear hW hw hv hg
 cases hok : mkOk x with
 | false =>
   have hno := lh (show laneD I L ln = none from by rw [hl, hok]; rfl)
   have hD := lh (fun w1 => rmkdec_f x w1 hxl hok)
   clear hl hok hNo hDe
   go_enter Tryz.func14, Tryz.ntmps14
   obtain ⟨q0, q1⟩ := gG.c2
   go_wp2_with fail
   refine (hPo.out _ hA).mono ?_
   rintro e wp ⟨rfl, hbp⟩
   replace hA := hA.trans (hbp.mono hA.size)
   replace gG := gG.keep hbp
   clear q0 q1 hPo hbp
   obtain ⟨q0, q1⟩ := gG.c2
   go_wp2_with fail
   refine (hMk.out _).mono ?_
   rintro e w1 ⟨rfl, hb1⟩
   have hB1 := hA.trans (hb1.mono hA.size)
   have gG1 := gG.keep hb1
   have c1 := hC.out _ hB1
   clear q0 q1 hb1 hMk gG
   go_wp2_with fail
   refine (hD.out _).mono ?_
   rintro e w2 ⟨rfl, hb2⟩
   have hB2 := hB1.trans (hb2.mono hB1.size)
   have hb3 := bZ w2 (.cells #[.int .i64 0, .int .i64 0, .int .u64 0] 70)
   have hB3 := hB2.trans (hb3.mono hB2.size)
   have gG3 := (gG1.keep hb2).keep hb3
   have gM3 := HB.new w2 #[.int .i64 0, .int .i64 0, .int .u64 0] 70
   clear c1 hb2 hD gG1
   go_wp2_with fail
   go_ret2
   exact ⟨_, by rw [hno.out]; rfl, by rw [hno.out]; exact OPL.nil _, hB3⟩
 | true =>
   have hD := lh (fun w1 => rmkdec_t x w1 hxl hok)
   have hl2 : laneD I L ln = (if mkS x = 1 then notedD I L ln (mkC x) (mkG x) else if mkS x = 2 then decidedD I L ln (mkC x) else some []) := by rw [hl, hok]; rfl
   clear hl hok
   generalize mkC x = c at *
   generalize mkG x = gn at *
   by_cases h1 : mkS x = 1
   ·have hyes := lh (show laneD I L ln = notedD I L ln c gn from by rw [hl2, if_pos h1])
    rw [h1] at hD
    replace hD := lh (fun w1 => show Calls Tryz.prog 41 #[.int .u64 (x : Nat)] w1 (fun e w' => e = .returned (.tuple #[.agg #[.int .i64 1, .int .i64 (c : Nat), .int .u64 (gn : Nat)], .bool true]) ∧ Below w1.heap.size w1 w') from hD.out w1)
    replace hNo := lh (fun w1 (hb : Below w.heap.size w w1) => show Calls Tryz.prog 42 #[.slice (some ⟨g, off, none⟩) nn cap, .agg #[.int .i64 (nn : Nat), .int .i64 (L : Nat)], .int .i64 (ln : Nat), .agg #[.int .i64 1, .int .i64 (c : Nat), .int .u64 (gn : Nat)]] w1 (fun e w' => ∃ v', e = .returned (.tuple #[v', .bool (notedD I L ln c gn).isSome]) ∧ OPL w' v' ((notedD I L ln c gn).getD []) ∧ Below w1.heap.size w1 w') from hNo.out 1 w1 hb)
    clear hl2 hDe h1
    go_enter Tryz.func14, Tryz.ntmps14
    obtain ⟨q0, q1⟩ := gG.c2
    go_wp2_with fail
    refine (hPo.out _ hA).mono ?_
    rintro e wp ⟨rfl, hbp⟩
    replace hA := hA.trans (hbp.mono hA.size)
    replace gG := gG.keep hbp
    clear q0 q1 hPo hbp
    obtain ⟨q0, q1⟩ := gG.c2
    go_wp2_with fail
    refine (hMk.out _).mono ?_
    rintro e w1 ⟨rfl, hb1⟩
    have hB1 := hA.trans (hb1.mono hA.size)
    have gG1 := gG.keep hb1
    have c1 := hC.out _ hB1
    clear q0 q1 hb1 hMk gG
    go_wp2_with fail
    refine (hD.out _).mono ?_
    rintro e w2 ⟨rfl, hb2⟩
    have hB2 := hB1.trans (hb2.mono hB1.size)
    have hb3 := bZ w2 (.cells #[.int .i64 1, .int .i64 (c : Nat), .int .u64 (gn : Nat)] 70)
    have hB3 := hB2.trans (hb3.mono hB2.size)
    have gG3 := (gG1.keep hb2).keep hb3
    have gM3 := HB.new w2 #[.int .i64 1, .int .i64 (c : Nat), .int .u64 (gn : Nat)] 70
    clear c1 hb2 hD gG1
    obtain ⟨q0, q1⟩ := gG3.c2
    obtain ⟨m0, m1, m2⟩ : (w2.alloc (.cells #[.int .i64 1, .int .i64 (c : Nat), .int .u64 (gn : Nat)] 70)).cell? ⟨w2.heap.size, 0, none⟩ = some (.int .i64 1) ∧ (w2.alloc (.cells #[.int .i64 1, .int .i64 (c : Nat), .int .u64 (gn : Nat)] 70)).cell? ⟨w2.heap.size, 1, none⟩ = some (.int .i64 (c : Nat)) ∧ (w2.alloc (.cells #[.int .i64 1, .int .i64 (c : Nat), .int .u64 (gn : Nat)] 70)).cell? ⟨w2.heap.size, 2, none⟩ = some (.int .u64 (gn : Nat)) := ⟨(row_cell gM3 0).1, (row_cell gM3 1).1, (row_cell gM3 2).1⟩
    go_wp2_with fail
    refine (hNo.out _ hB3).mono ?_
    rintro e w4 ⟨v', rfl, hO, hb4⟩
    have hB4 := hB3.trans (hb4.mono hB3.size)
    clear q0 q1 m0 m1 m2 hNo hb4
    go_wp2_with fail
    go_ret2
    exact ⟨_, by rw [hyes.out]; rfl, by rw [hyes.out]; exact hO, hB4⟩
   by_cases h2 : mkS x = 2
   ·have hyes := lh (show laneD I L ln = decidedD I L ln c from by rw [hl2, if_neg h1, if_pos h2])
    rw [h2] at hD
    replace hD := lh (fun w1 => show Calls Tryz.prog 41 #[.int .u64 (x : Nat)] w1 (fun e w' => e = .returned (.tuple #[.agg #[.int .i64 2, .int .i64 (c : Nat), .int .u64 (gn : Nat)], .bool true]) ∧ Below w1.heap.size w1 w') from hD.out w1)
    replace hDe := lh (fun w1 (hb : Below w.heap.size w w1) => show Calls Tryz.prog 43 #[.slice (some ⟨g, off, none⟩) nn cap, .agg #[.int .i64 (nn : Nat), .int .i64 (L : Nat)], .int .i64 (ln : Nat), .agg #[.int .i64 2, .int .i64 (c : Nat), .int .u64 (gn : Nat)]] w1 (fun e w' => ∃ v', e = .returned (.tuple #[v', .bool (decidedD I L ln c).isSome]) ∧ OPL w' v' ((decidedD I L ln c).getD []) ∧ Below w1.heap.size w1 w') from hDe.out 2 w1 hb)
    clear hl2 hNo h1 h2
    go_enter Tryz.func14, Tryz.ntmps14
    obtain ⟨q0, q1⟩ := gG.c2
    go_wp2_with fail
    refine (hPo.out _ hA).mono ?_
    rintro e wp ⟨rfl, hbp⟩
    replace hA := hA.trans (hbp.mono hA.size)
    replace gG := gG.keep hbp
    clear q0 q1 hPo hbp
    obtain ⟨q0, q1⟩ := gG.c2
    go_wp2_with fail
    refine (hMk.out _).mono ?_
    rintro e w1 ⟨rfl, hb1⟩
    have hB1 := hA.trans (hb1.mono hA.size)
    have gG1 := gG.keep hb1
    have c1 := hC.out _ hB1
    clear q0 q1 hb1 hMk gG
    go_wp2_with fail
    refine (hD.out _).mono ?_
    rintro e w2 ⟨rfl, hb2⟩
    have hB2 := hB1.trans (hb2.mono hB1.size)
    have hb3 := bZ w2 (.cells #[.int .i64 2, .int .i64 (c : Nat), .int .u64 (gn : Nat)] 70)
    have hB3 := hB2.trans (hb3.mono hB2.size)
    have gG3 := (gG1.keep hb2).keep hb3
    have gM3 := HB.new w2 #[.int .i64 2, .int .i64 (c : Nat), .int .u64 (gn : Nat)] 70
    clear c1 hb2 hD gG1
    obtain ⟨q0, q1⟩ := gG3.c2
    obtain ⟨m0, m1, m2⟩ : (w2.alloc (.cells #[.int .i64 2, .int .i64 (c : Nat), .int .u64 (gn : Nat)] 70)).cell? ⟨w2.heap.size, 0, none⟩ = some (.int .i64 2) ∧ (w2.alloc (.cells #[.int .i64 2, .int .i64 (c : Nat), .int .u64 (gn : Nat)] 70)).cell? ⟨w2.heap.size, 1, none⟩ = some (.int .i64 (c : Nat)) ∧ (w2.alloc (.cells #[.int .i64 2, .int .i64 (c : Nat), .int .u64 (gn : Nat)] 70)).cell? ⟨w2.heap.size, 2, none⟩ = some (.int .u64 (gn : Nat)) := ⟨(row_cell gM3 0).1, (row_cell gM3 1).1, (row_cell gM3 2).1⟩
    go_wp2_with fail
    refine (hDe.out _ hB3).mono ?_
    rintro e w4 ⟨v', rfl, hO, hb4⟩
    have hB4 := hB3.trans (hb4.mono hB3.size)
    clear q0 q1 m0 m1 m2 hDe hb4
    go_wp2_with fail
    go_ret2
    exact ⟨_, by rw [hyes.out]; rfl, by rw [hyes.out]; exact hO, hB4⟩
   ·have hyes := lh (show laneD I L ln = some [] from by rw [hl2, if_neg h1, if_neg h2])
    generalize mkS x = st at *
    have h1' : ¬ ((st : Nat) : Int) = 1 := by omega
    have h2' : ¬ ((st : Nat) : Int) = 2 := by omega
    clear hl2 hNo hDe h1 h2
    go_enter Tryz.func14, Tryz.ntmps14
    obtain ⟨q0, q1⟩ := gG.c2
    go_wp2_with fail
    refine (hPo.out _ hA).mono ?_
    rintro e wp ⟨rfl, hbp⟩
    replace hA := hA.trans (hbp.mono hA.size)
    replace gG := gG.keep hbp
    clear q0 q1 hPo hbp
    obtain ⟨q0, q1⟩ := gG.c2
    go_wp2_with fail
    refine (hMk.out _).mono ?_
    rintro e w1 ⟨rfl, hb1⟩
    have hB1 := hA.trans (hb1.mono hA.size)
    have gG1 := gG.keep hb1
    have c1 := hC.out _ hB1
    clear q0 q1 hb1 hMk gG
    go_wp2_with fail
    refine (hD.out _).mono ?_
    rintro e w2 ⟨rfl, hb2⟩
    have hB2 := hB1.trans (hb2.mono hB1.size)
    have hb3 := bZ w2 (.cells #[.int .i64 (st : Nat), .int .i64 (c : Nat), .int .u64 (gn : Nat)] 70)
    have hB3 := hB2.trans (hb3.mono hB2.size)
    have gG3 := (gG1.keep hb2).keep hb3
    have gM3 := HB.new w2 #[.int .i64 (st : Nat), .int .i64 (c : Nat), .int .u64 (gn : Nat)] 70
    clear c1 hb2 hD gG1
    obtain ⟨q0, q1⟩ := gG3.c2
    obtain ⟨m0, m1, m2⟩ : (w2.alloc (.cells #[.int .i64 (st : Nat), .int .i64 (c : Nat), .int .u64 (gn : Nat)] 70)).cell? ⟨w2.heap.size, 0, none⟩ = some (.int .i64 (st : Nat)) ∧ (w2.alloc (.cells #[.int .i64 (st : Nat), .int .i64 (c : Nat), .int .u64 (gn : Nat)] 70)).cell? ⟨w2.heap.size, 1, none⟩ = some (.int .i64 (c : Nat)) ∧ (w2.alloc (.cells #[.int .i64 (st : Nat), .int .i64 (c : Nat), .int .u64 (gn : Nat)] 70)).cell? ⟨w2.heap.size, 2, none⟩ = some (.int .u64 (gn : Nat)) := ⟨(row_cell gM3 0).1, (row_cell gM3 1).1, (row_cell gM3 2).1⟩
    go_wp2_with fail
    go_ret2
    exact ⟨_, by rw [hyes.out]; rfl, by rw [hyes.out]; exact OPL.nil _, hB3⟩
theorem rlane_any (v : Value) (I : List Nat) (W L ln : Int) (w : World) (hw : Lw w) (hW : WL I) (hv : KL .u64 w v I) (hN : I.length ≤ 800) :
 Calls Tryz.prog 14 #[v, .agg #[.int .i64 W, .int .i64 L], .int .i64 ln] w fun e w' => ∃ v', e = .returned (.tuple #[v', .bool (laneP I W L ln).isSome]) ∧ OPL w' v' ((laneP I W L ln).getD []) ∧ Below w.heap.size w w' := by
 cases hl : laneB I W L ln with
 | true =>
   have h2 := hl
   unfold laneB at h2
   rw [Bool.and_eq_true] at h2
   obtain ⟨h3, h4⟩ := h2
   have h5 := of_decide_eq_true h4
   obtain ⟨hp, hW1, hL1⟩ := readB_t h3
   obtain ⟨n, rfl⟩ := Int.eq_ofNat_of_zero_le h5.1
   subst hW1
   subst hL1
   have hy : laneP I (I.length : Nat) (I.getD 3 0 : Nat) (n : Nat) = laneD I (I.getD 3 0) n := if_pos hl
   rw [hy]
   exact rlane_yes v I (I.getD 3 0) n w hw hW hv (gOk_pool (pool_t hp).1).2 (by omega) hN hl
 | false =>
   have hno := lh (show laneP I W L ln = none from if_neg (by rw [hl]; simp))
   have hA := bZ w (.cells #[.int .i64 W, .int .i64 L] 33)
   have hPo := lh (fun w1 (hb : Below w.heap.size w w1) => pool_any v I W L ln w1 (hw.keep hb) hW (hv.keep hb) (by omega))
   rw [hl] at hPo
   obtain ⟨q0, q1⟩ := C2.new w (.int .i64 W) (.int .i64 L) 33
   clear hl
   go_enter Tryz.func14, Tryz.ntmps14
   go_wp2_with fail
   refine (hPo.out _ hA).mono ?_
   rintro e w1 ⟨rfl, hb1⟩
   have hB1 := hA.trans (hb1.mono hA.size)
   clear hb1 hPo
   go_wp2_with fail
   go_ret2
   exact ⟨_, by rw [hno.out]; rfl, by rw [hno.out]; exact OPL.nil _, hB1⟩
end Go.Proofs.YtkdhdibjbabgfaaGreatDoor
end
section
namespace Go.Proofs.YtkdhdibjbabgfaaGreatDoor
open Go.Lib Go.RowKit Go.ChangeShapes Go.WideShapes Go.Deep Go.Shelf
theorem rmkdec (x : Nat) (w : World) (hx : x < 18446744073709551616) :
 Calls Tryz.prog 41 #[.int .u64 (x : Nat)] w fun e w' => (∃ a b : Int, e = .returned (.tuple #[.agg #[.int .i64 a, .int .i64 b, .int .u64 (mkE x : Nat)], .bool (mkOk x)])) ∧ Below w.heap.size w w' := by
 cases h : mkOk x with
 | true =>
   refine (rmkdec_t x w hx h).mono ?_
   rintro e w' ⟨rfl, hb⟩
   refine ⟨⟨(mkS x : Nat), (mkC x : Nat), ?_⟩, hb⟩
   rw [show mkE x = mkG x from by unfold mkE; rw [if_pos h]]
 | false =>
   refine (rmkdec_f x w hx h).mono ?_
   rintro e w' ⟨rfl, hb⟩
   refine ⟨⟨0, 0, ?_⟩, hb⟩
   rw [show ((mkE x : Nat) : Int) = 0 from by unfold mkE; rw [h]; rfl]
theorem rmkenc (x : Nat) (w : World) (hx : x < 18446744073709551616) :
 Calls Tryz.prog 34 #[.agg #[.int .i64 0, .int .i64 0, .int .u64 (mkE x : Nat)]] w fun e w' => e = .returned (.tuple #[.int .u64 (endN x : Nat), .int .i64 0]) ∧ Below w.heap.size w w' := by
 have hE := mkE_lt hx
 refine (refEncode_t 0 0 (mkE x : Nat) w (decide_eq_true (by omega)) (by omega)).mono ?_
 rintro e w' ⟨rfl, hb⟩
 exact ⟨by rw [mkE_end], hb⟩
def mendE (I : List Nat) : Int := if (mendD I).isSome = true then 0 else 7
theorem mendE_no {I : List Nat} (h : mendD I = none) : mendE I = 7 := by unfold mendE; rw [h]; rfl
theorem mendE_yes {I J : List Nat} (h : mendD I = some J) : mendE I = 0 := by unfold mendE; rw [h]; rfl
theorem lanes_no {I : List Nat} {L j : Nat} (hj : j < L) (h : laneD I L j = none) : lanesD I L L = none := lanesD_f L (by
 unfold lanesS
 exact List.mem_map.2 ⟨j, List.mem_range.2 hj, h⟩)
theorem lanes_one {I : List Nat} {L j : Nat} {a b : List Ox} (h : lanesD I L j = some a) (h2 : laneD I L j = some b) : lanesD I L (j + 1) = some (a ++ b) := by
 unfold lanesD
 rw [h, h2]
theorem rmend_any (v : Value) (I : List Nat) (w : World) (hw : Lw w) (hW : WL I) (hv : KL .u64 w v I) (hN : I.length ≤ 800) :
 Calls Tryz.prog 20 #[v] w fun e w' => ∃ v', e = .returned (.tuple #[v', .int .i64 (mendE I)]) ∧ OwnU w' w.heap.size v' ((mendD I).getD []) ∧ Below w.heap.size w w' := by
 obtain ⟨nn, hnn⟩ : ∃ n, I.length = n := ⟨_, rfl⟩
 have hD := fun w1 (hb : Below w.heap.size w w1) => rdec_any v I nn w1 hnn (by omega) (KL.sl (hv.keep hb))
 have hb0 := Below.refl w.heap.size w
 cases hs : sOk I with
 | false =>
   have hno := lh (show mendD I = none from by unfold mendD poolB; rw [hs]; rfl)
   rw [hs] at hD
   replace hD := lh (fun w1 hb => show Calls Tryz.prog 24 #[v] w1 (fun e w' => e = .returned (.tuple #[.agg #[.int .i64 0, .int .i64 0], .int .i64 7]) ∧ Below w1.heap.size w1 w') from hD w1 hb)
   clear hs hv hW hw hN
   replace hnn := lh hnn
   go_enter Tryz.func20, Tryz.ntmps20
   go_wp2_with fail
   refine (hD.out _ hb0).mono ?_
   rintro e w1 ⟨rfl, hb1⟩
   have hB1 := hb1.alloc hb1.size (.cells #[.int .i64 0, .int .i64 0] 33)
   clear hD hb0
   go_wp2_with fail
   go_ret2
   exact ⟨_, by rw [mendE_no hno.out]; rfl, by rw [hno.out]; exact World.ownsRow_nil _ _ _ _, hB1⟩
 | true =>
   obtain ⟨L, hL⟩ : ∃ L, I.getD 3 0 = L := ⟨_, rfl⟩
   have hg := (gOk_pool hs).2
   rw [hL] at hg
   obtain ⟨s1, s2, s3, s4, s5, s6, s7, s8⟩ := pool_size hg
   obtain ⟨G, hG⟩ : ∃ G, gNat I.length L = G := ⟨_, rfl⟩
   obtain ⟨Fb, hF⟩ : ∃ F, 10 + 73 * L = F := ⟨_, rfl⟩
   have hF' : (10 + 73 * (L : Int)) = (Fb : Int) := by omega
   rw [hs, hL] at hD
   replace hD := lh (fun w1 hb => show Calls Tryz.prog 24 #[v] w1 (fun e w' => e = .returned (.tuple #[.agg #[.int .i64 (nn : Nat), .int .i64 (L : Nat)], .int .i64 0]) ∧ Below w1.heap.size w1 w') from hD w1 hb)
   have hla : ∀ j : Nat, j < L → laneP I (nn : Nat) (L : Nat) (j : Nat) = if poolB I = true then laneD I L j else none := fun j hj => by
    have e1 : laneB I (nn : Nat) (L : Nat) (j : Nat) = poolB I := by
     unfold laneB readB
     rw [hnn, hL, decide_eq_true (p := ((nn : Nat) : Int) = (nn : Nat) ∧ ((L : Nat) : Int) = (L : Nat)) ⟨rfl, rfl⟩, decide_eq_true (p := 0 ≤ ((j : Nat) : Int) ∧ ((j : Nat) : Int) < (L : Nat)) (by omega), Bool.and_true, Bool.and_true]
    unfold laneP
    rw [e1]
    rfl
   have hLa := lh (fun (j : Nat) w1 (hb : Below w.heap.size w w1) => rlane_any v I (nn : Nat) (L : Nat) (j : Nat) w1 (hw.keep hb) hW (hv.keep hb) hN)
   have hmd := lh (fun (h : poolB I = true) => show mendD I = (match lanesD I L L with | none => none | some ops => some (restL (applyL I ops) L)) from by unfold mendD; rw [if_pos h, hL]; rfl)
   have hmn := lh (fun (h : poolB I = false) => show mendD I = none from by unfold mendD; rw [h]; rfl)
   have hbd := lh (fun j ops (hj : j < L) (h : laneD I L j = some ops) => lane_bd hW hg hj hN h)
   have hrest : ∀ X : List Nat, X.length = nn → restL X L = clrL (idlesL X L) L G := fun X hX => by unfold restL; rw [hX, ← hnn, hG]
   rw [hG, hnn] at s5
   rw [hG] at s6 s7 s8
   rw [hnn] at hg s3 s4 s8
   have hTb := lh (fun w1 => refTable_t (nn : Nat) (L : Nat) w1 hg)
   rw [hF', s5] at hTb
   have hMk := lh (fun k (hk : k < L) w1 => show Calls Tryz.prog 35 #[.agg #[.int .i64 (nn : Nat), .int .i64 (L : Nat)], .int .i64 (k : Nat)] w1 (fun e w' => e = .returned (.int .i64 ((10 + k : Nat) : Int)) ∧ Below w1.heap.size w1 w') from by
    have h := refMark_t (nn : Nat) (L : Nat) (k : Nat) w1 (by unfold lOk; rw [hg, Bool.true_and]; exact decide_eq_true (by omega))
    rw [show ((10 + k : Nat) : Int) = 10 + (k : Int) from by omega]
    exact h)
   have hFb : Fb ≤ 800 := by omega
   have hFn : Fb + G ≤ nn := by omega
   have hLn : 10 + L ≤ nn := by omega
   have hG8 : G ≤ 800 := by omega
   have hfg : IntKind.i64.wrap ((Fb : Int) + (G : Int)) = (Fb : Int) + (G : Int) := wrapS _ (by omega) (by omega)
   have hvk := lh (fun w1 (hb : Below w.heap.size w w1) => hv.keep hb)
   have hwk := lh (fun w1 (hb : Below w.heap.size w w1) => hw.keep hb)
   obtain ⟨Av, cv, rfl, -⟩ := hv.form hnn
   replace hla := lh hla
   replace hrest := lh hrest
   replace hL := lh hL
   replace hnn := lh hnn
   replace hG := lh hG
   replace hF := lh hF
   have hnn8 : nn ≤ 800 := by have := hnn.out; omega
   clear hs hv hw hF' hg
   go_enter Tryz.func20, Tryz.ntmps20
   go_wp2_with fail
   refine (hD.out _ hb0).mono ?_
   rintro e w1 ⟨rfl, hb1⟩
   have gG := HB.new w1 #[.int .i64 (nn : Nat), .int .i64 (L : Nat)] 33
   have hB1 := hb1.alloc hb1.size (.cells #[.int .i64 (nn : Nat), .int .i64 (L : Nat)] 33)
   obtain ⟨T4, hT4⟩ : ∃ T, w1.heap.size = T := ⟨_, rfl⟩
   obtain ⟨w2, hw2⟩ : ∃ x, w1.alloc (.cells #[.int .i64 (nn : Nat), .int .i64 (L : Nat)] 33) = x := ⟨_, rfl⟩
   rw [hw2, hT4] at gG
   rw [hw2] at hB1
   have hsz2 : w2.heap.size = T4 + 1 := by rw [← hw2]; simp; omega
   obtain ⟨v6, w3, hrun, ho3, hb3⟩ := newW (hvk.out w2 hB1) (by rw [hnn.out]; omega)
   have gG3 := gG.keep hb3
   have hB3 := hB1.trans (hb3.mono hB1.size)
   have ho3' := ho3.mono hB1.size
   rw [hsz2] at hrun
   clear hD hb0 ho3 hb3 gG hsz2
   subst hw2
   go_wp2_with (at_builtin; refine wpList_append_run rfl _ _ 23 rfl _ _ _ rfl rfl hrun ?_)
   clear hrun hb1 hB1
   go_loopw [7, 6] (fun i v6 wr => ∃ (j : Nat) (ops : List Ox), j ≤ L ∧ i = .int .i64 (j : Nat) ∧ Hid (lanesD I L j = some ops) ∧ Hid (OVs ops) ∧ Hid (j = 0 ∨ poolB I = true) ∧ OwnU wr w.heap.size v6 (applyL I ops) ∧ HB wr T4 #[.int .i64 (nn : Nat), .int .i64 (L : Nat)] 33 ∧ Below w.heap.size w wr) (fun i _ _ => L + 1 - (intOf i).toNat)
   case atStart => exact ⟨0, [], Nat.zero_le _, rfl, lh rfl, lh (fun o ho => by cases ho), lh (.inl rfl), ho3', gG3, hB3⟩
   case round =>
    obtain ⟨j, ops, hj, rfl, hlo, hOV, hpl, ho6, hGr, hBr⟩ := hrel
    clear ho3' gG3 hB3
    obtain ⟨q0, q1⟩ := hGr.c2
    have hal : (applyL I ops).length = nn := by rw [applyL_len]; exact hnn.out
    obtain ⟨A6, c6, rfl⟩ := ho6.sl hal
    by_cases hlt : j < L
    ·have hlt' : (j : Int) < (L : Int) := by omega
     have hL1 := hLa.out j wr hBr
     have hla1 := hla.out j hlt
     obtain ⟨D, hDD⟩ : ∃ D, laneP I (nn : Nat) (L : Nat) (j : Nat) = D := ⟨_, rfl⟩
     rw [hDD] at hL1 hla1
     cases D with
     | none =>
       have hno := lh (show mendD I = none from by
        by_cases hp : poolB I = true
        ·rw [if_pos hp] at hla1
         rw [hmd.out hp, lanes_no hlt hla1.symm]
        ·exact hmn.out (Bool.eq_false_iff.2 hp))
       clear hla1 hDD hlo hOV hpl
       go_wp2_with fail
       refine hL1.mono ?_
       rintro e w4 ⟨v', rfl, hO, hb4⟩
       have hB4 := hBr.trans (hb4.mono hBr.size)
       clear q0 q1 hL1 hb4 hGr ho6
       go_wp2_with fail
       go_ret2
       exact ⟨_, by rw [mendE_no hno.out]; rfl, by rw [hno.out]; exact World.ownsRow_nil _ _ _ _, hB4⟩
     | some l =>
       have hp : poolB I = true := by
        by_cases hp : poolB I = true
        ·exact hp
        ·rw [if_neg hp] at hla1; cases hla1
       rw [if_pos hp] at hla1
       obtain ⟨hl8, hlOV⟩ := hbd.out j l hlt hla1.symm
       have hlo2 := lh (lanes_one hlo.out hla1.symm)
       have hOV2 : OVs (ops ++ l) := fun o ho => by
        rcases List.mem_append.1 ho with h | h
        ·exact hOV.out o h
        ·exact hlOV o h
       have hWL := applyL_WL hOV.out hW
       have hap := lh (apply_app I ops l)
       replace hp := lh hp
       replace hOV2 := lh hOV2
       simp only [Option.isSome_some, Option.getD_some] at hL1
       clear hla1 hDD hlo hpl
       go_wp2_with fail
       refine hL1.mono ?_
       rintro e w4 ⟨v', rfl, hO, hb4⟩
       have hB4 := hBr.trans (hb4.mono hBr.size)
       have ho4 := ho6.keep hb4
       have hG4 := hGr.keep hb4
       have hA := refApply_any (.slice A6 nn c6) v' (applyL I ops) l w4 hWL (by rw [hal]; omega) hlOV (by omega) ho4.kl hO
       rw [← hap.out] at hA
       clear q0 q1 hL1 hb4 hGr ho6 hO hOV hWL
       go_wp2_with fail
       refine hA.mono ?_
       rintro e w5 ⟨v5, rfl, ho5, hb5⟩
       have hB5 := hB4.trans (hb5.mono hB4.size)
       have ho5' := ho5.mono hB4.size
       have hG5 := hG4.keep hb5
       clear hA ho4 hG4 hb5 ho5
       go_wp2_with fail
       go_roundw
       case rel => exact ⟨j + 1, ops ++ l, by omega, by go_num, hlo2, hOV2, lh (.inr hp.out), ho5', hG5, hB5⟩
       case measure => first | (simp [intOf]; done) | (simp [intOf]; omega)
    ·obtain rfl : L = j := by omega
     have hp : poolB I = true := by rcases hpl.out with h | h; omega; exact h
     have hyes := lh (show mendD I = some (restL (applyL I ops) L) from by rw [hmd.out hp, hlo.out])
     have hWL := applyL_WL hOV.out hW
     obtain ⟨X, hX⟩ : ∃ X, applyL I ops = X := ⟨_, rfl⟩
     rw [hX] at hal ho6 hyes hWL
     have hre := lh (hrest.out X hal)
     have hIl := lh (fun k => show (idlesL X k).length = nn from by rw [idlesL_len, hal])
     have hIw := lh (fun k => idlesL_WL hWL k)
     have hCl := lh (fun k => show (clrL (idlesL X L) L k).length = nn from by rw [clrL_len, idlesL_len, hal])
     have hCw := lh (fun k => clrL_WL (L := L) (idlesL_WL hWL L) k)
     obtain ⟨A9, c9, hv9, hf9⟩ := ho6.form
     rw [hal] at hf9 hv9
     cases hv9
     obtain ⟨B, rfl, hBl, hBu⟩ := hf9 (by omega)
     replace hX := lh hX
     replace hp := lh hp
     replace hal := lh hal
     have hlt' : decide ((L : Int) < (L : Int)) = false := decide_eq_false (by omega)
     clear hlo hOV hpl hWL hLa hmd hmn hbd hla hf9 hBu
     go_wp2_with fail
     clear q0 q1
     go_loopw [10] (fun i wr => ∃ (k : Nat), k ≤ L ∧ i = .int .i64 (k : Nat) ∧ HB wr T4 #[.int .i64 (nn : Nat), .int .i64 (L : Nat)] 33 ∧ OwnU wr w.heap.size (.slice (some ⟨B, 0, none⟩) nn c6) (idlesL X k) ∧ Below w.heap.size w wr) (fun i _ => L + 1 - (intOf i).toNat)
     case atStart => exact ⟨0, Nat.zero_le _, rfl, hGr, ho6, hBr⟩
     case round =>
      obtain ⟨k, hk, rfl, hGk, hok, hBk⟩ := hrel
      clear hGr ho6 hBr
      obtain ⟨q0, q1⟩ := hGk.c2
      have hTB : ¬ T4 = B := hGk.ne_row hok (by decide)
      by_cases hltk : k < L
      ·have hltk' : (k : Int) < (L : Int) := by omega
       have hMk1 := hMk.out k hltk wr
       obtain ⟨M, hM⟩ : ∃ M, 10 + k = M := ⟨_, rfl⟩
       rw [hM] at hMk1
       have hil := hIl.out k
       have hst : (idlesL X k).set M (endN ((idlesL X k).getD M 0)) = idlesL X (k + 1) := by rw [← hM]; rfl
       have hxw := (hIw.out k).getN M
       obtain ⟨P, hP⟩ : ∃ P, idlesL X k = P := ⟨_, rfl⟩
       rw [hP] at hil hst hxw hok
       obtain ⟨x, hx⟩ : ∃ x, P.getD M 0 = x := ⟨_, rfl⟩
       rw [hx] at hst hxw
       have hMn : M < nn := by omega
       have hMn' : (M : Int) < (nn : Int) := by omega
       replace hP := lh hP
       replace hst := lh hst
       replace hM := lh hM
       go_wp2_with fail
       refine hMk1.mono ?_
       rintro e w4 ⟨rfl, hb4⟩
       have hG4 := hGk.keep hb4
       have ho4 := hok.keep hb4
       have hB4 := hBk.trans (hb4.mono hBk.size)
       obtain ⟨c1, -⟩ := ho4.cell hil hMn
       rw [hx] at c1
       clear q0 q1 hMk1 hGk hok hBk hb4
       go_wp2_with fail
       refine (rmkdec x w4 hxw).mono ?_
       rintro e w5 ⟨⟨a, b, rfl⟩, hb5⟩
       have gM := HB.new w5 #[.int .i64 a, .int .i64 b, .int .u64 (mkE x : Nat)] 70
       have hb6 := bZ w5 (.cells #[.int .i64 a, .int .i64 b, .int .u64 (mkE x : Nat)] 70)
       have hb56 := hb5.trans (hb6.mono hb5.size)
       have hG6 := hG4.keep hb56
       have ho6 := ho4.keep hb56
       have hB6 := hB4.trans (hb56.mono hB4.size)
       obtain ⟨m0, m1, m2⟩ : (w5.alloc (.cells #[.int .i64 a, .int .i64 b, .int .u64 (mkE x : Nat)] 70)).cell? ⟨w5.heap.size, 0, none⟩ = some (.int .i64 a) ∧ (w5.alloc (.cells #[.int .i64 a, .int .i64 b, .int .u64 (mkE x : Nat)] 70)).cell? ⟨w5.heap.size, 1, none⟩ = some (.int .i64 b) ∧ (w5.alloc (.cells #[.int .i64 a, .int .i64 b, .int .u64 (mkE x : Nat)] 70)).cell? ⟨w5.heap.size, 2, none⟩ = some (.int .u64 (mkE x : Nat)) := ⟨(row_cell gM 0).1, (row_cell gM 1).1, (row_cell gM 2).1⟩
       clear c1 hb5 hG4 ho4 hB4 hb6 hb56 gM
       go_wp2_with fail
       refine (refEnd_any a b (mkE x : Nat) _).mono ?_
       rintro e w7 ⟨rfl, hb7⟩
       have hG7 := hG6.keep hb7
       have ho7 := ho6.keep hb7
       have hB7 := hB6.trans (hb7.mono hB6.size)
       clear m0 m1 m2 hG6 ho6 hB6 hb7
       go_wp2_with fail
       refine (rmkenc x w7 hxw).mono ?_
       rintro e w8 ⟨rfl, hb8⟩
       have hG8 := hG7.keep hb8
       have ho8 := ho7.keep hb8
       have hB8 := hB7.trans (hb8.mono hB7.size)
       obtain ⟨d0, f0⟩ := ho8.cell hil hMn
       have hS := Chg.setCell (S := fun k => k = B) w8 B M (.int .u64 (endN x : Nat)) rfl
       have hG9 := hG8.chg hS hTB
       have ho9 := ho8.set (y := endN x) hil hMn
       have hB9 := hB8.trans (hS.below (N := w.heap.size) (fun k h => by rw [h]; exact hBl) hB8.size)
       clear hG7 ho7 hB7 hb8 hG8 ho8 hB8 hS
       go_wp2_with fail
       go_roundw
       case rel => exact ⟨k + 1, by omega, by go_num, hG9, by rw [← hst.out]; exact ho9, hB9⟩
       case measure => first | (simp [intOf]; done) | (simp [intOf]; omega)
      ·obtain rfl : L = k := by omega
       obtain ⟨Q, hQ⟩ : ∃ Q, idlesL X L = Q := ⟨_, rfl⟩
       rw [hQ] at hok hCl hCw hre
       replace hQ := lh hQ
       clear hIl hIw hMk
       go_wp2_with fail
       refine (hTb.out _).mono ?_
       rintro e w4 ⟨rfl, hb4⟩
       have ho4 := hok.keep hb4
       have hB4 := hBk.trans (hb4.mono hBk.size)
       have gT := HB.new w4 #[.int .i64 (Fb : Nat), .int .i64 (G : Nat)] 51
       have hb5 := bZ w4 (.cells #[.int .i64 (Fb : Nat), .int .i64 (G : Nat)] 51)
       have ho5 := ho4.keep hb5
       have hB5 := hB4.trans (hb5.mono hB4.size)
       obtain ⟨t0, t1⟩ := gT.c2
       obtain ⟨T14, hT14⟩ : ∃ T, w4.heap.size = T := ⟨_, rfl⟩
       rw [hT14] at gT t0 t1
       clear q0 q1 hTb hGk hok hBk hb4 ho4 hB4 hb5
       go_wp2_with fail
       clear t0 t1
       go_loopw [15] (fun i wr => ∃ (j : Nat), j ≤ G ∧ i = .int .i64 ((Fb + j : Nat) : Int) ∧ HB wr T14 #[.int .i64 (Fb : Nat), .int .i64 (G : Nat)] 51 ∧ OwnU wr w.heap.size (.slice (some ⟨B, 0, none⟩) nn c6) (clrL Q L j) ∧ Below w.heap.size w wr) (fun i _ => Fb + G + 1 - (intOf i).toNat)
       case atStart => exact ⟨0, Nat.zero_le _, rfl, gT, ho5, hB5⟩
       case round =>
        obtain ⟨j, hj, rfl, hTr, hor, hBr⟩ := hrel
        clear gT ho5 hB5
        obtain ⟨t0, t1⟩ := hTr.c2
        have hT14B : ¬ T14 = B := hTr.ne_row hor (by decide)
        by_cases hltj : j < G
        ·have hil := hCl.out j
         have hxw := (hCw.out j).getN (Fb + j)
         have hst : (clrL Q L j).set (Fb + j) (noLog ((clrL Q L j).getD (Fb + j) 0)) = clrL Q L (j + 1) := by rw [← hF.out]; rfl
         have hsame := set_same (clrL Q L j) (Fb + j) (by omega)
         obtain ⟨q, hq⟩ : ∃ q, Fb + j = q := ⟨_, rfl⟩
         rw [hq] at hxw hst hsame ⊢
         obtain ⟨P, hP⟩ : ∃ P, clrL Q L j = P := ⟨_, rfl⟩
         rw [hP] at hil hst hxw hor hsame
         obtain ⟨x, hx⟩ : ∃ x, P.getD q 0 = x := ⟨_, rfl⟩
         rw [hx] at hst hxw hsame
         have hMn : q < nn := by omega
         have hMn' : (q : Int) < (nn : Int) := by omega
         have hql : (q : Int) < (Fb : Int) + (G : Int) := by omega
         obtain ⟨c1, -⟩ := hor.cell hil hMn
         rw [hx] at c1
         have hlw := hwk.out wr hBr
         replace hP := lh hP
         replace hq := lh hq
         cases hok : okN x with
         | false =>
           have hno : noLog x = x := by unfold noLog; rw [if_neg (fun h => by rw [hok] at h; cases h.1)]
           have hD := rdcN x wr hlw hxw hok
           have hst2 : clrL Q L (j + 1) = P := by rw [← hst, hno]; exact hsame
           replace hst2 := lh hst2
           clear hok hlw hno hsame hst
           go_wp2_with fail
           refine hD.mono ?_
           rintro e w5 ⟨rfl, hb5⟩
           have hb6 := bZ w5 (.cells #[.int .i64 0, .int .i64 0, .int .i64 0, .int .i64 0, .int .u64 0] 96)
           have hb56 := hb5.trans (hb6.mono hb5.size)
           have hT6 := hTr.keep hb56
           have ho6 := hor.keep hb56
           have hB6 := hBr.trans (hb56.mono hBr.size)
           clear hD c1 hb5 hb6 hb56 hTr hor hBr
           go_wp2_with fail
           go_roundw
           case rel => exact ⟨j + 1, by omega, by rw [← hq.out]; go_num, hT6, by rw [hst2.out]; exact ho6, hB6⟩
           case measure => first | (simp [intOf]; done) | (simp [intOf]; omega)
         | true =>
           have hD := rdcY x wr hlw hxw hok
           by_cases h4 : kN x = 4
           ·have hno : noLog x = 0 := by unfold noLog; rw [if_pos ⟨hok, h4⟩]
            rw [h4] at hD
            rw [hno] at hst
            replace hst := lh hst
            clear hok hlw h4 hno hsame
            go_wp2_with fail
            refine hD.mono ?_
            rintro e w5 ⟨rfl, hb5⟩
            have gK := HB.new w5 #[.int .i64 4, .int .i64 (cN x : Nat), .int .i64 (lnN x : Nat), .int .i64 (mN x : Nat), .int .u64 (bN x : Nat)] 96
            have hb6 := bZ w5 (.cells #[.int .i64 4, .int .i64 (cN x : Nat), .int .i64 (lnN x : Nat), .int .i64 (mN x : Nat), .int .u64 (bN x : Nat)] 96)
            have hb56 := hb5.trans (hb6.mono hb5.size)
            have hT6 := hTr.keep hb56
            have ho6 := hor.keep hb56
            have hB6 := hBr.trans (hb56.mono hBr.size)
            have k0 := (row_cell gK 0).1
            obtain ⟨d0, f0⟩ := ho6.cell hil hMn
            have hS := Chg.setCell (S := fun k => k = B) (w5.alloc (.cells #[.int .i64 4, .int .i64 (cN x : Nat), .int .i64 (lnN x : Nat), .int .i64 (mN x : Nat), .int .u64 (bN x : Nat)] 96)) B q (.int .u64 ((0 : Nat) : Int)) rfl
            have hT7 := hT6.chg hS hT14B
            have ho7 := ho6.set (y := 0) hil hMn
            have hB7 := hB6.trans (hS.below (N := w.heap.size) (fun k h => by rw [h]; exact hBl) hB6.size)
            rw [hst.out] at ho7
            clear hD c1 hb5 hb6 hb56 hTr hor hBr hT6 ho6 hB6 hS gK
            go_wp2_with fail
            go_roundw
            case rel => exact ⟨j + 1, by omega, by rw [← hq.out]; go_num, hT7, ho7, hB7⟩
            case measure => first | (simp [intOf]; done) | (simp [intOf]; omega)
           ·have hno : noLog x = x := by unfold noLog; rw [if_neg (fun h => h4 h.2)]
            have h4' : ¬ ((kN x : Nat) : Int) = 4 := by omega
            have hst2 : clrL Q L (j + 1) = P := by rw [← hst, hno]; exact hsame
            replace hst2 := lh hst2
            clear hok hlw hno hsame hst h4
            go_wp2_with fail
            refine hD.mono ?_
            rintro e w5 ⟨rfl, hb5⟩
            have gK := HB.new w5 #[.int .i64 (kN x : Nat), .int .i64 (cN x : Nat), .int .i64 (lnN x : Nat), .int .i64 (mN x : Nat), .int .u64 (bN x : Nat)] 96
            have hb6 := bZ w5 (.cells #[.int .i64 (kN x : Nat), .int .i64 (cN x : Nat), .int .i64 (lnN x : Nat), .int .i64 (mN x : Nat), .int .u64 (bN x : Nat)] 96)
            have hb56 := hb5.trans (hb6.mono hb5.size)
            have hT6 := hTr.keep hb56
            have ho6 := hor.keep hb56
            have hB6 := hBr.trans (hb56.mono hBr.size)
            have k0 := (row_cell gK 0).1
            clear hD c1 hb5 hb6 hb56 hTr hor hBr gK
            go_wp2_with fail
            go_roundw
            case rel => exact ⟨j + 1, by omega, by rw [← hq.out]; go_num, hT6, by rw [hst2.out]; exact ho6, hB6⟩
            case measure => first | (simp [intOf]; done) | (simp [intOf]; omega)
        ·obtain rfl : G = j := by omega
         have hql : decide (((Fb + G : Nat) : Int) < (Fb : Int) + (G : Int)) = false := decide_eq_false (by omega)
         rw [← hre.out] at hor
         obtain ⟨q, hq⟩ : ∃ q, Fb + G = q := ⟨_, rfl⟩
         rw [hq] at hql ⊢
         have hql2 : ¬ ((q : Nat) : Int) < (Fb : Int) + (G : Int) := of_decide_eq_false hql
         replace hq := lh hq
         go_wp2_with fail
         go_ret2
         exact ⟨_, by rw [mendE_yes hyes.out]; rfl, by rw [hyes.out]; exact hor, hBr⟩
end Go.Proofs.YtkdhdibjbabgfaaGreatDoor
end
