/-
  Part of the proof of MendTouches.
-/
import Derived.Test.YtkdhdibjbabgfaaGreatDoorVt42
import Derived.Test.YtkdhdibjbabgfaaGreatDoorVt0
set_option maxRecDepth 10000
set_option maxHeartbeats 1000000
set_option linter.unusedVariables false
set_option linter.unusedSimpArgs false
section
namespace Go.Proofs.YtkdhdibjbabgfaaGreatDoor
open Go.Lib Go.RowKit Go.ChangeShapes Go.WideShapes Go.Deep Go.Shelf
theorem mkdec_t (x : Nat) (w : World) (hx : x < 18446744073709551616) (h : mkOk x = true) :
 Calls Tryz.prog 68 #[.int .u64 (x : Nat)] w fun e w' => e = .returned (.tuple #[.agg #[.int .i64 (mkS x : Nat), .int .i64 (mkC x : Nat), .int .u64 (mkG x : Nat)], .bool true]) ∧ Below w.heap.size w w' := by
 refine (decode_t (x : Nat) w (by omega) (by omega) (by rw [mkOk_i, h])).mono ?_
 rintro e w' ⟨rfl, hb⟩
 refine ⟨?_, hb⟩
 rw [show ((mkS x : Nat) : Int) = (x : Int) % 4 from by unfold mkS; omega, show ((mkC x : Nat) : Int) = (x : Int) / 4 % 16384 from by unfold mkC; omega, show ((mkG x : Nat) : Int) = (x : Int) / 65536 from by unfold mkG; omega]
theorem mkdec_f (x : Nat) (w : World) (hx : x < 18446744073709551616) (h : mkOk x = false) :
 Calls Tryz.prog 68 #[.int .u64 (x : Nat)] w fun e w' => e = .returned (.tuple #[.agg #[.int .i64 0, .int .i64 0, .int .u64 0], .bool false]) ∧ Below w.heap.size w w' := by
 refine (decode_f (x : Nat) w (by omega) (by omega) (by rw [mkOk_i, h])).mono ?_
 rintro e w' ⟨rfl, hb⟩
 exact ⟨rfl, hb⟩
theorem done_any (v : Value) (I : List Nat) (L ln : Nat) (w : World) (hw : Lw w) (hW : WL I) (hv : KL .u64 w v I) (hg : gOk (I.length : Nat) (L : Nat) = true) (hln : ln < L) (hN : I.length ≤ 800) :
 Calls Tryz.prog 39 #[v, .agg #[.int .i64 (I.length : Nat), .int .i64 (L : Nat)], .int .i64 (ln : Nat)] w fun e w' => ∃ v', e = .returned (.tuple #[v', .bool (laneD I L ln).isSome]) ∧ OPL w' v' ((laneD I L ln).getD []) ∧ Below w.heap.size w w' := by
 obtain ⟨nn, hnn⟩ : ∃ n, I.length = n := ⟨_, rfl⟩
 obtain ⟨s1, s2, s3, s4, s5, s6, s7, s8⟩ := pool_size hg
 obtain ⟨M, hM⟩ : ∃ M, 10 + ln = M := ⟨_, rfl⟩
 have hMn : M < nn := by omega
 obtain ⟨x, hx⟩ : ∃ x, I.getD M 0 = x := ⟨_, rfl⟩
 have hxl : x < 18446744073709551616 := by rw [← hx]; exact hW.getN M
 have hcl : mkC x < 16384 := by unfold mkC; omega
 have hgl : mkG x < 18446744073709551616 := by unfold mkG; omega
 have hNo := lh (fun s w1 (hb : Below w.heap.size w w1) => noted_any v I L ln s (mkC x) (mkG x) w1 (hw.keep hb) hW (hv.keep hb) hg hln hN hcl hgl)
 have hDe := lh (fun s w1 (hb : Below w.heap.size w w1) => decided_any v I L ln s (mkC x) (mkG x) w1 hW (hv.keep hb) hg hln hcl)
 have hMk := lh (fun w1 => show Calls Tryz.prog 69 #[.agg #[.int .i64 (nn : Nat), .int .i64 (L : Nat)], .int .i64 (ln : Nat)] w1 (fun e w' => e = .returned (.int .i64 (M : Nat)) ∧ Below w1.heap.size w1 w') from by
  have h := mark_t (nn : Nat) (L : Nat) (ln : Nat) w1 (by unfold lOk; rw [← hnn, hg, Bool.true_and]; exact decide_eq_true (by omega))
  rw [show ((M : Nat) : Int) = 10 + (ln : Int) from by omega]
  exact h)
 have hl : laneD I L ln = (if mkOk x then (if mkS x = 1 then notedD I L ln (mkC x) (mkG x) else if mkS x = 2 then decidedD I L ln (mkC x) else some []) else none) := by unfold laneD; rw [hM, hx]
 obtain ⟨g, off, cap, rfl, hcap, hgs⟩ := hv.addr hnn (by omega)
 have hC := lh (fun w1 (hb : Below w.heap.size w w1) => show w1.cell? ⟨g, off + M, none⟩ = some (.int .u64 (x : Nat)) from by
  obtain ⟨A9, c9, hv9, hK9⟩ := hv.form hnn
  cases hv9
  obtain ⟨g2, o2, hA9, _, _, c0⟩ := hK9 w1 M hb hMn
  cases hA9
  rw [c0, hx])
 rw [hnn] at hNo hDe
 rw [hnn]
 have hA := bZ w (.cells #[.int .i64 (nn : Nat), .int .i64 (L : Nat)] 33)
 have gG := HB.new w #[.int .i64 (nn : Nat), .int .i64 (L : Nat)] 33
 obtain ⟨C, hCC⟩ : ∃ C, w.heap.size = C := ⟨_, rfl⟩
 rw [hCC] at gG
 have hMn' : (M : Int) < (nn : Int) := by omega
 replace hnn := lh hnn
 replace hM := lh hM
 replace hx := lh hx
 clear hW hw hv hg
 cases hok : mkOk x with
 | false =>
   have hno := lh (show laneD I L ln = none from by rw [hl, hok]; rfl)
   have hD := lh (fun w1 => mkdec_f x w1 hxl hok)
   clear hl hok hNo hDe
   go_enter Tryz.func39, Tryz.ntmps39
   obtain ⟨q0, q1⟩ := gG.c2
   go_wp2_with fail
   refine (hMk.out _).mono ?_
   rintro e w1 ⟨rfl, hb1⟩
   have hB1 := hA.trans (hb1.mono hA.size)
   have gG1 := gG.keep hb1
   have c1 := hC.out _ hB1
   clear q0 q1 hb1 hMk gG
   go_wp2_with fail
   refine (hD.out _).mono ?_
   rintro e w2 ⟨rfl, hb2⟩
   have hB2 := hB1.trans (hb2.mono hB1.size)
   have hb3 := bZ w2 (.cells #[.int .i64 0, .int .i64 0, .int .u64 0] 70)
   have hB3 := hB2.trans (hb3.mono hB2.size)
   have gG3 := (gG1.keep hb2).keep hb3
   have gM3 := HB.new w2 #[.int .i64 0, .int .i64 0, .int .u64 0] 70
   clear c1 hb2 hD gG1
   go_wp2_with fail
   go_ret2
   exact ⟨_, by rw [hno.out]; rfl, by rw [hno.out]; exact OPL.nil _, hB3⟩
 | true =>
   have hD := lh (fun w1 => mkdec_t x w1 hxl hok)
   have hl2 : laneD I L ln = (if mkS x = 1 then notedD I L ln (mkC x) (mkG x) else if mkS x = 2 then decidedD I L ln (mkC x) else some []) := by rw [hl, hok]; rfl
   clear hl hok
   generalize mkC x = c at *
   generalize mkG x = gn at *
   by_cases h1 : mkS x = 1
   ·have hyes := lh (show laneD I L ln = notedD I L ln c gn from by rw [hl2, if_pos h1])
    rw [h1] at hD
    replace hD := lh (fun w1 => show Calls Tryz.prog 68 #[.int .u64 (x : Nat)] w1 (fun e w' => e = .returned (.tuple #[.agg #[.int .i64 1, .int .i64 (c : Nat), .int .u64 (gn : Nat)], .bool true]) ∧ Below w1.heap.size w1 w') from hD.out w1)
    replace hNo := lh (fun w1 (hb : Below w.heap.size w w1) => show Calls Tryz.prog 70 #[.slice (some ⟨g, off, none⟩) nn cap, .agg #[.int .i64 (nn : Nat), .int .i64 (L : Nat)], .int .i64 (ln : Nat), .agg #[.int .i64 1, .int .i64 (c : Nat), .int .u64 (gn : Nat)]] w1 (fun e w' => ∃ v', e = .returned (.tuple #[v', .bool (notedD I L ln c gn).isSome]) ∧ OPL w' v' ((notedD I L ln c gn).getD []) ∧ Below w1.heap.size w1 w') from hNo.out 1 w1 hb)
    clear hl2 hDe h1
    go_enter Tryz.func39, Tryz.ntmps39
    obtain ⟨q0, q1⟩ := gG.c2
    go_wp2_with fail
    refine (hMk.out _).mono ?_
    rintro e w1 ⟨rfl, hb1⟩
    have hB1 := hA.trans (hb1.mono hA.size)
    have gG1 := gG.keep hb1
    have c1 := hC.out _ hB1
    clear q0 q1 hb1 hMk gG
    go_wp2_with fail
    refine (hD.out _).mono ?_
    rintro e w2 ⟨rfl, hb2⟩
    have hB2 := hB1.trans (hb2.mono hB1.size)
    have hb3 := bZ w2 (.cells #[.int .i64 1, .int .i64 (c : Nat), .int .u64 (gn : Nat)] 70)
    have hB3 := hB2.trans (hb3.mono hB2.size)
    have gG3 := (gG1.keep hb2).keep hb3
    have gM3 := HB.new w2 #[.int .i64 1, .int .i64 (c : Nat), .int .u64 (gn : Nat)] 70
    clear c1 hb2 hD gG1
    obtain ⟨q0, q1⟩ := gG3.c2
    obtain ⟨m0, m1, m2⟩ : (w2.alloc (.cells #[.int .i64 1, .int .i64 (c : Nat), .int .u64 (gn : Nat)] 70)).cell? ⟨w2.heap.size, 0, none⟩ = some (.int .i64 1) ∧ (w2.alloc (.cells #[.int .i64 1, .int .i64 (c : Nat), .int .u64 (gn : Nat)] 70)).cell? ⟨w2.heap.size, 1, none⟩ = some (.int .i64 (c : Nat)) ∧ (w2.alloc (.cells #[.int .i64 1, .int .i64 (c : Nat), .int .u64 (gn : Nat)] 70)).cell? ⟨w2.heap.size, 2, none⟩ = some (.int .u64 (gn : Nat)) := ⟨(row_cell gM3 0).1, (row_cell gM3 1).1, (row_cell gM3 2).1⟩
    go_wp2_with fail
    refine (hNo.out _ hB3).mono ?_
    rintro e w4 ⟨v', rfl, hO, hb4⟩
    have hB4 := hB3.trans (hb4.mono hB3.size)
    clear q0 q1 m0 m1 m2 hNo hb4
    go_wp2_with fail
    go_ret2
    exact ⟨_, by rw [hyes.out]; rfl, by rw [hyes.out]; exact hO, hB4⟩
   by_cases h2 : mkS x = 2
   ·have hyes := lh (show laneD I L ln = decidedD I L ln c from by rw [hl2, if_neg h1, if_pos h2])
    rw [h2] at hD
    replace hD := lh (fun w1 => show Calls Tryz.prog 68 #[.int .u64 (x : Nat)] w1 (fun e w' => e = .returned (.tuple #[.agg #[.int .i64 2, .int .i64 (c : Nat), .int .u64 (gn : Nat)], .bool true]) ∧ Below w1.heap.size w1 w') from hD.out w1)
    replace hDe := lh (fun w1 (hb : Below w.heap.size w w1) => show Calls Tryz.prog 71 #[.slice (some ⟨g, off, none⟩) nn cap, .agg #[.int .i64 (nn : Nat), .int .i64 (L : Nat)], .int .i64 (ln : Nat), .agg #[.int .i64 2, .int .i64 (c : Nat), .int .u64 (gn : Nat)]] w1 (fun e w' => ∃ v', e = .returned (.tuple #[v', .bool (decidedD I L ln c).isSome]) ∧ OPL w' v' ((decidedD I L ln c).getD []) ∧ Below w1.heap.size w1 w') from hDe.out 2 w1 hb)
    clear hl2 hNo h1 h2
    go_enter Tryz.func39, Tryz.ntmps39
    obtain ⟨q0, q1⟩ := gG.c2
    go_wp2_with fail
    refine (hMk.out _).mono ?_
    rintro e w1 ⟨rfl, hb1⟩
    have hB1 := hA.trans (hb1.mono hA.size)
    have gG1 := gG.keep hb1
    have c1 := hC.out _ hB1
    clear q0 q1 hb1 hMk gG
    go_wp2_with fail
    refine (hD.out _).mono ?_
    rintro e w2 ⟨rfl, hb2⟩
    have hB2 := hB1.trans (hb2.mono hB1.size)
    have hb3 := bZ w2 (.cells #[.int .i64 2, .int .i64 (c : Nat), .int .u64 (gn : Nat)] 70)
    have hB3 := hB2.trans (hb3.mono hB2.size)
    have gG3 := (gG1.keep hb2).keep hb3
    have gM3 := HB.new w2 #[.int .i64 2, .int .i64 (c : Nat), .int .u64 (gn : Nat)] 70
    clear c1 hb2 hD gG1
    obtain ⟨q0, q1⟩ := gG3.c2
    obtain ⟨m0, m1, m2⟩ : (w2.alloc (.cells #[.int .i64 2, .int .i64 (c : Nat), .int .u64 (gn : Nat)] 70)).cell? ⟨w2.heap.size, 0, none⟩ = some (.int .i64 2) ∧ (w2.alloc (.cells #[.int .i64 2, .int .i64 (c : Nat), .int .u64 (gn : Nat)] 70)).cell? ⟨w2.heap.size, 1, none⟩ = some (.int .i64 (c : Nat)) ∧ (w2.alloc (.cells #[.int .i64 2, .int .i64 (c : Nat), .int .u64 (gn : Nat)] 70)).cell? ⟨w2.heap.size, 2, none⟩ = some (.int .u64 (gn : Nat)) := ⟨(row_cell gM3 0).1, (row_cell gM3 1).1, (row_cell gM3 2).1⟩
    go_wp2_with fail
    refine (hDe.out _ hB3).mono ?_
    rintro e w4 ⟨v', rfl, hO, hb4⟩
    have hB4 := hB3.trans (hb4.mono hB3.size)
    clear q0 q1 m0 m1 m2 hDe hb4
    go_wp2_with fail
    go_ret2
    exact ⟨_, by rw [hyes.out]; rfl, by rw [hyes.out]; exact hO, hB4⟩
   ·have hyes := lh (show laneD I L ln = some [] from by rw [hl2, if_neg h1, if_neg h2])
    generalize mkS x = st at *
    have h1' : ¬ ((st : Nat) : Int) = 1 := by omega
    have h2' : ¬ ((st : Nat) : Int) = 2 := by omega
    clear hl2 hNo hDe h1 h2
    go_enter Tryz.func39, Tryz.ntmps39
    obtain ⟨q0, q1⟩ := gG.c2
    go_wp2_with fail
    refine (hMk.out _).mono ?_
    rintro e w1 ⟨rfl, hb1⟩
    have hB1 := hA.trans (hb1.mono hA.size)
    have gG1 := gG.keep hb1
    have c1 := hC.out _ hB1
    clear q0 q1 hb1 hMk gG
    go_wp2_with fail
    refine (hD.out _).mono ?_
    rintro e w2 ⟨rfl, hb2⟩
    have hB2 := hB1.trans (hb2.mono hB1.size)
    have hb3 := bZ w2 (.cells #[.int .i64 (st : Nat), .int .i64 (c : Nat), .int .u64 (gn : Nat)] 70)
    have hB3 := hB2.trans (hb3.mono hB2.size)
    have gG3 := (gG1.keep hb2).keep hb3
    have gM3 := HB.new w2 #[.int .i64 (st : Nat), .int .i64 (c : Nat), .int .u64 (gn : Nat)] 70
    clear c1 hb2 hD gG1
    obtain ⟨q0, q1⟩ := gG3.c2
    obtain ⟨m0, m1, m2⟩ : (w2.alloc (.cells #[.int .i64 (st : Nat), .int .i64 (c : Nat), .int .u64 (gn : Nat)] 70)).cell? ⟨w2.heap.size, 0, none⟩ = some (.int .i64 (st : Nat)) ∧ (w2.alloc (.cells #[.int .i64 (st : Nat), .int .i64 (c : Nat), .int .u64 (gn : Nat)] 70)).cell? ⟨w2.heap.size, 1, none⟩ = some (.int .i64 (c : Nat)) ∧ (w2.alloc (.cells #[.int .i64 (st : Nat), .int .i64 (c : Nat), .int .u64 (gn : Nat)] 70)).cell? ⟨w2.heap.size, 2, none⟩ = some (.int .u64 (gn : Nat)) := ⟨(row_cell gM3 0).1, (row_cell gM3 1).1, (row_cell gM3 2).1⟩
    go_wp2_with fail
    go_ret2
    exact ⟨_, by rw [hyes.out]; rfl, by rw [hyes.out]; exact OPL.nil _, hB3⟩
theorem mlane_any (v : Value) (I : List Nat) (W L ln : Int) (w : World) (hw : Lw w) (hW : WL I) (hv : KL .u64 w v I) (hN : I.length ≤ 800) :
 Calls Tryz.prog 13 #[v, .agg #[.int .i64 W, .int .i64 L], .int .i64 ln] w fun e w' => ∃ v', e = .returned (.tuple #[v', .bool (laneP I W L ln).isSome]) ∧ OPL w' v' ((laneP I W L ln).getD []) ∧ Below w.heap.size w w' := by
 have hA := bZ w (.cells #[.int .i64 W, .int .i64 L] 33)
 have hR := lh (fun w1 (hb : Below w.heap.size w w1) => readable_any v I W L w1 (hw.keep hb) hW (hv.keep hb))
 obtain ⟨nn, hnn⟩ : ∃ n, I.length = n := ⟨_, rfl⟩
 have gC := C2.new w (.int .i64 W) (.int .i64 L) 33
 obtain ⟨C, hC⟩ : ∃ C, w.heap.size = C := ⟨_, rfl⟩
 rw [hC] at gC
 cases hr : readB I W L with
 | false =>
   have hno := lh (show laneP I W L ln = none from if_neg (by unfold laneB; rw [hr]; simp))
   rw [hr] at hR
   obtain ⟨q0, q1⟩ := id gC
   clear hr
   go_enter Tryz.func13, Tryz.ntmps13
   go_wp2_with fail
   refine (hR.out _ hA).mono ?_
   rintro e w1 ⟨rfl, hb1⟩
   have hB1 := hA.trans (hb1.mono hA.size)
   clear hb1 hR
   go_wp2_with fail
   go_ret2
   exact ⟨_, by rw [hno.out]; rfl, by rw [hno.out]; exact OPL.nil _, hB1⟩
 | true =>
   obtain ⟨hp, hW1, hL1⟩ := readB_t hr
   obtain ⟨L3, hL3⟩ : ∃ L3, I.getD 3 0 = L3 := ⟨_, rfl⟩
   have hgk := (gOk_pool (pool_t hp).1).2
   rw [hL3] at hL1 hgk
   rw [hnn] at hW1
   subst hW1
   subst hL1
   rw [hr] at hR
   have hsz := (pool_size hgk).2.1
   by_cases h0 : ln < 0
   ·have hno := lh (show laneP I (nn : Nat) (L3 : Nat) ln = none from if_neg (by unfold laneB; rw [hr, decide_eq_false (by omega)]; decide))
    obtain ⟨q0, q1⟩ := id gC
    clear hr hgk hp hL3
    go_enter Tryz.func13, Tryz.ntmps13
    go_wp2_with fail
    refine (hR.out _ hA).mono ?_
    rintro e w1 ⟨rfl, hb1⟩
    have hB1 := hA.trans (hb1.mono hA.size)
    clear hb1 hR
    go_wp2_with fail
    go_ret2
    exact ⟨_, by rw [hno.out]; rfl, by rw [hno.out]; exact OPL.nil _, hB1⟩
   obtain ⟨n, rfl⟩ := Int.eq_ofNat_of_zero_le (show 0 ≤ ln by omega)
   by_cases h1 : L3 ≤ n
   ·have hno := lh (show laneP I (nn : Nat) (L3 : Nat) (n : Nat) = none from if_neg (by unfold laneB; rw [hr, decide_eq_false (by omega)]; decide))
    have h1' : ((L3 : Int)) ≤ (n : Int) := by omega
    clear hr hgk hp hL3 h0
    go_enter Tryz.func13, Tryz.ntmps13
    obtain ⟨q0, q1⟩ := id gC
    go_wp2_with fail
    refine (hR.out _ hA).mono ?_
    rintro e w1 ⟨rfl, hb1⟩
    have hB1 := hA.trans (hb1.mono hA.size)
    obtain ⟨r0, r1⟩ := gC.keep hb1
    clear hb1 hR q0 q1
    go_wp2_with fail
    go_ret2
    exact ⟨_, by rw [hno.out]; rfl, by rw [hno.out]; exact OPL.nil _, hB1⟩
   ·have hyes := lh (show laneP I (nn : Nat) (L3 : Nat) (n : Nat) = laneD I L3 n from if_pos (by unfold laneB; rw [hr, decide_eq_true (by omega)]; decide))
    have hMl := lh (fun w1 (hb : Below w.heap.size w w1) => done_any v I L3 n w1 (hw.keep hb) hW (hv.keep hb) hgk (by omega) hN)
    rw [hnn] at hMl
    have h1' : ((n : Int)) < (L3 : Int) := by omega
    clear hr hgk hp hL3 h0
    go_enter Tryz.func13, Tryz.ntmps13
    obtain ⟨q0, q1⟩ := id gC
    go_wp2_with fail
    refine (hR.out _ hA).mono ?_
    rintro e w1 ⟨rfl, hb1⟩
    have hB1 := hA.trans (hb1.mono hA.size)
    obtain ⟨r0, r1⟩ := gC.keep hb1
    clear hb1 hR q0 q1
    go_wp2_with fail
    refine (hMl.out _ hB1).mono ?_
    rintro e w2 ⟨v', rfl, ho2, hb2⟩
    have hB2 := hB1.trans (hb2.mono hB1.size)
    have ho3 := lh ho2
    clear ho2 hb2 hMl
    go_wp2_with fail
    go_ret2
    exact ⟨_, by rw [hyes.out]; rfl, by rw [hyes.out]; exact ho3.out, hB2⟩
end Go.Proofs.YtkdhdibjbabgfaaGreatDoor
end
section
namespace Go.Proofs.YtkdhdibjbabgfaaGreatDoor
open Go.Lib Go.RowKit Go.ChangeShapes Go.WideShapes Go.Deep Go.Shelf
def mayO (B : List Bool) (o : Ox) : List Bool := if 0 ≤ o.2.1 ∧ o.2.1 < (B.length : Nat) then B.set o.2.1.toNat true else B
def mayS (B : List Bool) (l : List Ox) : List Bool := l.foldl mayO B
def mayL (I : List Nat) (L : Nat) : Nat → List Bool
 | 0 => List.replicate I.length false
 | k + 1 => mayS (mayL I L k) ((laneD I L k).getD [])
theorem mayO_len (B : List Bool) (o : Ox) : (mayO B o).length = B.length := by unfold mayO; split; exact List.length_set; rfl
theorem mayS_len : ∀ (l : List Ox) (B : List Bool), (mayS B l).length = B.length
 | [], _ => rfl
 | o :: l, B => by show (mayS (mayO B o) l).length = _; rw [mayS_len l, mayO_len]
theorem mayL_len (I : List Nat) (L : Nat) : ∀ k, (mayL I L k).length = I.length
 | 0 => by unfold mayL; rw [List.length_replicate]
 | k + 1 => by unfold mayL; rw [mayS_len, mayL_len I L k]
theorem getD_setB (l : List Bool) (i p : Nat) (a : Bool) : (l.set i a).getD p false = if i = p ∧ p < l.length then a else l.getD p false := by
 rw [List.getD_eq_getElem?_getD, List.getElem?_set, List.getD_eq_getElem?_getD]
 by_cases h : i = p
 ·subst h
  by_cases h2 : i < l.length
  ·simp [h2]
  ·simp [h2]
 ·simp [h]
theorem mayO_get (B : List Bool) (o : Ox) (p : Nat) (hp : p < B.length) : (mayO B o).getD p false = (B.getD p false || decide (o.2.1 = (p : Nat))) := by
 unfold mayO
 by_cases h : 0 ≤ o.2.1 ∧ o.2.1 < (B.length : Nat)
 ·rw [if_pos h, getD_setB]
  by_cases he : o.2.1 = (p : Nat)
  ·rw [if_pos ⟨by omega, hp⟩, decide_eq_true he, Bool.or_true]
  ·rw [if_neg (fun q => he (by omega)), decide_eq_false he, Bool.or_false]
 ·rw [if_neg h, decide_eq_false (fun q => h (by omega)), Bool.or_false]
theorem mayS_get (p : Nat) : ∀ (l : List Ox) (B : List Bool), p < B.length → (mayS B l).getD p false = (B.getD p false || l.any fun o => decide (o.2.1 = (p : Nat)))
 | [], B, _ => by simp [mayS]
 | o :: l, B, hp => by
   show (mayS (mayO B o) l).getD p false = _
   rw [mayS_get p l _ (by rw [mayO_len]; exact hp), mayO_get B o p hp, List.any_cons, Bool.or_assoc]
theorem lanes_each {I : List Nat} {L : Nat} : ∀ {k : Nat} {ops : List Ox}, lanesD I L k = some ops → ∀ j, j < k → ∃ l, laneD I L j = some l ∧ ∀ o ∈ l, o ∈ ops
 | 0, _, _, j, hj => by omega
 | k + 1, ops, h, j, hj => by
   unfold lanesD at h
   split at h
   ·rename_i a b ha hb
    cases h
    by_cases e : j = k
    ·subst e; exact ⟨b, hb, fun o ho => by simp [ho]⟩
    ·obtain ⟨l, h1, h2⟩ := lanes_each ha j (by omega)
     exact ⟨l, h1, fun o ho => by simp [h2 o ho]⟩
   ·cases h
theorem mayL_get {I : List Nat} {L : Nat} (p : Nat) (hp : p < I.length) : ∀ {k : Nat} {ops : List Ox}, lanesD I L k = some ops → (mayL I L k).getD p false = ops.any fun o => decide (o.2.1 = (p : Nat))
 | 0, ops, h => by
   unfold lanesD at h
   cases h
   unfold mayL
   rw [List.getD_eq_getElem?_getD, List.getElem?_replicate, if_pos hp]
   rfl
 | k + 1, ops, h => by
   unfold lanesD at h
   split at h
   ·rename_i a b ha hb
    cases h
    unfold mayL
    rw [mayS_get p _ _ (by rw [mayL_len]; exact hp), mayL_get p hp ha, hb, List.any_append]
    rfl
   ·cases h
theorem touch_1 {I J : List Nat} (h : mendD I = some J) (p : Nat) (hp : p < I.length) (hne : ¬ I.getD p 0 = J.getD p 0) : (10 ≤ p ∧ p < 10 + I.getD 3 0) ∨ (10 + 73 * I.getD 3 0 ≤ p ∧ p < 10 + 73 * I.getD 3 0 + gNat I.length (I.getD 3 0)) ∨ (mayL I (I.getD 3 0) (I.getD 3 0)).getD p false = true := by
 obtain ⟨hpb, ops, hl, rfl⟩ := mend_t h
 by_cases h1 : 10 ≤ p ∧ p < 10 + I.getD 3 0
 ·exact .inl h1
 ·by_cases h2 : 10 + 73 * I.getD 3 0 ≤ p ∧ p < 10 + 73 * I.getD 3 0 + gNat I.length (I.getD 3 0)
  ·exact .inr (.inl h2)
  ·right; right
   rw [restL_get _ _ _ (by rw [applyL_len]; exact hp), applyL_len, if_neg h2, if_neg h1] at hne
   rw [mayL_get p hp hl]
   cases hany : ops.any fun o => decide (o.2.1 = (p : Nat)) with
   | true => rfl
   | false =>
     exfalso
     refine hne (apply_other p ops I (fun o ho e => ?_)).symm
     have := List.any_eq_false.1 hany o ho
     exact this (decide_eq_true e)
theorem touch_2 {I J : List Nat} (h : mendD I = some J) (p : Nat) (hp : p < I.length) (hm : (mayL I (I.getD 3 0) (I.getD 3 0)).getD p false = true) : p = 8 ∨ 10 + 73 * I.getD 3 0 ≤ p := by
 obtain ⟨hpb, ops, hl, rfl⟩ := mend_t h
 rw [mayL_get p hp hl] at hm
 obtain ⟨o, ho, he⟩ := List.any_eq_true.1 hm
 have he := of_decide_eq_true he
 have := okOp_at (lanes_ok hl o ho)
 omega
end Go.Proofs.YtkdhdibjbabgfaaGreatDoor
end
