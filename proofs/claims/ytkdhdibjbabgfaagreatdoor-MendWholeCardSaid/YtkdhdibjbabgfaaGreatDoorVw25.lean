/-
  Part of the proof of MendWhole.
-/
import Derived.Test.YtkdhdibjbabgfaaGreatDoorVw24
import Derived.Maps.AppendAt
import Derived.Test.YtkdhdibjbabgfaaGreatDoorVw0
set_option maxRecDepth 10000
set_option maxHeartbeats 2000000
set_option linter.unusedVariables false
set_option linter.unusedSimpArgs false
section
namespace Go.Proofs.YtkdhdibjbabgfaaGreatDoor
open Go.RowKit
theorem rdec_any (v : Value) (l : List Nat) (N : Nat) (w : World) (hn : l.length = N) (hN : N ≤ 1000000) (hv : SL w v l) :
 Calls Tryz.prog 24 #[v] w fun e w' => e = .returned (decR N (l.getD 3 0) (sOk l)) ∧ Below w.heap.size w w' := by
 by_cases h8 : N < 8
 ·have := rdec_short v l N w hn h8 hv
  rw [sOk_short (by omega)]
  exact this
 ·obtain ⟨M, hM⟩ : ∃ M, l.length = M + 1 := ⟨l.length - 1, by omega⟩
  obtain ⟨g, o, p, rfl, hg, hp, hc⟩ := hv.pos hM
  rw [← hM, hn] at hp hc ⊢
  exact rdec_in l N g o p w hn (by omega) hN hg hp hc
end Go.Proofs.YtkdhdibjbabgfaaGreatDoor
end
section
namespace Go.Proofs.YtkdhdibjbabgfaaGreatDoor
open Go.RowKit Go.ChangeShapes Go.WideShapes Go.Deep
def decD (ws : List Nat) (k : Nat) : List Ox := if decB ws k = true then opsN ws k else []
theorem dec_n (v : Value) (ws : List Nat) (k : Nat) (w : World) (hv : KL .u64 w v ws) (hW : WL ws) (hlen : ws.length ≤ 900) (hk : k ≤ 19) (hkl : 2 * k + 1 ≤ ws.length) :
 Calls Tryz.prog 103 #[v, .int .i64 (k : Nat)] w fun e w' => ∃ v', e = .returned (.tuple #[v', .bool (decB ws k)]) ∧ OPL w' v' (decD ws k) ∧ Below w.heap.size w w' := by
 unfold decD
 cases hd : decB ws k with
 | true =>
   refine (dec_t v ws k w hv hW hlen hk hkl hd).mono ?_
   rintro e w' ⟨v', rfl, ho, hb⟩
   exact ⟨v', rfl, ho.opl, hb⟩
 | false =>
   refine (dec_f v ws k w hv hW hlen hk hkl hd).mono ?_
   rintro e w' ⟨rfl, hb⟩
   exact ⟨_, rfl, EL.nil _ _ _ _ _, hb⟩
theorem refDec_n (v : Value) (ws : List Nat) (k : Nat) (w : World) (hv : KL .u64 w v ws) (hW : WL ws) (hlen : ws.length ≤ 900) (hk : k ≤ 19) (hkl : 2 * k + 1 ≤ ws.length) :
 Calls Tryz.prog 75 #[v, .int .i64 (k : Nat)] w fun e w' => ∃ v', e = .returned (.tuple #[v', .bool (decB ws k)]) ∧ OPL w' v' (decD ws k) ∧ Below w.heap.size w w' := by
 unfold decD
 cases hd : decB ws k with
 | true =>
   refine (refDec_t v ws k w hv hW hlen hk hkl hd).mono ?_
   rintro e w' ⟨v', rfl, ho, hb⟩
   exact ⟨v', rfl, ho.opl, hb⟩
 | false =>
   refine (refDec_f v ws k w hv hW hlen hk hkl hd).mono ?_
   rintro e w' ⟨rfl, hb⟩
   exact ⟨_, rfl, EL.nil _ _ _ _ _, hb⟩
end Go.Proofs.YtkdhdibjbabgfaaGreatDoor
end
section
namespace Go.Proofs.YtkdhdibjbabgfaaGreatDoor
open Go.RowKit Go.ChangeShapes Go.WideShapes Go.Deep
theorem refLogs_any (v : Value) (t : List Nat) (lane : Int) (w : World) (hw : Lw w) (hv : KL .u64 w v t) (hW : WL t) (hl : t.length ≤ 1000) :
 Calls Tryz.prog 46 #[v, .int .i64 lane] w fun e W' => ∃ v', e = .returned v' ∧ IKO W' w.heap.size v' (logsT t lane) ∧ Below w.heap.size w W' := by
 have hCh := refChunks_any v t w hw hv hW (by omega)
 obtain ⟨R, hR⟩ : ∃ R, logsT t lane = R := ⟨_, rfl⟩
 rw [hR]
 obtain ⟨nn, hnn⟩ : ∃ n, t.length = n := ⟨_, rfl⟩
 obtain ⟨A, cap, rfl, _⟩ := hv.form hnn
 go_enter Tryz.func46, Tryz.ntmps46
 go_wp2_with fail
 refine hCh.mono ?_
 rintro e w1 ⟨hP, hb1⟩
 obtain ⟨v1, bb, t1, rfl, hk1, hok1, _, hl3, q1, q2⟩ := hP.some
 have hRt := lh (show R = logsR t1 lane 8 from by rw [← hR]; exact logsT_some lane q1 q2)
 obtain ⟨n, hn⟩ : ∃ n, t1.length = n := ⟨_, rfl⟩
 have hn9 : n ≤ 1000 := by omega
 obtain ⟨A1, c1, rfl, hC⟩ := CKL.form hk1 hn
 replace hC := lh hC
 have hR0 := lh (show logsR t1 lane 0 = [] from rfl)
 have hRs := lh (fun m => (show logsR t1 lane (m + 1) = logsR t1 lane m ++ logsN t1 lane m n from by rw [logsR_succ, hn]))
 have hRl := lh (fun m => (show (logsR t1 lane m).length ≤ m * n from by rw [← hn]; exact logsR_len t1 lane m))
 have hbs1 := hb1.size
 have hbw := lh hb1
 replace hn := lh hn
 clear hCh hP hv hW hR hnn hk1 hok1 q1 q2 hl3 hl hb1
 go_wp2_with fail
 go_loopw [8, 7] (fun i vr wr => ∃ (m : Nat) (l : List Nat), m ≤ 8 ∧ i = .int .i64 m ∧ l = logsR t1 lane m ∧ IKO wr w1.heap.size vr l ∧ Below w1.heap.size w1 wr) (fun i _ _ => 9 - (intOf i).toNat)
 case atStart => exact ⟨0, _, Nat.zero_le _, rfl, rfl, by rw [hR0.out]; exact OwnE.nil _ _ _ _ _, Below.refl _ _⟩
 case round =>
  obtain ⟨m, l, hm, rfl, rfl, hown0, hB0⟩ := hrel
  by_cases hlt0 : m < 8
  ·have hlt0' : (m : Int) < 8 := by omega
   have hRl' := hRl.out m
   have hm8 : m * n ≤ 7 * 1000 := Nat.mul_le_mul (by omega) hn9
   go_wp2_with fail
   go_loopw [9, 7] (fun i vr wr => ∃ (j : Nat) (l : List Nat), j ≤ n ∧ i = .int .i64 j ∧ l = logsR t1 lane m ++ logsN t1 lane m j ∧ IKO wr w1.heap.size vr l ∧ Below w1.heap.size w1 wr) (fun i _ _ => n + 1 - (intOf i).toNat)
   case atStart => exact ⟨0, _, Nat.zero_le _, rfl, rfl, by rw [show logsN t1 lane m 0 = [] from rfl, List.append_nil]; exact hown0, hB0⟩
   case round =>
    obtain ⟨j, l, hj, rfl, rfl, hown, hB⟩ := hrel
    by_cases hlt : j < n
    ·obtain ⟨g, off, rfl, hcap, hg, hg2, c0, c1, c2, c3, c4⟩ := hC.out wr j hB hlt
     have hlt' : (j : Int) < (n : Int) := by omega
     have hsc := logsN_succ t1 lane m j
     have hlF := logsN_len t1 lane m j
     have hisL : isLog t1 lane m j = (decide (kN (t1.getD j 0) = 4) && decide ((lnN (t1.getD j 0) : Int) = lane) && decide (mN (t1.getD j 0) = m)) := rfl
     generalize t1.getD j 0 = x at *
     obtain ⟨D, hD⟩ : ∃ D, logsR t1 lane m ++ logsN t1 lane m j = D := ⟨_, rfl⟩
     have hDl : D.length ≤ 8000 := by rw [← hD, List.length_append]; omega
     rw [hD] at hown
     obtain ⟨L, hL⟩ : ∃ L, D.length = L := ⟨_, rfl⟩
     obtain ⟨Av, cv, rfl⟩ := intForm hown hL
     obtain ⟨ik, hik⟩ : ∃ z : Int, ((kN x : Nat) : Int) = z := ⟨_, rfl⟩
     obtain ⟨il, hil⟩ : ∃ z : Int, ((lnN x : Nat) : Int) = z := ⟨_, rfl⟩
     obtain ⟨im, him⟩ : ∃ z : Int, ((mN x : Nat) : Int) = z := ⟨_, rfl⟩
     rw [hik] at c0
     rw [hil] at c2 hisL
     rw [him] at c3
     have hno : ¬ (kN x = 4 ∧ il = lane ∧ mN x = m) → Hid (logsR t1 lane m ++ logsN t1 lane m (j + 1) = D) := fun h => by
      show _ = _
      rw [hsc, hisL, ← hD]
      have : (decide (kN x = 4) && decide (il = lane) && decide (mN x = m)) = false := by
       rw [Bool.eq_false_iff]; intro q; simp only [Bool.and_eq_true, decide_eq_true_eq] at q; exact h ⟨q.1.1, q.1.2, q.2⟩
      rw [this]; simp
     by_cases k4 : ik = 4
     ·subst k4
      by_cases kl : il = lane
      ·subst kl
       by_cases km : mN x = m
       ·have km' : im = (m : Int) := by omega
        rw [km'] at c3
        have hst := lh (show logsR t1 il m ++ logsN t1 il m (j + 1) = D ++ [j] from by rw [hsc, hisL, decide_eq_true (show kN x = 4 by omega), decide_eq_true rfl, decide_eq_true km, ← hD, List.append_assoc]; rfl)
        obtain ⟨v', w4, hrun, ho, hb⟩ := appI_ti (x := j) hown (by have := hB.size; omega) (by omega)
        have hB6 := hB.trans (hb.mono (Nat.le_refl _))
        replace hL := lh hL
        replace hD := lh hD
        clear hsc hlF hisL hik hil him km km' hno hown hb hDl hRl'
        go_wp2_with (at_builtin; refine wpList_append_run rfl _ _ 87 rfl _ _ _ rfl rfl hrun ?_)
        go_roundw
        case rel => exact ⟨j + 1, _, by omega, by go_num, rfl, by rw [hst.out]; exact ho, hB6⟩
        case measure => first | (simp [intOf]; done) | (simp [intOf]; omega)
       ·have km' : ¬ im = (m : Int) := by omega
        have km2 : (im == (m : Int)) = false := by rw [beq_eq_false_iff_ne]; exact km'
        have hst := hno (fun q => km q.2.2)
        replace hL := lh hL
        replace hD := lh hD
        clear hsc hlF hisL hik hil him km hno hDl hRl'
        go_wp2_with fail
        go_roundw
        case rel => exact ⟨j + 1, _, by omega, by go_num, rfl, by rw [hst.out]; exact hown, hB⟩
        case measure => first | (simp [intOf]; done) | (simp [intOf]; omega)
      ·have hst := hno (fun q => kl q.2.1)
       replace hL := lh hL
       replace hD := lh hD
       clear hsc hlF hisL hik hil him hno hDl hRl'
       go_wp2_with fail
       go_roundw
       case rel => exact ⟨j + 1, _, by omega, by go_num, rfl, by rw [hst.out]; exact hown, hB⟩
       case measure => first | (simp [intOf]; done) | (simp [intOf]; omega)
     ·have hst := hno (fun q => k4 (by have := q.1; omega))
      replace hL := lh hL
      replace hD := lh hD
      clear hsc hlF hisL hik hil him hno hDl hRl'
      go_wp2_with fail
      go_roundw
      case rel => exact ⟨j + 1, _, by omega, by go_num, rfl, by rw [hst.out]; exact hown, hB⟩
      case measure => first | (simp [intOf]; done) | (simp [intOf]; omega)
    ·obtain rfl : j = n := by omega
     have hst := lh (hRs.out m).symm
     go_wp2_with fail
     go_roundw
     case rel => exact ⟨m + 1, _, by omega, by go_num, rfl, by rw [← hst.out]; exact hown, hB⟩
     case measure => first | (simp [intOf]; done) | (simp [intOf]; omega)
  ·obtain rfl : m = 8 := by omega
   have hfin := lh (show IKO wr w.heap.size u7 R ∧ Below w.heap.size w wr from ⟨by rw [hRt.out]; exact hown0.mono hbs1, hbw.out.trans (hB0.mono hbs1)⟩)
   clear hown0 hB0
   go_wp2_with fail
   go_ret
   exact ⟨_, rfl, hfin.out⟩
theorem IKO.kl {w : World} {base : Nat} {v : Value} {l : List Nat} (h : IKO w base v l) : KL .i64 w v l := by
 obtain ⟨A, cap, hv, hc⟩ := OwnE.el eI_len h
 refine ⟨A, cap, hv, fun hl => ?_⟩
 obtain ⟨g, off, hA, hg, hcp, hi⟩ := hc hl
 refine ⟨g, off, hA, hg, hcp, fun i hil => ?_⟩
 have := hi i hil 0 (by decide)
 simpa [eI] using this
end Go.Proofs.YtkdhdibjbabgfaaGreatDoor
end
