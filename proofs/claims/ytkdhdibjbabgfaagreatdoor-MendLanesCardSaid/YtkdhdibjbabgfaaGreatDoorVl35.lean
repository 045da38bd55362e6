/-
  Part of the proof of MendLanes.
-/
import Derived.Test.YtkdhdibjbabgfaaGreatDoorVl22
import Derived.Test.YtkdhdibjbabgfaaGreatDoorVl26
import Derived.Test.YtkdhdibjbabgfaaGreatDoorVl28
import Derived.Test.YtkdhdibjbabgfaaGreatDoorVl5
import Derived.Test.YtkdhdibjbabgfaaGreatDoorVl0
set_option maxRecDepth 10000
set_option maxHeartbeats 2000000
set_option linter.unusedVariables false
set_option linter.unusedSimpArgs false
section
namespace Go.Proofs.YtkdhdibjbabgfaaGreatDoor
def tabW (I : List Nat) (L : Nat) : List Nat := (I.drop (10 + 73 * L)).take (gNat I.length L)
def poolB (I : List Nat) : Bool := sOk I && (tabW I (I.getD 3 0)).all okN
def readB (I : List Nat) (W L : Int) : Bool := poolB I && decide (W = (I.length : Nat) ∧ L = (I.getD 3 0 : Nat))
def mkS (x : Nat) : Nat := x % 4
def mkC (x : Nat) : Nat := x / 4 % 16384
def mkG (x : Nat) : Nat := x / 65536
def mkOk (x : Nat) : Bool := okB (mkS x : Nat) (mkC x : Nat) (mkG x : Nat)
def chSp (N L i : Nat) : Sp := (((10 + 73 * L + gNat N L + i * 32 : Nat) : Int), 32)
def logSp (I : List Nat) (L ln : Nat) : List Sp := (((10 + L + ln * 72 : Nat) : Int), 32) :: (logsT (tabW I L) (ln : Nat)).map (chSp I.length L)
def inCh (N L : Nat) (a : Int) : Bool := decide (((10 + 73 * L + gNat N L : Nat) : Int) ≤ a ∧ a < ((10 + 73 * L + gNat N L + gNat N L * 32 : Nat) : Int))
def entOps (x : Pe) : List Ox := (List.range x.2.length).map fun i : Nat => ((0 : Int), x.1 + (i : Int), x.2.getD i 0)
def entIn (N L : Nat) (x : Pe) : Bool := inCh N L x.1 && inCh N L (x.1 + (x.2.length : Int) - 1)
def notedD (I : List Nat) (L ln c g : Nat) : Option (List Ox) :=
 if totS (logSp I L ln) < (c : Int) then none else
 match decL g (gathL I (cutL (logSp I L ln) (0, (c : Int)))) with
 | none => none
 | some es => if es.all (entIn I.length L) then some (es.reverse.flatMap entOps) else none
def redoW (I : List Nat) (L ln : Nat) : List Nat := (I.drop (10 + L + ln * 72 + 32)).take 40
def opIn (N L : Nat) (o : Ox) : Bool := decide (o.2.1 = 8 ∨ (((10 + 73 * L : Nat) : Int) ≤ o.2.1 ∧ o.2.1 < ((10 + 73 * L + gNat N L : Nat) : Int)))
def decidedD (I : List Nat) (L ln c : Nat) : Option (List Ox) :=
 if c ≤ 19 ∧ decB (redoW I L ln) c = true ∧ (opsN (redoW I L ln) c).all (opIn I.length L) = true then some (opsN (redoW I L ln) c) else none
def laneD (I : List Nat) (L ln : Nat) : Option (List Ox) :=
 if mkOk (I.getD (10 + ln) 0) then
  (if mkS (I.getD (10 + ln) 0) = 1 then notedD I L ln (mkC (I.getD (10 + ln) 0)) (mkG (I.getD (10 + ln) 0))
   else if mkS (I.getD (10 + ln) 0) = 2 then decidedD I L ln (mkC (I.getD (10 + ln) 0)) else some [])
 else none
def lanesD (I : List Nat) (L : Nat) : Nat → Option (List Ox)
 | 0 => some []
 | k + 1 => match lanesD I L k, laneD I L k with
   | some a, some b => some (a ++ b)
   | _, _ => none
def endN (x : Nat) : Nat := if mkOk x then mkG x * 65536 else 0
def idlesL (I : List Nat) : Nat → List Nat
 | 0 => I
 | k + 1 => (idlesL I k).set (10 + k) (endN ((idlesL I k).getD (10 + k) 0))
def noLog (x : Nat) : Nat := if okN x = true ∧ kN x = 4 then 0 else x
def clrL (I : List Nat) (L : Nat) : Nat → List Nat
 | 0 => I
 | k + 1 => (clrL I L k).set (10 + 73 * L + k) (noLog ((clrL I L k).getD (10 + 73 * L + k) 0))
def restL (I : List Nat) (L : Nat) : List Nat := clrL (idlesL I L) L (gNat I.length L)
def mendD (I : List Nat) : Option (List Nat) :=
 if poolB I then
  (match lanesD I (I.getD 3 0) (I.getD 3 0) with
   | none => none
   | some ops => some (restL (applyL I ops) (I.getD 3 0)))
 else none
theorem idlesL_len (I : List Nat) : ∀ k, (idlesL I k).length = I.length
 | 0 => rfl
 | k + 1 => by rw [idlesL, List.length_set, idlesL_len I k]
theorem clrL_len (I : List Nat) (L : Nat) : ∀ k, (clrL I L k).length = I.length
 | 0 => rfl
 | k + 1 => by rw [clrL, List.length_set, clrL_len I L k]
theorem pool_t {I : List Nat} (h : poolB I = true) : sOk I = true ∧ (tabW I (I.getD 3 0)).all okN = true := by
 unfold poolB at h; rw [Bool.and_eq_true] at h; exact h
theorem gOk_pool {I : List Nat} (h : sOk I = true) : 8 ≤ I.length ∧ gOk (I.length : Nat) (I.getD 3 0 : Nat) = true := by
 unfold sOk at h
 rw [Bool.and_eq_true, Bool.and_eq_true] at h
 exact ⟨of_decide_eq_true h.1, h.2.1⟩
theorem pool_size {N L : Nat} (h : gOk (N : Nat) (L : Nat) = true) : 1 ≤ L ∧ L ≤ 64 ∧ N ≤ 65536 ∧ 43 + 73 * L ≤ N ∧ gN (N : Nat) (L : Nat) = (gNat N L : Nat) ∧ 1 ≤ gNat N L ∧ gNat N L ≤ 2000 ∧ 10 + 73 * L + 33 * gNat N L ≤ N := by
 have h1 := gOk_t h
 have h2 := gN_bd h
 have h3 := gNat_eq h
 rw [h3] at h2
 refine ⟨by omega, by omega, by omega, by omega, h3, by omega, by omega, by omega⟩
theorem tabW_len {I : List Nat} {L : Nat} (h : gOk (I.length : Nat) (L : Nat) = true) : (tabW I L).length = gNat I.length L := by
 have := pool_size h
 unfold tabW
 rw [List.length_take, List.length_drop]; omega
theorem redoW_len {I : List Nat} {L ln : Nat} (h : gOk (I.length : Nat) (L : Nat) = true) (hl : ln < L) : (redoW I L ln).length = 40 := by
 have := pool_size h
 unfold redoW
 rw [List.length_take, List.length_drop]; omega
end Go.Proofs.YtkdhdibjbabgfaaGreatDoor
end
section
namespace Go.Proofs.YtkdhdibjbabgfaaGreatDoor
open Go.RowKit Go.ChangeShapes Go.WideShapes Go.Deep
theorem refLogs_any (v : Value) (t : List Nat) (lane : Int) (w : World) (hw : Lw w) (hv : KL .u64 w v t) (hW : WL t) (hl : t.length ≤ 1000) :
 Calls Tryz.prog 46 #[v, .int .i64 lane] w fun e W' => ∃ v', e = .returned v' ∧ IKO W' w.heap.size v' (logsT t lane) ∧ Below w.heap.size w W' := by
 have hCh := refChunks_any v t w hw hv hW (by omega)
 obtain ⟨R, hR⟩ : ∃ R, logsT t lane = R := ⟨_, rfl⟩
 rw [hR]
 obtain ⟨nn, hnn⟩ : ∃ n, t.length = n := ⟨_, rfl⟩
 obtain ⟨A, cap, rfl, _⟩ := hv.form hnn
 go_enter Tryz.func46, Tryz.ntmps46
 go_wp2_with fail
 refine hCh.mono ?_
 rintro e w1 ⟨hP, hb1⟩
 obtain ⟨v1, bb, t1, rfl, hk1, hok1, _, hl3, q1, q2⟩ := hP.some
 have hRt := lh (show R = logsR t1 lane 8 from by rw [← hR]; exact logsT_some lane q1 q2)
 obtain ⟨n, hn⟩ : ∃ n, t1.length = n := ⟨_, rfl⟩
 have hn9 : n ≤ 1000 := by omega
 obtain ⟨A1, c1, rfl, hC⟩ := CKL.form hk1 hn
 replace hC := lh hC
 have hR0 := lh (show logsR t1 lane 0 = [] from rfl)
 have hRs := lh (fun m => (show logsR t1 lane (m + 1) = logsR t1 lane m ++ logsN t1 lane m n from by rw [logsR_succ, hn]))
 have hRl := lh (fun m => (show (logsR t1 lane m).length ≤ m * n from by rw [← hn]; exact logsR_len t1 lane m))
 have hbs1 := hb1.size
 have hbw := lh hb1
 replace hn := lh hn
 clear hCh hP hv hW hR hnn hk1 hok1 q1 q2 hl3 hl hb1
 go_wp2_with fail
 go_loopw [8, 7] (fun i vr wr => ∃ (m : Nat) (l : List Nat), m ≤ 8 ∧ i = .int .i64 m ∧ l = logsR t1 lane m ∧ IKO wr w1.heap.size vr l ∧ Below w1.heap.size w1 wr) (fun i _ _ => 9 - (intOf i).toNat)
 case atStart => exact ⟨0, _, Nat.zero_le _, rfl, rfl, by rw [hR0.out]; exact OwnE.nil _ _ _ _ _, Below.refl _ _⟩
 case round =>
  obtain ⟨m, l, hm, rfl, rfl, hown0, hB0⟩ := hrel
  by_cases hlt0 : m < 8
  ·have hlt0' : (m : Int) < 8 := by omega
   have hRl' := hRl.out m
   have hm8 : m * n ≤ 7 * 1000 := Nat.mul_le_mul (by omega) hn9
   go_wp2_with fail
   go_loopw [9, 7] (fun i vr wr => ∃ (j : Nat) (l : List Nat), j ≤ n ∧ i = .int .i64 j ∧ l = logsR t1 lane m ++ logsN t1 lane m j ∧ IKO wr w1.heap.size vr l ∧ Below w1.heap.size w1 wr) (fun i _ _ => n + 1 - (intOf i).toNat)
   case atStart => exact ⟨0, _, Nat.zero_le _, rfl, rfl, by rw [show logsN t1 lane m 0 = [] from rfl, List.append_nil]; exact hown0, hB0⟩
   case round =>
    obtain ⟨j, l, hj, rfl, rfl, hown, hB⟩ := hrel
    by_cases hlt : j < n
    ·obtain ⟨g, off, rfl, hcap, hg, hg2, c0, c1, c2, c3, c4⟩ := hC.out wr j hB hlt
     have hlt' : (j : Int) < (n : Int) := by omega
     have hsc := logsN_succ t1 lane m j
     have hlF := logsN_len t1 lane m j
     have hisL : isLog t1 lane m j = (decide (kN (t1.getD j 0) = 4) && decide ((lnN (t1.getD j 0) : Int) = lane) && decide (mN (t1.getD j 0) = m)) := rfl
     generalize t1.getD j 0 = x at *
     obtain ⟨D, hD⟩ : ∃ D, logsR t1 lane m ++ logsN t1 lane m j = D := ⟨_, rfl⟩
     have hDl : D.length ≤ 8000 := by rw [← hD, List.length_append]; omega
     rw [hD] at hown
     obtain ⟨L, hL⟩ : ∃ L, D.length = L := ⟨_, rfl⟩
     obtain ⟨Av, cv, rfl⟩ := intForm hown hL
     obtain ⟨ik, hik⟩ : ∃ z : Int, ((kN x : Nat) : Int) = z := ⟨_, rfl⟩
     obtain ⟨il, hil⟩ : ∃ z : Int, ((lnN x : Nat) : Int) = z := ⟨_, rfl⟩
     obtain ⟨im, him⟩ : ∃ z : Int, ((mN x : Nat) : Int) = z := ⟨_, rfl⟩
     rw [hik] at c0
     rw [hil] at c2 hisL
     rw [him] at c3
     have hno : ¬ (kN x = 4 ∧ il = lane ∧ mN x = m) → Hid (logsR t1 lane m ++ logsN t1 lane m (j + 1) = D) := fun h => by
      show _ = _
      rw [hsc, hisL, ← hD]
      have : (decide (kN x = 4) && decide (il = lane) && decide (mN x = m)) = false := by
       rw [Bool.eq_false_iff]; intro q; simp only [Bool.and_eq_true, decide_eq_true_eq] at q; exact h ⟨q.1.1, q.1.2, q.2⟩
      rw [this]; simp
     by_cases k4 : ik = 4
     ·subst k4
      by_cases kl : il = lane
      ·subst kl
       by_cases km : mN x = m
       ·have km' : im = (m : Int) := by omega
        rw [km'] at c3
        have hst := lh (show logsR t1 il m ++ logsN t1 il m (j + 1) = D ++ [j] from by rw [hsc, hisL, decide_eq_true (show kN x = 4 by omega), decide_eq_true rfl, decide_eq_true km, ← hD, List.append_assoc]; rfl)
        obtain ⟨v', w4, hrun, ho, hb⟩ := appI_ti (x := j) hown (by have := hB.size; omega) (by omega)
        have hB6 := hB.trans (hb.mono (Nat.le_refl _))
        replace hL := lh hL
        replace hD := lh hD
        clear hsc hlF hisL hik hil him km km' hno hown hb hDl hRl'
        go_wp2_with (at_builtin; refine wpList_append_run rfl _ _ 87 rfl _ _ _ rfl rfl hrun ?_)
        go_roundw
        case rel => exact ⟨j + 1, _, by omega, by go_num, rfl, by rw [hst.out]; exact ho, hB6⟩
        case measure => first | (simp [intOf]; done) | (simp [intOf]; omega)
       ·have km' : ¬ im = (m : Int) := by omega
        have km2 : (im == (m : Int)) = false := by rw [beq_eq_false_iff_ne]; exact km'
        have hst := hno (fun q => km q.2.2)
        replace hL := lh hL
        replace hD := lh hD
        clear hsc hlF hisL hik hil him km hno hDl hRl'
        go_wp2_with fail
        go_roundw
        case rel => exact ⟨j + 1, _, by omega, by go_num, rfl, by rw [hst.out]; exact hown, hB⟩
        case measure => first | (simp [intOf]; done) | (simp [intOf]; omega)
      ·have hst := hno (fun q => kl q.2.1)
       replace hL := lh hL
       replace hD := lh hD
       clear hsc hlF hisL hik hil him hno hDl hRl'
       go_wp2_with fail
       go_roundw
       case rel => exact ⟨j + 1, _, by omega, by go_num, rfl, by rw [hst.out]; exact hown, hB⟩
       case measure => first | (simp [intOf]; done) | (simp [intOf]; omega)
     ·have hst := hno (fun q => k4 (by have := q.1; omega))
      replace hL := lh hL
      replace hD := lh hD
      clear hsc hlF hisL hik hil him hno hDl hRl'
      go_wp2_with fail
      go_roundw
      case rel => exact ⟨j + 1, _, by omega, by go_num, rfl, by rw [hst.out]; exact hown, hB⟩
      case measure => first | (simp [intOf]; done) | (simp [intOf]; omega)
    ·obtain rfl : j = n := by omega
     have hst := lh (hRs.out m).symm
     go_wp2_with fail
     go_roundw
     case rel => exact ⟨m + 1, _, by omega, by go_num, rfl, by rw [← hst.out]; exact hown, hB⟩
     case measure => first | (simp [intOf]; done) | (simp [intOf]; omega)
  ·obtain rfl : m = 8 := by omega
   have hfin := lh (show IKO wr w.heap.size u7 R ∧ Below w.heap.size w wr from ⟨by rw [hRt.out]; exact hown0.mono hbs1, hbw.out.trans (hB0.mono hbs1)⟩)
   clear hown0 hB0
   go_wp2_with fail
   go_ret
   exact ⟨_, rfl, hfin.out⟩
theorem IKO.kl {w : World} {base : Nat} {v : Value} {l : List Nat} (h : IKO w base v l) : KL .i64 w v l := by
 obtain ⟨A, cap, hv, hc⟩ := OwnE.el eI_len h
 refine ⟨A, cap, hv, fun hl => ?_⟩
 obtain ⟨g, off, hA, hg, hcp, hi⟩ := hc hl
 refine ⟨g, off, hA, hg, hcp, fun i hil => ?_⟩
 have := hi i hil 0 (by decide)
 simpa [eI] using this
end Go.Proofs.YtkdhdibjbabgfaaGreatDoor
end
