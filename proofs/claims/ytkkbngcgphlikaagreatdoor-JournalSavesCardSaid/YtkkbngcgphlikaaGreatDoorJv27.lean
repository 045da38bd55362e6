/-
  Part of the proof of JournalSaves.
-/
import Derived.Test.YtkkbngcgphlikaaGreatDoorJv1
import Derived.Test.YtkkbngcgphlikaaGreatDoorJv10
import Derived.Test.YtkkbngcgphlikaaGreatDoorJv11
import Derived.Test.YtkkbngcgphlikaaGreatDoorJv12
import Derived.Test.YtkkbngcgphlikaaGreatDoorJv13
import Derived.Test.YtkkbngcgphlikaaGreatDoorJv14
import Derived.Test.YtkkbngcgphlikaaGreatDoorJv15
import Derived.Test.YtkkbngcgphlikaaGreatDoorJv16
import Derived.Test.YtkkbngcgphlikaaGreatDoorJv17
import Derived.Test.YtkkbngcgphlikaaGreatDoorJv18
import Derived.Test.YtkkbngcgphlikaaGreatDoorJv19
import Derived.Test.YtkkbngcgphlikaaGreatDoorJv2
import Derived.Test.YtkkbngcgphlikaaGreatDoorJv20
import Derived.Test.YtkkbngcgphlikaaGreatDoorJv21
import Derived.Test.YtkkbngcgphlikaaGreatDoorJv22
import Derived.Test.YtkkbngcgphlikaaGreatDoorJv23
import Derived.Test.YtkkbngcgphlikaaGreatDoorJv24
import Derived.Test.YtkkbngcgphlikaaGreatDoorJv25
import Derived.Test.YtkkbngcgphlikaaGreatDoorJv26
import Derived.Test.YtkkbngcgphlikaaGreatDoorJv3
import Derived.Test.YtkkbngcgphlikaaGreatDoorJv4
import Derived.Test.YtkkbngcgphlikaaGreatDoorJv5
import Derived.Test.YtkkbngcgphlikaaGreatDoorJv6
import Derived.Test.YtkkbngcgphlikaaGreatDoorJv7
import Derived.Test.YtkkbngcgphlikaaGreatDoorJv8
import Derived.Test.YtkkbngcgphlikaaGreatDoorJv9
import Derived.Test.YtkkbngcgphlikaaGreatDoorRows
import Derived.ArgAppend
import Derived.BigQuiet
import Derived.BigRegion
import Derived.Carry
import Derived.ChangeKeysEq
import Derived.ChangeSlices
import Derived.Deep.QuietTactic
import Derived.Deep.RegionHeld3
import Derived.Deep.SlicePairs
import Derived.Handy
import Derived.Laws.BitsAllLaws
import Derived.Laws.CopyOwn
import Derived.Laws.EntriesVeiled
import Derived.Laws.OwnMore
import Derived.Laws.ResultCell
import Derived.Laws.ShiftsVarLaws
import Derived.Lib.AppendZerosOnto
import Derived.Lib.Hide
import Derived.Lib.SliceRun
import Derived.LoopIn
import Derived.LoopNIn
import Derived.Maps.AppendAt
import Derived.OpenShut
import Derived.OwnWalk
import Derived.OwnWalkIn
import Derived.ProofKit
import Derived.RangeFuncBound
import Derived.RangeFuncBox
import Derived.RangeFuncCalls
import Derived.RangeFuncFrom
import Derived.RangeFuncLeaves
import Derived.RangeFuncNested
import Derived.RangeFuncWrites
import Derived.Scope
import Derived.Shelf.Abstract
import Derived.Shelf.RegionOpen
import Derived.StillTail
import Derived.TacticsInMore
import Derived.WalkKit
import Derived.WalkLawsBesides
import Derived.WalkSpells
import Derived.Test.YtkkbngcgphlikaaGreatDoorJv0
set_option maxRecDepth 10000
set_option maxHeartbeats 2000000
set_option linter.unusedVariables false
set_option linter.unusedSimpArgs false
section
namespace Go.Proofs.YtkkbngcgphlikaaGreatDoor
def tabW (I : List Nat) (L : Nat) : List Nat := (I.drop (10 + 73 * L)).take (gNat I.length L)
def poolB (I : List Nat) : Bool := sOk I && (tabW I (I.getD 3 0)).all okN
def readB (I : List Nat) (W L : Int) : Bool := poolB I && decide (W = (I.length : Nat) ∧ L = (I.getD 3 0 : Nat))
def mkS (x : Nat) : Nat := x % 4
def mkC (x : Nat) : Nat := x / 4 % 16384
def mkG (x : Nat) : Nat := x / 65536
def mkOk (x : Nat) : Bool := okB (mkS x : Nat) (mkC x : Nat) (mkG x : Nat)
def chSp (N L i : Nat) : Sp := (((10 + 73 * L + gNat N L + i * 32 : Nat) : Int), 32)
def logSp (I : List Nat) (L ln : Nat) : List Sp := (((10 + L + ln * 72 : Nat) : Int), 32) :: (logsT (tabW I L) (ln : Nat)).map (chSp I.length L)
theorem pool_t {I : List Nat} (h : poolB I = true) : sOk I = true ∧ (tabW I (I.getD 3 0)).all okN = true := by
 unfold poolB at h; rw [Bool.and_eq_true] at h; exact h
theorem gOk_pool {I : List Nat} (h : sOk I = true) : 8 ≤ I.length ∧ gOk (I.length : Nat) (I.getD 3 0 : Nat) = true := by
 unfold sOk at h
 rw [Bool.and_eq_true, Bool.and_eq_true] at h
 exact ⟨of_decide_eq_true h.1, h.2.1⟩
theorem pool_size {N L : Nat} (h : gOk (N : Nat) (L : Nat) = true) : 1 ≤ L ∧ L ≤ 64 ∧ N ≤ 65536 ∧ 43 + 73 * L ≤ N ∧ gN (N : Nat) (L : Nat) = (gNat N L : Nat) ∧ 1 ≤ gNat N L ∧ gNat N L ≤ 2000 ∧ 10 + 73 * L + 33 * gNat N L ≤ N := by
 have h1 := gOk_t h
 have h2 := gN_bd h
 have h3 := gNat_eq h
 rw [h3] at h2
 refine ⟨by omega, by omega, by omega, by omega, h3, by omega, by omega, by omega⟩
theorem tabW_len {I : List Nat} {L : Nat} (h : gOk (I.length : Nat) (L : Nat) = true) : (tabW I L).length = gNat I.length L := by
 have := pool_size h
 unfold tabW
 rw [List.length_take, List.length_drop]; omega
end Go.Proofs.YtkkbngcgphlikaaGreatDoor
end
section
namespace Go.Proofs.YtkkbngcgphlikaaGreatDoor
open Go.Lib Go.RowKit Go.ChangeShapes Go.WideShapes Go.Deep
theorem run_slice3 {P : Program} {ty el : TypeId} {i0 : TypeInfo} (hu : P.underlying ty = some (.slice el)) (hi : P.info? el = some i0) (h1 : i0.size = 1) (g off n cap f e m : Nat) (h : f ≤ e) (h2 : e ≤ cap) (hm : m = e - f) (hm0 : 0 < m) (w : World) :
 (Instr.slice ty (.slice (some ⟨g, off, none⟩) n cap) (some (.int .i64 (f : Int))) (some (.int .i64 (e : Int))) (some (.int .i64 (e : Int)))).run P w = .ok (.slice (some ⟨g, off + f, none⟩) m m) w := by
 have h3 : (e : Int) ≤ (cap : Int) := by omega
 have h4 : (0 : Int) ≤ (e : Int) := by omega
 have h5 : (f : Int) ≤ (e : Int) := by omega
 have h6 : (0 : Int) ≤ (f : Int) := by omega
 subst hm
 simp [Instr.slice, run_underlying hu, Instr.sliceBounds, Instr.sliceBound, asIntOf, sizeOf, typeInfo, hi, h1, h3, h4, h5, h6, go_sem]
 rw [if_pos h2, if_pos h, if_neg (by omega)]
theorem mwords_any (g off n cap f m : Nat) (w : World) (h1 : f + m ≤ n) (h2 : n ≤ cap) (h3 : 1 ≤ m) (hn : n ≤ 100000) :
 Calls Tryz.prog 119 #[.slice (some ⟨g, off, none⟩) n cap, .agg #[.int .i64 (f : Nat), .int .i64 (m : Nat)]] w fun e w' => e = .returned (.slice (some ⟨g, off + f, none⟩) m m) ∧ Below w.heap.size w w' := by
 have hA := bZ w (.cells #[.int .i64 (f : Nat), .int .i64 (m : Nat)] 70)
 obtain ⟨e, he⟩ : ∃ e, f + m = e := ⟨_, rfl⟩
 have w1 : IntKind.i64.wrap ((f : Int) + (m : Int)) = (e : Int) := by rw [IntKind.wrap_i64]; omega
 have w2 : (f : Int) + (m : Int) = (e : Int) := by omega
 obtain ⟨i0, hi, hz0, hz1, hz2⟩ := info_parts infoU64
 have hS := fun w => run_slice3 (P := Tryz.prog) Tryz.underlying25 hi hz1 g off n cap f e m (by omega) (by omega) (by omega) (by omega) w
 replace he := lh he
 go_enter Tryz.func119, Tryz.ntmps119
 go_wp2_with fail
 go_ret
 exact ⟨rfl, hA⟩
end Go.Proofs.YtkkbngcgphlikaaGreatDoor
end
section
namespace Go.Proofs.YtkkbngcgphlikaaGreatDoor
open Go.RowKit Go.ChangeShapes Go.WideShapes Go.Deep
theorem refLogs_any (v : Value) (t : List Nat) (lane : Int) (w : World) (hw : Lw w) (hv : KL .u64 w v t) (hW : WL t) (hl : t.length ≤ 1000) :
 Calls Tryz.prog 138 #[v, .int .i64 lane] w fun e W' => ∃ v', e = .returned v' ∧ IKO W' w.heap.size v' (logsT t lane) ∧ Below w.heap.size w W' := by
 have hCh := refChunks_any v t w hw hv hW (by omega)
 obtain ⟨R, hR⟩ : ∃ R, logsT t lane = R := ⟨_, rfl⟩
 rw [hR]
 obtain ⟨nn, hnn⟩ : ∃ n, t.length = n := ⟨_, rfl⟩
 obtain ⟨A, cap, rfl, _⟩ := hv.form hnn
 go_enter Tryz.func138, Tryz.ntmps138
 go_wp2_with fail
 refine hCh.mono ?_
 rintro e w1 ⟨hP, hb1⟩
 obtain ⟨v1, bb, t1, rfl, hk1, hok1, _, hl3, q1, q2⟩ := hP.some
 have hRt := lh (show R = logsR t1 lane 8 from by rw [← hR]; exact logsT_some lane q1 q2)
 obtain ⟨n, hn⟩ : ∃ n, t1.length = n := ⟨_, rfl⟩
 have hn9 : n ≤ 1000 := by omega
 obtain ⟨A1, c1, rfl, hC⟩ := CKL.form hk1 hn
 replace hC := lh hC
 have hR0 := lh (show logsR t1 lane 0 = [] from rfl)
 have hRs := lh (fun m => (show logsR t1 lane (m + 1) = logsR t1 lane m ++ logsN t1 lane m n from by rw [logsR_succ, hn]))
 have hRl := lh (fun m => (show (logsR t1 lane m).length ≤ m * n from by rw [← hn]; exact logsR_len t1 lane m))
 have hbs1 := hb1.size
 have hbw := lh hb1
 replace hn := lh hn
 clear hCh hP hv hW hR hnn hk1 hok1 q1 q2 hl3 hl hb1
 go_wp2_with fail
 go_loopw [8, 7] (fun i vr wr => ∃ (m : Nat) (l : List Nat), m ≤ 8 ∧ i = .int .i64 m ∧ l = logsR t1 lane m ∧ IKO wr w1.heap.size vr l ∧ Below w1.heap.size w1 wr) (fun i _ _ => 9 - (intOf i).toNat)
 case atStart => exact ⟨0, _, Nat.zero_le _, rfl, rfl, by rw [hR0.out]; exact OwnE.nil _ _ _ _ _, Below.refl _ _⟩
 case round =>
  obtain ⟨m, l, hm, rfl, rfl, hown0, hB0⟩ := hrel
  by_cases hlt0 : m < 8
  ·have hlt0' : (m : Int) < 8 := by omega
   have hRl' := hRl.out m
   have hm8 : m * n ≤ 7 * 1000 := Nat.mul_le_mul (by omega) hn9
   go_wp2_with fail
   go_loopw [9, 7] (fun i vr wr => ∃ (j : Nat) (l : List Nat), j ≤ n ∧ i = .int .i64 j ∧ l = logsR t1 lane m ++ logsN t1 lane m j ∧ IKO wr w1.heap.size vr l ∧ Below w1.heap.size w1 wr) (fun i _ _ => n + 1 - (intOf i).toNat)
   case atStart => exact ⟨0, _, Nat.zero_le _, rfl, rfl, by rw [show logsN t1 lane m 0 = [] from rfl, List.append_nil]; exact hown0, hB0⟩
   case round =>
    obtain ⟨j, l, hj, rfl, rfl, hown, hB⟩ := hrel
    by_cases hlt : j < n
    ·obtain ⟨g, off, rfl, hcap, hg, hg2, c0, c1, c2, c3, c4⟩ := hC.out wr j hB hlt
     have hlt' : (j : Int) < (n : Int) := by omega
     have hsc := logsN_succ t1 lane m j
     have hlF := logsN_len t1 lane m j
     have hisL : isLog t1 lane m j = (decide (kN (t1.getD j 0) = 4) && decide ((lnN (t1.getD j 0) : Int) = lane) && decide (mN (t1.getD j 0) = m)) := rfl
     generalize t1.getD j 0 = x at *
     obtain ⟨D, hD⟩ : ∃ D, logsR t1 lane m ++ logsN t1 lane m j = D := ⟨_, rfl⟩
     have hDl : D.length ≤ 8000 := by rw [← hD, List.length_append]; omega
     rw [hD] at hown
     obtain ⟨L, hL⟩ : ∃ L, D.length = L := ⟨_, rfl⟩
     obtain ⟨Av, cv, rfl⟩ := intForm hown hL
     obtain ⟨ik, hik⟩ : ∃ z : Int, ((kN x : Nat) : Int) = z := ⟨_, rfl⟩
     obtain ⟨il, hil⟩ : ∃ z : Int, ((lnN x : Nat) : Int) = z := ⟨_, rfl⟩
     obtain ⟨im, him⟩ : ∃ z : Int, ((mN x : Nat) : Int) = z := ⟨_, rfl⟩
     rw [hik] at c0
     rw [hil] at c2 hisL
     rw [him] at c3
     have hno : ¬ (kN x = 4 ∧ il = lane ∧ mN x = m) → Hid (logsR t1 lane m ++ logsN t1 lane m (j + 1) = D) := fun h => by
      show _ = _
      rw [hsc, hisL, ← hD]
      have : (decide (kN x = 4) && decide (il = lane) && decide (mN x = m)) = false := by
       rw [Bool.eq_false_iff]; intro q; simp only [Bool.and_eq_true, decide_eq_true_eq] at q; exact h ⟨q.1.1, q.1.2, q.2⟩
      rw [this]; simp
     by_cases k4 : ik = 4
     ·subst k4
      by_cases kl : il = lane
      ·subst kl
       by_cases km : mN x = m
       ·have km' : im = (m : Int) := by omega
        rw [km'] at c3
        have hst := lh (show logsR t1 il m ++ logsN t1 il m (j + 1) = D ++ [j] from by rw [hsc, hisL, decide_eq_true (show kN x = 4 by omega), decide_eq_true rfl, decide_eq_true km, ← hD, List.append_assoc]; rfl)
        obtain ⟨v', w4, hrun, ho, hb⟩ := appI_ti (x := j) hown (by have := hB.size; omega) (by omega)
        have hB6 := hB.trans (hb.mono (Nat.le_refl _))
        replace hL := lh hL
        replace hD := lh hD
        clear hsc hlF hisL hik hil him km km' hno hown hb hDl hRl'
        go_wp2_with (at_builtin; refine wpList_append_run rfl _ _ 84 rfl _ _ _ rfl rfl hrun ?_)
        go_roundw
        case rel => exact ⟨j + 1, _, by omega, by go_num, rfl, by rw [hst.out]; exact ho, hB6⟩
        case measure => first | (simp [intOf]; done) | (simp [intOf]; omega)
       ·have km' : ¬ im = (m : Int) := by omega
        have km2 : (im == (m : Int)) = false := by rw [beq_eq_false_iff_ne]; exact km'
        have hst := hno (fun q => km q.2.2)
        replace hL := lh hL
        replace hD := lh hD
        clear hsc hlF hisL hik hil him km hno hDl hRl'
        go_wp2_with fail
        go_roundw
        case rel => exact ⟨j + 1, _, by omega, by go_num, rfl, by rw [hst.out]; exact hown, hB⟩
        case measure => first | (simp [intOf]; done) | (simp [intOf]; omega)
      ·have hst := hno (fun q => kl q.2.1)
       replace hL := lh hL
       replace hD := lh hD
       clear hsc hlF hisL hik hil him hno hDl hRl'
       go_wp2_with fail
       go_roundw
       case rel => exact ⟨j + 1, _, by omega, by go_num, rfl, by rw [hst.out]; exact hown, hB⟩
       case measure => first | (simp [intOf]; done) | (simp [intOf]; omega)
     ·have hst := hno (fun q => k4 (by have := q.1; omega))
      replace hL := lh hL
      replace hD := lh hD
      clear hsc hlF hisL hik hil him hno hDl hRl'
      go_wp2_with fail
      go_roundw
      case rel => exact ⟨j + 1, _, by omega, by go_num, rfl, by rw [hst.out]; exact hown, hB⟩
      case measure => first | (simp [intOf]; done) | (simp [intOf]; omega)
    ·obtain rfl : j = n := by omega
     have hst := lh (hRs.out m).symm
     go_wp2_with fail
     go_roundw
     case rel => exact ⟨m + 1, _, by omega, by go_num, rfl, by rw [← hst.out]; exact hown, hB⟩
     case measure => first | (simp [intOf]; done) | (simp [intOf]; omega)
  ·obtain rfl : m = 8 := by omega
   have hfin := lh (show IKO wr w.heap.size u7 R ∧ Below w.heap.size w wr from ⟨by rw [hRt.out]; exact hown0.mono hbs1, hbw.out.trans (hB0.mono hbs1)⟩)
   clear hown0 hB0
   go_wp2_with fail
   go_ret
   exact ⟨_, rfl, hfin.out⟩
theorem IKO.kl {w : World} {base : Nat} {v : Value} {l : List Nat} (h : IKO w base v l) : KL .i64 w v l := by
 obtain ⟨A, cap, hv, hc⟩ := OwnE.el eI_len h
 refine ⟨A, cap, hv, fun hl => ?_⟩
 obtain ⟨g, off, hA, hg, hcp, hi⟩ := hc hl
 refine ⟨g, off, hA, hg, hcp, fun i hil => ?_⟩
 have := hi i hil 0 (by decide)
 simpa [eI] using this
end Go.Proofs.YtkkbngcgphlikaaGreatDoor
end
