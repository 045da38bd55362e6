/-
  Part of the proof of SoundApart,SoundTwins,SoundWords.
-/
import Derived.Test.YtdmmbnnejbmdpaaGreatDoorVt91
import Derived.Test.YtdmmbnnejbmdpaaGreatDoorVt910
import Derived.Test.YtdmmbnnejbmdpaaGreatDoorVt911
import Derived.Test.YtdmmbnnejbmdpaaGreatDoorVt912
import Derived.Test.YtdmmbnnejbmdpaaGreatDoorVt913
import Derived.Test.YtdmmbnnejbmdpaaGreatDoorVt914
import Derived.Test.YtdmmbnnejbmdpaaGreatDoorVt919
import Derived.Test.YtdmmbnnejbmdpaaGreatDoorVt92
import Derived.Test.YtdmmbnnejbmdpaaGreatDoorVt920
import Derived.Test.YtdmmbnnejbmdpaaGreatDoorVt93
import Derived.Test.YtdmmbnnejbmdpaaGreatDoorVt930
import Derived.Test.YtdmmbnnejbmdpaaGreatDoorVt931
import Derived.Test.YtdmmbnnejbmdpaaGreatDoorVt94
import Derived.Test.YtdmmbnnejbmdpaaGreatDoorVt95
import Derived.Test.YtdmmbnnejbmdpaaGreatDoorVt96
import Derived.Test.YtdmmbnnejbmdpaaGreatDoorVt97
import Derived.Test.YtdmmbnnejbmdpaaGreatDoorVt98
import Derived.Test.YtdmmbnnejbmdpaaGreatDoorVt99
import Derived.Test.YtdmmbnnejbmdpaaGreatDoorRows
import Derived.BigQuiet
import Derived.Carry
import Derived.ChangeSlices
import Derived.Deep.QuietTactic
import Derived.Deep.RegionHeld3
import Derived.Deep.SlicePairs
import Derived.Handy
import Derived.Laws.BitsAllLaws
import Derived.Laws.CopyOwn
import Derived.Laws.EntriesVeiled
import Derived.Laws.ShiftsVarLaws
import Derived.Lib.AppendZerosOnto
import Derived.Lib.Hide
import Derived.Lib.SliceRun
import Derived.LoopIn
import Derived.LoopNIn
import Derived.Maps.AppendAt
import Derived.OpenShut
import Derived.OwnWalk
import Derived.OwnWalkIn
import Derived.ProofKit
import Derived.RangeFuncBound
import Derived.RangeFuncBox
import Derived.RangeFuncCalls
import Derived.RangeFuncFrom
import Derived.RangeFuncLeaves
import Derived.RangeFuncNested
import Derived.RangeFuncWrites
import Derived.Scope
import Derived.Shelf.Abstract
import Derived.Shelf.RegionOpen
import Derived.StillTail
import Derived.TacticsInMore
import Derived.WalkKit
import Derived.WalkLawsBesides
import Derived.WalkSpells
import Derived.Laws.OwnMore
import Derived.Test.YtdmmbnnejbmdpaaGreatDoorVt90
set_option maxRecDepth 10000
set_option maxHeartbeats 1000000
set_option linter.unusedVariables false
set_option linter.unusedSimpArgs false
section
namespace Go.Proofs.YtdmmbnnejbmdpaaGreatDoor
open Go.Lib Go.RowKit Go.ChangeShapes Go.WideShapes Go.Deep
theorem pool_any (v : Value) (I : List Nat) (W L ln : Int) (w : World) (hw : Lw w) (hW : WL I) (hv : KL .u64 w v I) (hlen : I.length ≤ 100000) :
 Calls Tryz.prog 91 #[v, .agg #[.int .i64 W, .int .i64 L], .int .i64 ln] w fun e w' => e = .returned (.bool (laneB I W L ln)) ∧ Below w.heap.size w w' := by
 have hA := bZ w (.cells #[.int .i64 W, .int .i64 L] 51)
 obtain ⟨nn, hnn⟩ : ∃ n, I.length = n := ⟨_, rfl⟩
 have hD := fun w1 (hb : Below w.heap.size w w1) => rdec_any v I nn w1 hnn (by omega) (KL.sl (hv.keep hb))
 have gB := C2.new w (.int .i64 W) (.int .i64 L) 51
 obtain ⟨C, hC⟩ : ∃ C, w.heap.size = C := ⟨_, rfl⟩
 cases hs : sOk I with
 | false =>
   have hno := lh (show laneB I W L ln = false from by unfold laneB readB poolB; rw [hs]; rfl)
   obtain ⟨A, cap, rfl, _⟩ := hv.form hnn
   rw [hs] at hD
   replace hD := lh (fun w1 hb => show Calls Tryz.prog 39 #[.slice A nn cap] w1 (fun e w' => e = .returned (.tuple #[.agg #[.int .i64 0, .int .i64 0], .int .i64 7]) ∧ Below w1.heap.size w1 w') from hD w1 hb)
   rw [hC] at gB
   clear hs hv hW hw
   replace hnn := lh hnn
   go_enter Tryz.func91, Tryz.ntmps91
   go_wp2_with fail
   refine (hD.out _ hA).mono ?_
   rintro e w1 ⟨rfl, hb⟩
   have gB1 := (gB.keep hb).alloc (.cells #[.int .i64 0, .int .i64 0] 51)
   obtain ⟨q0, q1⟩ := gB.keep hb
   have hcl := (gB.keep hb).lt
   have hne : ¬ C = w1.heap.size := Nat.ne_of_lt hcl
   have hB1 := (hA.trans (hb.mono hA.size)).alloc (hA.trans (hb.mono hA.size)).size (.cells #[.int .i64 0, .int .i64 0] 51)
   clear hD
   go_wp2_with fail
   go_ret
   exact ⟨by rw [hno.out]; rfl, hB1⟩
 | true =>
   obtain ⟨g8, hgk⟩ := gOk_pool hs
   obtain ⟨s1, s2, s3, s4, s5, s6, s7, s8⟩ := pool_size hgk
   obtain ⟨G, hG⟩ : ∃ G, gNat I.length (I.getD 3 0) = G := ⟨_, rfl⟩
   obtain ⟨L3, hL3⟩ : ∃ L3, I.getD 3 0 = L3 := ⟨_, rfl⟩
   rw [hG] at s5 s6 s7 s8
   rw [hL3] at s1 s2 s4 s5 s8 hgk
   have hTl := tabW_len hgk
   have hTl2 : (tabW I L3).length = G := by rw [hTl, ← hL3]; exact hG
   have hTw := hW.part (10 + 73 * L3) G
   have hTk : tabW I L3 = (I.drop (10 + 73 * L3)).take G := by unfold tabW; rw [← hL3, hG]
   rw [← hTk] at hTw
   have hTb := refTable_t (I.length : Nat) (L3 : Nat)
   rw [hnn] at s3 s4 s5 s8 hgk hTb
   replace hTb := lh (fun w1 => hTb w1 hgk)
   rw [s5] at hTb
   obtain ⟨g, off, cap, rfl, hcap, hgs⟩ := hv.addr hnn (by omega)
   obtain ⟨F, hF⟩ : ∃ F, 10 + 73 * L3 = F := ⟨_, rfl⟩
   have hF' : (10 + 73 * (L3 : Int)) = (F : Int) := by omega
   rw [hF'] at hTb
   have hWd := lh (fun w1 => part15_any g off nn cap F G w1 (by omega) hcap (by omega) (by omega))
   have hCh := lh (fun w1 (hb : Below w.heap.size w w1) => refChunks_any (.slice (some ⟨g, off + F, none⟩) G (cap - F)) (tabW I L3) w1 (hw.keep hb) (by rw [hTk, hF]; exact (hv.keep hb).partC hnn F G _ (by omega) (by omega)) hTw (by rw [hTl2]; omega))
   rw [hs, hL3] at hD
   replace hD := lh (fun w1 hb => show Calls Tryz.prog 39 #[.slice (some ⟨g, off, none⟩) nn cap] w1 (fun e w' => e = .returned (.tuple #[.agg #[.int .i64 (nn : Nat), .int .i64 (L3 : Nat)], .int .i64 0]) ∧ Below w1.heap.size w1 w') from hD w1 hb)
   have hr : laneB I W L ln = ((tabW I L3).all okN && decide (W = (nn : Nat) ∧ L = (L3 : Nat)) && decide (0 ≤ ln ∧ ln < L)) := by unfold laneB readB poolB; rw [hs, hL3, hnn, Bool.true_and]
   replace hL3 := lh hL3
   replace hnn := lh hnn
   replace hG := lh hG
   replace hF := lh hF
   rw [hC] at gB
   clear hv hW hw hs hTl hTw hTk g8 hTl2
   by_cases hW2 : W = (nn : Nat)
   ·subst hW2
    by_cases hL2 : L = (L3 : Nat)
    ·subst hL2
     by_cases h0 : ln < 0
     ·have hno := lh (show laneB I (nn : Nat) (L3 : Nat) ln = false from by rw [hr, decide_eq_false (p := 0 ≤ ln ∧ ln < (L3 : Nat)) (by omega), Bool.and_false])
      clear hr
      go_enter Tryz.func91, Tryz.ntmps91
      go_wp2_with fail
      refine (hD.out _ hA).mono ?_
      rintro e w1 ⟨rfl, hb⟩
      have gB1 := (gB.keep hb).alloc (.cells #[.int .i64 (nn : Nat), .int .i64 (L3 : Nat)] 51)
      obtain ⟨q0, q1⟩ := gB.keep hb
      have hcl := (gB.keep hb).lt
      have hne : ¬ C = w1.heap.size := Nat.ne_of_lt hcl
      have hB1 := (hA.trans (hb.mono hA.size)).alloc (hA.trans (hb.mono hA.size)).size (.cells #[.int .i64 (nn : Nat), .int .i64 (L3 : Nat)] 51)
      clear hD
      go_wp2_with fail
      go_ret
      exact ⟨by rw [hno.out]; rfl, hB1⟩
     by_cases h1 : (L3 : Int) ≤ ln
     ·have hno := lh (show laneB I (nn : Nat) (L3 : Nat) ln = false from by rw [hr, decide_eq_false (p := 0 ≤ ln ∧ ln < (L3 : Nat)) (by omega), Bool.and_false])
      clear hr
      go_enter Tryz.func91, Tryz.ntmps91
      go_wp2_with fail
      refine (hD.out _ hA).mono ?_
      rintro e w1 ⟨rfl, hb⟩
      have gB1 := (gB.keep hb).alloc (.cells #[.int .i64 (nn : Nat), .int .i64 (L3 : Nat)] 51)
      obtain ⟨q0, q1⟩ := gB.keep hb
      have hcl := (gB.keep hb).lt
      have hne : ¬ C = w1.heap.size := Nat.ne_of_lt hcl
      have hB1 := (hA.trans (hb.mono hA.size)).alloc (hA.trans (hb.mono hA.size)).size (.cells #[.int .i64 (nn : Nat), .int .i64 (L3 : Nat)] 51)
      clear hD
      go_wp2_with fail
      go_ret
      exact ⟨by rw [hno.out]; rfl, hB1⟩
     ·have hyes := lh (show laneB I (nn : Nat) (L3 : Nat) ln = (tabW I L3).all okN from by rw [hr, decide_eq_true (p := 0 ≤ ln ∧ ln < (L3 : Nat)) (by omega), decide_eq_true (p := ((nn : Nat) : Int) = (nn : Nat) ∧ ((L3 : Nat) : Int) = (L3 : Nat)) ⟨rfl, rfl⟩, Bool.and_true, Bool.and_true])
      clear hr
      go_enter Tryz.func91, Tryz.ntmps91
      go_wp2_with fail
      refine (hD.out _ hA).mono ?_
      rintro e w1 ⟨rfl, hb⟩
      have gB1 := (gB.keep hb).alloc (.cells #[.int .i64 (nn : Nat), .int .i64 (L3 : Nat)] 51)
      obtain ⟨q0, q1⟩ := gB.keep hb
      have hcl := (gB.keep hb).lt
      have hne : ¬ C = w1.heap.size := Nat.ne_of_lt hcl
      have hB1 := (hA.trans (hb.mono hA.size)).alloc (hA.trans (hb.mono hA.size)).size (.cells #[.int .i64 (nn : Nat), .int .i64 (L3 : Nat)] 51)
      clear hD
      go_wp2_with fail
      refine (hTb.out _).mono ?_
      rintro e w2 ⟨rfl, hb2⟩
      have hB2 := hB1.trans (hb2.mono hB1.size)
      go_wp2_with fail
      refine (hWd.out _).mono ?_
      rintro e w3 ⟨rfl, hb3⟩
      have hB3 := hB2.trans (hb3.mono hB2.size)
      go_wp2_with fail
      refine (hCh.out _ hB3).mono ?_
      rintro e w4 ⟨hP, hb4⟩
      have hB4 := hB3.trans (hb4.mono hB3.size)
      rcases hP with ⟨hall, v', rfl, -⟩ | ⟨hall, rfl⟩
      ·go_wp2_with fail
       go_ret
       exact ⟨by rw [hyes.out, hall]; rfl, hB4⟩
      ·go_wp2_with fail
       go_ret
       exact ⟨by rw [hyes.out, hall]; rfl, hB4⟩
    ·have hL4 : ¬ (L3 : Int) = L := fun h => hL2 h.symm
     have hno := lh (show laneB I (nn : Nat) L ln = false from by rw [hr, decide_eq_false (p := ((nn : Nat) : Int) = (nn : Nat) ∧ L = (L3 : Nat)) (fun h => hL2 h.2), Bool.and_false, Bool.false_and])
     clear hr
     go_enter Tryz.func91, Tryz.ntmps91
     go_wp2_with fail
     refine (hD.out _ hA).mono ?_
     rintro e w1 ⟨rfl, hb⟩
     have gB1 := (gB.keep hb).alloc (.cells #[.int .i64 (nn : Nat), .int .i64 (L3 : Nat)] 51)
     obtain ⟨q0, q1⟩ := gB.keep hb
     have hcl := (gB.keep hb).lt
     have hne : ¬ C = w1.heap.size := Nat.ne_of_lt hcl
     have hB1 := (hA.trans (hb.mono hA.size)).alloc (hA.trans (hb.mono hA.size)).size (.cells #[.int .i64 (nn : Nat), .int .i64 (L3 : Nat)] 51)
     clear hD
     go_wp2_with fail
     go_ret
     exact ⟨by rw [hno.out]; rfl, hB1⟩
   ·have hW4 : ¬ (nn : Int) = W := fun h => hW2 h.symm
    have hno := lh (show laneB I W L ln = false from by rw [hr, decide_eq_false (p := W = (nn : Nat) ∧ L = (L3 : Nat)) (fun h => hW2 h.1), Bool.and_false, Bool.false_and])
    clear hr
    go_enter Tryz.func91, Tryz.ntmps91
    go_wp2_with fail
    refine (hD.out _ hA).mono ?_
    rintro e w1 ⟨rfl, hb⟩
    have gB1 := (gB.keep hb).alloc (.cells #[.int .i64 (nn : Nat), .int .i64 (L3 : Nat)] 51)
    obtain ⟨q0, q1⟩ := gB.keep hb
    have hcl := (gB.keep hb).lt
    have hne : ¬ C = w1.heap.size := Nat.ne_of_lt hcl
    have hB1 := (hA.trans (hb.mono hA.size)).alloc (hA.trans (hb.mono hA.size)).size (.cells #[.int .i64 (nn : Nat), .int .i64 (L3 : Nat)] 51)
    clear hD
    go_wp2_with fail
    go_ret
    exact ⟨by rw [hno.out]; rfl, hB1⟩
end Go.Proofs.YtdmmbnnejbmdpaaGreatDoor
end
section
namespace Go.Proofs.YtdmmbnnejbmdpaaGreatDoor
open Go.Lib Go.RowKit Go.ChangeShapes Go.WideShapes Go.Deep
theorem rlog_yes (v : Value) (I : List Nat) (L ln : Nat) (w : World) (hw : Lw w) (hW : WL I) (hv : KL .u64 w v I) (hg : gOk (I.length : Nat) (L : Nat) = true) (hln : ln < L) (h40 : gNat I.length L ≤ 40) (hlb : laneB I (I.length : Nat) (L : Nat) (ln : Nat) = true) :
 Calls Tryz.prog 53 #[v, .agg #[.int .i64 (I.length : Nat), .int .i64 (L : Nat)], .int .i64 (ln : Nat)] w fun e w' => ∃ v', e = .returned v' ∧ OwnSp w' w.heap.size v' (logSp I L ln) ∧ Below w.heap.size w w' := by
 have hPo := lh (fun w1 (hb : Below w.heap.size w w1) => pool_any v I (I.length : Nat) (L : Nat) (ln : Nat) w1 (hw.keep hb) hW (hv.keep hb) (by have := (pool_size hg).2.2.1; omega))
 rw [hlb] at hPo
 obtain ⟨nn, hnn⟩ : ∃ n, I.length = n := ⟨_, rfl⟩
 rw [hnn] at hPo
 obtain ⟨s1, s2, s3, s4, s5, s6, s7, s8⟩ := pool_size hg
 have hTl := tabW_len hg
 obtain ⟨G, hG⟩ : ∃ G, gNat I.length L = G := ⟨_, rfl⟩
 rw [hG] at s5 s6 s7 s8 h40 hTl
 have hTw := hW.part (10 + 73 * L) G
 have hTk : tabW I L = (I.drop (10 + 73 * L)).take G := by unfold tabW; rw [hG]
 rw [← hTk] at hTw
 obtain ⟨F, hF⟩ : ∃ F, 10 + 73 * L = F := ⟨_, rfl⟩
 have hF' : (10 + 73 * (L : Int)) = (F : Int) := by omega
 rw [hnn] at hg s3 s4 s5 s8
 have hlk : lOk (nn : Nat) (L : Nat) (ln : Nat) = true := by unfold lOk; rw [hg, Bool.true_and]; exact decide_eq_true (by omega)
 have hLg := lh (fun w1 => refLog_t (nn : Nat) (L : Nat) (ln : Nat) w1 hlk)
 have hTb := lh (fun w1 => refTable_t (nn : Nat) (L : Nat) w1 hg)
 rw [hF', s5] at hTb
 obtain ⟨H0, hH0⟩ : ∃ h, 10 + L + ln * 72 = h := ⟨_, rfl⟩
 have hH1 : (10 + (L : Int) + (ln : Int) * 72) = (H0 : Int) := by omega
 rw [hH1] at hLg
 have hCk := lh (fun (i : Nat) (hi : i < G) w1 => show Calls Tryz.prog 28 #[.agg #[.int .i64 (nn : Nat), .int .i64 (L : Nat)], .int .i64 (i : Nat)] w1 (fun e w' => e = .returned (.agg #[.int .i64 (chSp I.length L i).1, .int .i64 32]) ∧ Below w1.heap.size w1 w') from by
  have h := refChunk_yes (nn : Nat) (L : Nat) (i : Nat) w1 hg (by omega) (by omega)
  unfold cFrom at h
  rw [s5] at h
  unfold chSp
  rw [hG, show (((10 + 73 * L + G + i * 32 : Nat) : Int)) = 10 + 73 * (L : Int) + (G : Nat) + (i : Nat) * 32 from by push_cast; rfl]
  exact h)
 obtain ⟨g, off, cap, rfl, hcap, hgs⟩ := hv.addr hnn (by omega)
 have hWd := lh (fun w1 => part15_any g off nn cap F G w1 (by omega) hcap (by omega) (by omega))
 have hLs := lh (fun w1 (hb : Below w.heap.size w w1) => refLogs_any (.slice (some ⟨g, off + F, none⟩) G (cap - F)) (tabW I L) (ln : Nat) w1 (hw.keep hb) (by rw [hTk, hF]; exact (hv.keep hb).partC hnn F G _ (by omega) (by omega)) hTw (by rw [hTl]; omega))
 obtain ⟨R, hR⟩ : ∃ R, logsT (tabW I L) (ln : Nat) = R := ⟨_, rfl⟩
 rw [hR] at hLs
 have hRb : ∀ x ∈ R, x < G := fun x hx => by rw [← hTl]; rw [← hR] at hx; exact logs_bd x hx
 have hRl : R.length ≤ 320 := by have := logs_len (t := tabW I L) (ln := (ln : Nat)); rw [hR, hTl] at this; omega
 have hSp : logSp I L ln = ((H0 : Int), 32) :: R.map (chSp I.length L) := by unfold logSp; rw [hR, hH0]
 rw [hSp, hnn]
 obtain ⟨mm, hmm⟩ : ∃ m, R.length = m := ⟨_, rfl⟩
 have hRx := lh (fun j (hj : j < mm) => show R.getD j 0 < G from hRb _ (by rw [List.getD_eq_getElem?_getD, List.getElem?_eq_getElem (by omega)]; exact List.getElem_mem _))
 have hSt := lh (fun j (hj : j < mm) => show (((H0 : Int), 32) :: (R.take j).map (chSp I.length L)) ++ [chSp I.length L (R.getD j 0)] = ((H0 : Int), 32) :: (R.take (j + 1)).map (chSp I.length L) from by
  rw [List.take_succ_eq_append_getElem (by omega), List.map_append, List.getD_eq_getElem?_getD, List.getElem?_eq_getElem (by omega)]; rfl)
 have hEn := lh (show R.take mm = R from List.take_of_length_le (by omega))
 have hA := bZ w (.cells #[.int .i64 (nn : Nat), .int .i64 (L : Nat)] 51)
 have gB := C2.new w (.int .i64 (nn : Nat)) (.int .i64 (L : Nat)) 51
 obtain ⟨C, hC⟩ : ∃ C, w.heap.size = C := ⟨_, rfl⟩
 have hm9 : mm ≤ 320 := by omega
 replace hnn := lh hnn
 replace hmm := lh hmm
 replace hR := lh hR
 replace hG := lh hG
 clear hv hW hw hTl hTw hTk hg hlk hSp hRb hF hF' hH0 hH1 hRl
 rw [hC] at gB
 go_enter Tryz.func53, Tryz.ntmps53
 have hCC : (w.alloc (.cells #[.int .i64 (nn : Nat), .int .i64 (L : Nat)] 51)).heap.size = C + 1 := by simp; omega
 generalize hw0 : w.alloc (.cells #[.int .i64 (nn : Nat), .int .i64 (L : Nat)] 51) = w0 at *
 obtain ⟨q0, q1⟩ := id gB
 subst hw0
 go_wp2_with fail
 refine (hPo.out _ hA).mono ?_
 rintro e wp ⟨rfl, hbp⟩
 replace hA := hA.trans (hbp.mono hA.size)
 replace gB := gB.keep hbp
 obtain ⟨q0, q1⟩ := id gB
 clear hPo hbp
 go_wp2_with fail
 refine (hLg.out _).mono ?_
 rintro e w1 ⟨rfl, hb1⟩
 have hB1 := hA.trans (hb1.mono hA.size)
 have gB1 := gB.keep hb1
 obtain ⟨B, hBl⟩ : ∃ B, w1.heap.size = B := ⟨_, rfl⟩
 have hCB : C < B := by rw [← hBl]; exact gB1.lt
 have hOwn := (OwnSp.one w1 (H0 : Nat) 32 (57 : Nat) rfl)
 have hB2 := hB1.alloc hB1.size (.cells #[.int .i64 (H0 : Nat), .int .i64 32] (57 : Nat))
 have gB2 := gB1.alloc (.cells #[.int .i64 (H0 : Nat), .int .i64 32] (57 : Nat))
 rw [hBl] at hOwn
 obtain ⟨r0, r1⟩ := id gB2
 have hne : ¬ C = w1.heap.size := by omega
 clear q0 q1
 go_wp2_with fail
 refine (hTb.out _).mono ?_
 rintro e w3 ⟨rfl, hb3⟩
 have hB3 := hB2.trans (hb3.mono hB2.size)
 go_wp2_with fail
 refine (hWd.out _).mono ?_
 rintro e w4 ⟨rfl, hb4⟩
 have hB4 := hB3.trans (hb4.mono hB3.size)
 go_wp2_with fail
 refine (hLs.out _ hB4).mono ?_
 rintro e w5 ⟨v5, rfl, ho5, hb5⟩
 have hB5 := hB4.trans (hb5.mono hB4.size)
 have hs1 : (w1.alloc (.cells #[.int .i64 (H0 : Nat), .int .i64 32] (57 : Nat))).heap.size = B + 1 := by simp; omega
 have hB45 : B + 1 ≤ w4.heap.size := by rw [← hs1]; exact Nat.le_trans hb3.size hb4.size
 have hOwn5 := ((hOwn.keep hb3).keep hb4).keep hb5
 have gB5 := ((gB2.keep hb3).keep hb4).keep hb5
 obtain ⟨A5, c5, rfl, hK5⟩ := ho5.kl.form hmm.out
 have hlt5 := hb5.size
 have hoB : ∀ k, (Value.slice A5 mm c5).ownBlock = some k → ¬ k = B := fun k hk => by have := (ho5.lt k hk).1; omega
 have ho5' := lh ho5
 replace hB5 := lh hB5
 clear hB1 hB2 hB3 hB4 hb1 hb3 hb4 hb5 gB gB1 gB2 hA hOwn ho5 hK5 r0 r1
 obtain ⟨A0, c0, hv0⟩ : ∃ A0 c0, (Value.slice (some ⟨B, 0, none⟩) 1 1) = .slice A0 1 c0 := ⟨_, _, rfl⟩
 go_wp2_with fail
 go_loopw [10, 8] (fun i l wr => ∃ (j : Nat) (P : List Sp), j ≤ mm ∧ i = .int .i64 j ∧ Hid (P = ((H0 : Int), 32) :: (R.take j).map (chSp I.length L)) ∧ P.length = j + 1 ∧ OwnSp wr (C + 1) l P ∧ Chg (fun k => k = B) w5 wr ∧ (∀ k, l.ownBlock = some k → k = B ∨ w5.heap.size ≤ k)) (fun i _ _ => mm + 1 - (intOf i).toNat)
 case atStart => exact ⟨0, _, Nat.zero_le _, rfl, rfl, by simp, hOwn5.mono (by omega), Chg.refl _ _, fun k hk => .inl (by cases hk; rfl)⟩
 case round =>
  obtain ⟨j, P, hj, rfl, hP, hPl, hown, hch, hbk⟩ := hrel
  have gBr := gB5.chg hch (by omega)
  have hBr := hB5.out.trans (hch.below (N := w.heap.size) (fun k hk => by omega) hB5.out.size)
  by_cases hlt : j < mm
  ·obtain ⟨A9, c9, hv9, hK9⟩ := (IKO.kl (OwnE.chg ho5'.out hch hoB)).form hmm.out
   cases hv9
   obtain ⟨g2, o2, rfl, hcap2, hg2, c0⟩ := hK9 wr j (Below.refl _ _) hlt
   have hlt' : (j : Int) < (mm : Int) := by omega
   have hx := hRx.out j hlt
   have hst := lh (hSt.out j hlt)
   have hCj := hCk.out (R.getD j 0) hx
   generalize R.getD j 0 = x at *
   obtain ⟨q0, q1⟩ := id gBr
   rw [hnn.out] at hCj
   clear hK9
   obtain ⟨s, hs⟩ : ∃ s, chSp nn L x = s := ⟨_, rfl⟩
   have hs2 : s.2 = 32 := by rw [← hs]; rfl
   go_wp2_with fail
   refine wp_region_tail (S := (fun w' => Below wr.heap.size wr w')) (n := 8) (by kernel_rfl) ?_ (fun hHeld hInv => ?_) (by decide)
   ·(try dsimp only)
    (first | assumption | exact (Below.refl _ _).drew | exact hHeld.trans (hb.mono hHeld.size))
   refine takeS 0 (v := ?_) (tailAt (by kernel_rfl)) hInv (by decide) rfl (by kernel_rfl) (by kernel_rfl) (by kernel_rfl) (fun _ _ _ h => h) (by rfl) (by assumption) ?_ (fun hInv2 => ?_)
   rotate_left
   ·(intro w hSw; (try dsimp only at hSw); have zz := gBr.keep hSw; obtain ⟨z0, z1⟩ := zz; have z2 := (bcell hSw).1 _ (o2 + j) hg2; rw [c0] at z2; go_simp <;> with_reducible rfl)
   clear hInv
   have hInv := hInv2
   clear hInv2
   try simp only [Act.put,sA,sB,sC] at hInv ⊢
   refine takeS 1 (v := ?_) (tailAt (by kernel_rfl)) hInv (by decide) rfl (by kernel_rfl) (by kernel_rfl) (by kernel_rfl) (fun _ _ _ h => h) (by rfl) (by assumption) ?_ (fun hInv2 => ?_)
   rotate_left
   ·(intro w hSw; (try dsimp only at hSw); have zz := gBr.keep hSw; obtain ⟨z0, z1⟩ := zz; have z2 := (bcell hSw).1 _ (o2 + j) hg2; rw [c0] at z2; go_simp <;> with_reducible rfl)
   clear hInv
   have hInv := hInv2
   clear hInv2
   try simp only [Act.put,sA,sB,sC] at hInv ⊢
   refine takeS 2 (v := ?_) (tailAt (by kernel_rfl)) hInv (by decide) rfl (by kernel_rfl) (by kernel_rfl) (by kernel_rfl) (fun _ _ _ h => h) (by rfl) (by assumption) ?_ (fun hInv2 => ?_)
   rotate_left
   ·(intro w hSw; (try dsimp only at hSw); have zz := gBr.keep hSw; obtain ⟨z0, z1⟩ := zz; have z2 := (bcell hSw).1 _ (o2 + j) hg2; rw [c0] at z2; go_simp <;> with_reducible rfl)
   clear hInv
   have hInv := hInv2
   clear hInv2
   try simp only [Act.put,sA,sB,sC] at hInv ⊢
   refine takeS 3 (v := ?_) (tailAt (by kernel_rfl)) hInv (by decide) rfl (by kernel_rfl) (by kernel_rfl) (by kernel_rfl) (fun _ _ _ h => h) (by rfl) (by assumption) ?_ (fun hInv2 => ?_)
   rotate_left
   ·(intro w hSw; (try dsimp only at hSw); have zz := gBr.keep hSw; obtain ⟨z0, z1⟩ := zz; have z2 := (bcell hSw).1 _ (o2 + j) hg2; rw [c0] at z2; go_simp <;> with_reducible rfl)
   clear hInv
   have hInv := hInv2
   clear hInv2
   try simp only [Act.put,sA,sB,sC] at hInv ⊢
   refine takeS 4 (v := ?_) (tailAt (by kernel_rfl)) hInv (by decide) rfl (by kernel_rfl) (by kernel_rfl) (by kernel_rfl) (fun _ _ _ h => h) (by rfl) (by assumption) ?_ (fun hInv2 => ?_)
   rotate_left
   ·(intro w hSw; (try dsimp only at hSw); have zz := gBr.keep hSw; obtain ⟨z0, z1⟩ := zz; have z2 := (bcell hSw).1 _ (o2 + j) hg2; rw [c0] at z2; go_simp <;> with_reducible rfl)
   clear hInv
   have hInv := hInv2
   clear hInv2
   try simp only [Act.put,sA,sB,sC] at hInv ⊢
   refine takeS 5 (v := ?_) (tailAt (by kernel_rfl)) hInv (by decide) rfl (by kernel_rfl) (by kernel_rfl) (by kernel_rfl) (fun _ _ _ h => h) (by rfl) (by assumption) ?_ (fun hInv2 => ?_)
   rotate_left
   ·(intro w hSw; (try dsimp only at hSw); have zz := gBr.keep hSw; obtain ⟨z0, z1⟩ := zz; have z2 := (bcell hSw).1 _ (o2 + j) hg2; rw [c0] at z2; go_simp <;> with_reducible rfl)
   clear hInv
   have hInv := hInv2
   clear hInv2
   try simp only [Act.put,sA,sB,sC] at hInv ⊢
   refine oneS 6 hInv (by decide) rfl (by kernel_rfl) (fun K hK => ?_)
   go_simp
   refine (hCj _).mono ?_; rintro e w6 ⟨rfl, hb⟩; rw [hs]
   refine hK.out _ _ ?_ (fun hHeld2 hInv2 => ?_)
   ·(try dsimp only)
    (first | assumption | exact (Below.refl _ _).drew | exact hHeld.trans (hb.mono hHeld.size))
   clear hK K hHeld hInv
   have hHeld := hHeld2
   have hInv := hInv2
   clear hHeld2 hInv2
   try simp only [Act.put,sA,sB,sC] at hInv ⊢
   refine oneS 7 hInv (by decide) rfl (by kernel_rfl) (fun K hK => ?_)
   go_simp
   have hb := bZ w6 (.cells #[.int .i64 s.1, .int .i64 32] (57 : Nat))
   refine hK.out _ _ ?_ (fun hHeld2 hInv2 => ?_)
   ·(try dsimp only)
    (first | assumption | exact (Below.refl _ _).drew | exact hHeld.trans (hb.mono hHeld.size))
   clear hK K hHeld hInv
   have hHeld := hHeld2
   have hInv := hInv2
   clear hHeld2 hInv2
   try simp only [Act.put,sA,sB,sC] at hInv ⊢
   refine lastS 8 rfl (by decide) (by kernel_rfl) (fun K hK => ?_)
   have hC6 := C2.new w6 (.int .i64 s.1) (.int .i64 32) (57 : Nat)
   obtain ⟨v', w8, hrun, ho8, hg8, hor⟩ := app1 (s := s) (hown.keep hHeld) (by rw [hs2]; exact hC6) (by have := hBr.size; have := gBr.lt; have := hHeld.size; omega) (by omega)
   have hch8 : Chg (fun k => k = B) w5 w8 := (hch.trans (Chg.of_below (fun k => k = B) hHeld) (fun k h => .inl h)).trans (Chg.of_grown (S := fun k => k = B ∨ w5.heap.size ≤ k) hg8 (fun k hk => .inl (hbk k hk))) (fun k h => by rcases h with h | h; exact .inl h; exact .inr h)
   have hbk8 : ∀ k, v'.ownBlock = some k → k = B ∨ w5.heap.size ≤ k := fun k hk => by
    rcases hor with h | h
    ·exact hbk k (by rw [← h]; exact hk)
    ·rw [h] at hk
     cases hk
     have := hch.size; have := hHeld.size
     omega
   rw [if_pos (by rfl)]
   refine wp_append_run _ _ _ _ rfl _ _ _ rfl rfl hrun ?_
   refine hK.out _ _ ?_
   clear hK K
   try simp only [Act.put,sA,sB,sC]
   refine lastS 9 rfl (by decide) (by kernel_rfl) (fun K hK => ?_)
   go_simp
   refine hK.out _ _ ?_
   clear hK K
   try simp only [Act.put,sA,sB,sC]
   refine wpAnyS_done (by kernel_rfl) ?_ _
   go_wp2_with fail
   go_roundw
   case rel => exact ⟨j + 1, P ++ [s], by omega, by go_num, by rw [hP.out, ← hs, ← hnn.out]; exact hst.out, by rw [List.length_append, hPl]; rfl, ho8, hch8, hbk8⟩
   case measure => first | (simp [intOf]; done) | (simp [intOf]; omega)
  ·obtain rfl : j = mm := by omega
   have hfin := lh (show OwnSp wr C u8 (((H0 : Int), 32) :: R.map (chSp nn L)) from by rw [hP.out, hEn.out, hnn.out] at hown; exact hown.mono (by omega))
   clear hown hch hbk
   go_wp2_with fail
   go_ret
   exact ⟨_, rfl, by rw [hC]; exact hfin.out, hBr⟩
theorem rlog_any (v : Value) (I : List Nat) (W L ln : Int) (w : World) (hw : Lw w) (hW : WL I) (hv : KL .u64 w v I) (hlen : I.length ≤ 100000) (h40 : poolB I = true → gNat I.length (I.getD 3 0) ≤ 40) :
 Calls Tryz.prog 53 #[v, .agg #[.int .i64 W, .int .i64 L], .int .i64 ln] w fun e w' => ∃ v', e = .returned v' ∧ OwnSp w' w.heap.size v' (logP I W L ln) ∧ Below w.heap.size w w' := by
 cases hl : laneB I W L ln with
 | true =>
   have h2 := hl
   unfold laneB at h2
   rw [Bool.and_eq_true] at h2
   obtain ⟨h3, h4⟩ := h2
   have h5 := of_decide_eq_true h4
   obtain ⟨hp, hW1, hL1⟩ := readB_t h3
   obtain ⟨n, rfl⟩ := Int.eq_ofNat_of_zero_le h5.1
   subst hW1
   subst hL1
   have hy : logP I (I.length : Nat) (I.getD 3 0 : Nat) (n : Nat) = logSp I (I.getD 3 0) n := if_pos hl
   rw [hy]
   exact rlog_yes v I (I.getD 3 0) n w hw hW hv (gOk_pool (pool_t hp).1).2 (by omega) (h40 hp) hl
 | false =>
   have hno := lh (show logP I W L ln = [] from if_neg (by rw [hl]; simp))
   have hA := bZ w (.cells #[.int .i64 W, .int .i64 L] 51)
   have hPo := lh (fun w1 (hb : Below w.heap.size w w1) => pool_any v I W L ln w1 (hw.keep hb) hW (hv.keep hb) hlen)
   rw [hl] at hPo
   obtain ⟨q0, q1⟩ := C2.new w (.int .i64 W) (.int .i64 L) 51
   clear h40 hl
   go_enter Tryz.func53, Tryz.ntmps53
   go_wp2_with fail
   refine (hPo.out _ hA).mono ?_
   rintro e w1 ⟨rfl, hb1⟩
   have hB1 := hA.trans (hb1.mono hA.size)
   clear hb1 hPo
   go_wp2_with fail
   go_ret
   exact ⟨_, rfl, by rw [hno.out]; exact OwnSp.nil _ _, hB1⟩
end Go.Proofs.YtdmmbnnejbmdpaaGreatDoor
end
section
namespace Go.Proofs.YtdmmbnnejbmdpaaGreatDoor
open Go.Lib Go.RowKit Go.ChangeShapes Go.WideShapes Go.Deep Go.Shelf
def HB (W : World) (b : Nat) (cs : Array Value) (t : TypeId) : Prop := W.heap[b]? = some (.cells cs t (0, 0))
theorem HB.lt {W : World} {b : Nat} {cs : Array Value} {t : TypeId} (h : HB W b cs t) : b < W.heap.size := (Array.getElem?_eq_some_iff.1 h).1
theorem HB.keep {w w1 : World} {b : Nat} {cs : Array Value} {t : TypeId} (h : HB w b cs t) (hb : Below w.heap.size w w1) : HB w1 b cs t := (hb.block b h.lt).trans h
theorem HB.new (w : World) (cs : Array Value) (t : TypeId) : HB (w.alloc (.cells cs t)) w.heap.size cs t := World.alloc_heap_new w _
theorem HB.c2 {w : World} {b : Nat} {x y : Value} {t : TypeId} (h : HB w b #[x, y] t) : C2 w b x y := ⟨(row_cell h 0).1, (row_cell h 1).1⟩
end Go.Proofs.YtdmmbnnejbmdpaaGreatDoor
end
section
namespace Go.Proofs.YtdmmbnnejbmdpaaGreatDoor
open Go.Lib Go.RowKit Go.ChangeShapes Go.WideShapes Go.Deep Go.Shelf
theorem fieldQ (x y : Int) (w : World) : (Instr.field 57 (.agg #[.int .i64 x, .int .i64 y]) 0).run Tryz.prog w = .ok (.int .i64 x) w := by kernel_rfl
theorem place_any (N L c j m : Nat) (w : World) (hg : gOk (N : Nat) (L : Nat) = true) (h1 : c < gNat N L) (h2 : j * m ≤ 1000) (h3 : j ≤ 100) (h4 : m ≤ 300000) :
 Calls Tryz.prog 26 #[.agg #[.int .i64 (N : Nat), .int .i64 (L : Nat)], .agg #[.int .i64 (c : Nat), .int .i64 (j : Nat), .int .i64 (m : Nat)]] w fun e w' => e = .returned (.int .i64 (plc N L (c, j, m) : Nat)) ∧ Below w.heap.size w w' := by
 obtain ⟨s1, s2, s3, s4, s5, s6, s7, s8⟩ := pool_size hg
 obtain ⟨F, hF⟩ : ∃ F, 10 + 73 * L + gNat N L + c * 32 = F := ⟨_, rfl⟩
 have hCh := lh (fun w1 => show Calls Tryz.prog 66 #[.agg #[.int .i64 (N : Nat), .int .i64 (L : Nat)], .int .i64 (c : Nat)] w1 (fun e w' => e = .returned (.agg #[.int .i64 (F : Nat), .int .i64 32]) ∧ Below w1.heap.size w1 w') from by
  have h := chunk_yes (N : Nat) (L : Nat) (c : Nat) w1 hg (by omega) (by omega)
  unfold cFrom at h
  rw [show ((F : Nat) : Int) = 10 + 73 * (L : Int) + gN (N : Nat) (L : Nat) + (c : Int) * 32 from by omega]
  exact h)
 obtain ⟨Q, hQ⟩ : ∃ Q, j * m = Q := ⟨_, rfl⟩
 have hQ1 : (j : Int) * (m : Int) = (Q : Int) := by rw [← hQ]; simp
 have hQ2 : IntKind.i64.wrap (Q : Int) = (Q : Int) := wrapQ _ (by omega) (by omega)
 obtain ⟨R, hR⟩ : ∃ R, F + Q = R := ⟨_, rfl⟩
 have hR1 : (F : Int) + (Q : Int) = (R : Int) := by omega
 have hR2 : IntKind.i64.wrap (R : Int) = (R : Int) := wrapQ _ (by omega) (by omega)
 have e : plc N L (c, j, m) = R := by
  show 10 + 73 * L + gNat N L + c * 32 + j * m = R
  omega
 rw [e]
 clear e hR hF hQ hg s1 s2 s3 s4 s5 s6 s7 s8 h1
 have hb0 := bZ w (.cells #[.int .i64 (N : Nat), .int .i64 (L : Nat)] 51)
 have gG := HB.new w #[.int .i64 (N : Nat), .int .i64 (L : Nat)] 51
 obtain ⟨wb1, hwb1⟩ : ∃ x, w.alloc (.cells #[.int .i64 (N : Nat), .int .i64 (L : Nat)] 51) = x := ⟨_, rfl⟩
 have hswb1 : wb1.heap.size = w.heap.size + 1 := by rw [← hwb1]; simp
 rw [hwb1] at hb0 gG
 have hB : Below w.heap.size w wb1 := hb0
 have hb1 := bZ wb1 (.cells #[.int .i64 (c : Nat), .int .i64 (j : Nat), .int .i64 (m : Nat)] 61)
 have gK := HB.new wb1 #[.int .i64 (c : Nat), .int .i64 (j : Nat), .int .i64 (m : Nat)] 61
 obtain ⟨wb2, hwb2⟩ : ∃ x, wb1.alloc (.cells #[.int .i64 (c : Nat), .int .i64 (j : Nat), .int .i64 (m : Nat)] 61) = x := ⟨_, rfl⟩
 have hswb2 : wb2.heap.size = w.heap.size + 2 := by rw [← hwb2]; simp; omega
 rw [hwb2] at hb1 gK
 rw [hswb1] at gK
 replace gG := gG.keep hb1
 replace hB := hB.trans (hb1.mono (by omega))
 obtain ⟨C, hC⟩ : ∃ C, w.heap.size = C := ⟨_, rfl⟩
 rw [hC] at gG gK hswb1 hswb2
 clear hb0 hb1
 have hCF := lh (fun w' (hb : Below wb2.heap.size wb2 w') => show w'.cell? ⟨C, 0, none⟩ = some (.int .i64 (N : Nat)) ∧ w'.cell? ⟨C, 1, none⟩ = some (.int .i64 (L : Nat)) ∧ w'.cell? ⟨C + 1, 0, none⟩ = some (.int .i64 (c : Nat)) ∧ w'.cell? ⟨C + 1, 1, none⟩ = some (.int .i64 (j : Nat)) ∧ w'.cell? ⟨C + 1, 2, none⟩ = some (.int .i64 (m : Nat)) from
  ⟨(gG.keep hb).c2.1, (gG.keep hb).c2.2, (row_cell (gK.keep hb) 0).1, (row_cell (gK.keep hb) 1).1, (row_cell (gK.keep hb) 2).1⟩)
 have hfd := fun w1 => fieldQ (F : Nat) 32 w1
 go_enter Tryz.func26, Tryz.ntmps26
 go_wp2_with fail
 refine wp_region_held_drew (S := (fun w' => Below wb2.heap.size wb2 w')) (by kernel_rfl) (Below.refl _ _).drew (fun hHeld => ?_)
 refine takeH 0 ?_
 refine takeH 1 ?_
 refine takeH 2 ?_
 refine takeH 5 ?_
 refine takeH 6 ?_
 refine takeH 7 ?_
 refine takeH 8 ?_
 refine takeH 9 ?_
 refine oneL 3 rfl (by kernel_rfl) (fun K hK => ?_)
 go_simp
 refine (hCh.out _).mono ?_; rintro e w5 ⟨rfl, hb⟩
 refine hK.out _ _ (hHeld.trans (hb.mono hHeld.size)) (fun hHeld2 => ?_)
 clear hK K hHeld
 have hHeld := hHeld2
 clear hHeld2
 try simp only [Act.put,sA,sB,sC]
 refine takeH 4 ?_
 refine takeH 10 ?_
 refine takeH 11 ?_
 refine wpAnyH_done (by kernel_rfl) ?_ _
 have hBe := hB.trans (hHeld.mono hB.size)
 go_wp2_with fail
 go_ret
 exact ⟨rfl, by first | exact hBe | (rw [hC] at hBe; exact hBe)⟩
theorem refPlace_any (N L c j m : Nat) (w : World) (hg : gOk (N : Nat) (L : Nat) = true) (h1 : c < gNat N L) (h2 : j * m ≤ 1000) (h3 : j ≤ 100) (h4 : m ≤ 300000) :
 Calls Tryz.prog 27 #[.agg #[.int .i64 (N : Nat), .int .i64 (L : Nat)], .agg #[.int .i64 (c : Nat), .int .i64 (j : Nat), .int .i64 (m : Nat)]] w fun e w' => e = .returned (.int .i64 (plc N L (c, j, m) : Nat)) ∧ Below w.heap.size w w' := by
 obtain ⟨s1, s2, s3, s4, s5, s6, s7, s8⟩ := pool_size hg
 obtain ⟨F, hF⟩ : ∃ F, 10 + 73 * L + gNat N L + c * 32 = F := ⟨_, rfl⟩
 have hCh := lh (fun w1 => show Calls Tryz.prog 28 #[.agg #[.int .i64 (N : Nat), .int .i64 (L : Nat)], .int .i64 (c : Nat)] w1 (fun e w' => e = .returned (.agg #[.int .i64 (F : Nat), .int .i64 32]) ∧ Below w1.heap.size w1 w') from by
  have h := refChunk_yes (N : Nat) (L : Nat) (c : Nat) w1 hg (by omega) (by omega)
  unfold cFrom at h
  rw [show ((F : Nat) : Int) = 10 + 73 * (L : Int) + gN (N : Nat) (L : Nat) + (c : Int) * 32 from by omega]
  exact h)
 obtain ⟨Q, hQ⟩ : ∃ Q, j * m = Q := ⟨_, rfl⟩
 have hQ1 : (m : Int) * (j : Int) = (Q : Int) := by rw [← hQ]; simp [Int.mul_comm]
 have hQ2 : IntKind.i64.wrap (Q : Int) = (Q : Int) := wrapQ _ (by omega) (by omega)
 obtain ⟨R, hR⟩ : ∃ R, F + Q = R := ⟨_, rfl⟩
 have hR1 : (F : Int) + (Q : Int) = (R : Int) := by omega
 have hR2 : IntKind.i64.wrap (R : Int) = (R : Int) := wrapQ _ (by omega) (by omega)
 have e : plc N L (c, j, m) = R := by
  show 10 + 73 * L + gNat N L + c * 32 + j * m = R
  omega
 rw [e]
 clear e hR hF hQ hg s1 s2 s3 s4 s5 s6 s7 s8 h1
 have hb0 := bZ w (.cells #[.int .i64 (N : Nat), .int .i64 (L : Nat)] 51)
 have gG := HB.new w #[.int .i64 (N : Nat), .int .i64 (L : Nat)] 51
 obtain ⟨wb1, hwb1⟩ : ∃ x, w.alloc (.cells #[.int .i64 (N : Nat), .int .i64 (L : Nat)] 51) = x := ⟨_, rfl⟩
 have hswb1 : wb1.heap.size = w.heap.size + 1 := by rw [← hwb1]; simp
 rw [hwb1] at hb0 gG
 have hB : Below w.heap.size w wb1 := hb0
 have hb1 := bZ wb1 (.cells #[.int .i64 (c : Nat), .int .i64 (j : Nat), .int .i64 (m : Nat)] 61)
 have gK := HB.new wb1 #[.int .i64 (c : Nat), .int .i64 (j : Nat), .int .i64 (m : Nat)] 61
 obtain ⟨wb2, hwb2⟩ : ∃ x, wb1.alloc (.cells #[.int .i64 (c : Nat), .int .i64 (j : Nat), .int .i64 (m : Nat)] 61) = x := ⟨_, rfl⟩
 have hswb2 : wb2.heap.size = w.heap.size + 2 := by rw [← hwb2]; simp; omega
 rw [hwb2] at hb1 gK
 rw [hswb1] at gK
 replace gG := gG.keep hb1
 replace hB := hB.trans (hb1.mono (by omega))
 obtain ⟨C, hC⟩ : ∃ C, w.heap.size = C := ⟨_, rfl⟩
 rw [hC] at gG gK hswb1 hswb2
 clear hb0 hb1
 have hCF := lh (fun w' (hb : Below wb2.heap.size wb2 w') => show w'.cell? ⟨C, 0, none⟩ = some (.int .i64 (N : Nat)) ∧ w'.cell? ⟨C, 1, none⟩ = some (.int .i64 (L : Nat)) ∧ w'.cell? ⟨C + 1, 0, none⟩ = some (.int .i64 (c : Nat)) ∧ w'.cell? ⟨C + 1, 1, none⟩ = some (.int .i64 (j : Nat)) ∧ w'.cell? ⟨C + 1, 2, none⟩ = some (.int .i64 (m : Nat)) from
  ⟨(gG.keep hb).c2.1, (gG.keep hb).c2.2, (row_cell (gK.keep hb) 0).1, (row_cell (gK.keep hb) 1).1, (row_cell (gK.keep hb) 2).1⟩)
 have hfd := fun w1 => fieldQ (F : Nat) 32 w1
 go_enter Tryz.func27, Tryz.ntmps27
 go_wp2_with fail
 refine wp_region_held_drew (S := (fun w' => Below wb2.heap.size wb2 w')) (by kernel_rfl) (Below.refl _ _).drew (fun hHeld => ?_)
 refine takeH 0 ?_
 refine takeH 1 ?_
 refine takeH 2 ?_
 refine takeH 5 ?_
 refine takeH 6 ?_
 refine takeH 7 ?_
 refine takeH 8 ?_
 refine takeH 9 ?_
 refine oneL 3 rfl (by kernel_rfl) (fun K hK => ?_)
 go_simp
 refine (hCh.out _).mono ?_; rintro e w5 ⟨rfl, hb⟩
 refine hK.out _ _ (hHeld.trans (hb.mono hHeld.size)) (fun hHeld2 => ?_)
 clear hK K hHeld
 have hHeld := hHeld2
 clear hHeld2
 try simp only [Act.put,sA,sB,sC]
 refine takeH 4 ?_
 refine takeH 10 ?_
 refine takeH 11 ?_
 refine wpAnyH_done (by kernel_rfl) ?_ _
 have hBe := hB.trans (hHeld.mono hB.size)
 go_wp2_with fail
 go_ret
 exact ⟨rfl, by first | exact hBe | (rw [hC] at hBe; exact hBe)⟩
theorem read_t (v : Value) (I : List Nat) (w : World) (hW : WL I) (hv : KL .u64 w v I) (hs : sOk I = true) :
 Calls Tryz.prog 31 #[v] w fun e w' => e = .returned (.agg #[v, .int .i64 (I.length : Nat), .int .i64 (I.getD 3 0 : Nat)]) ∧ Below w.heap.size w w' := by
 have hA := bZ w (.cells #[.slice none 0 0, .int .i64 0, .int .i64 0] 73)
 have gA := HB.new w #[.slice none 0 0, .int .i64 0, .int .i64 0] 73
 obtain ⟨wa, hwa⟩ : ∃ x, w.alloc (.cells #[.slice none 0 0, .int .i64 0, .int .i64 0] 73) = x := ⟨_, rfl⟩
 rw [hwa] at hA gA
 have hsa : wa.heap.size = w.heap.size + 1 := by rw [← hwa]; simp
 obtain ⟨N, hN⟩ : ∃ N, I.length = N := ⟨_, rfl⟩
 obtain ⟨L, hL⟩ : ∃ L, I.getD 3 0 = L := ⟨_, rfl⟩
 have hD := dec_any v I wa hW (KL.sl (hv.keep hA))
 rw [hs, hL, hN] at hD
 rw [hL, hN]
 replace hD : Calls Tryz.prog 68 #[v] wa (fun e w' => e = .returned (.tuple #[.agg #[.int .i64 (N : Nat), .int .i64 (L : Nat)], .int .i64 0]) ∧ Below wa.heap.size wa w') := hD
 obtain ⟨A, c, rfl, -⟩ := hv.form hN
 replace hN := lh hN
 replace hL := lh hL
 clear hs hW hv
 go_enter Tryz.func31, Tryz.ntmps31
 subst hwa
 go_wp2_with fail
 refine hD.mono ?_
 rintro e w1 ⟨rfl, hb1⟩
 have hA1 := hA.trans (hb1.mono hA.size)
 have gA1 := gA.keep hb1
 have hs1 : w.heap.size < w1.heap.size := gA1.lt
 clear hD gA hA hb1 hsa
 have hB2 := hA1.alloc hA1.size (.cells #[.int .i64 (N : Nat), .int .i64 (L : Nat)] 51)
 have gA2 := gA1.keep (bZ w1 (.cells #[.int .i64 (N : Nat), .int .i64 (L : Nat)] 51))
 have gG2 := HB.new w1 #[.int .i64 (N : Nat), .int .i64 (L : Nat)] 51
 obtain ⟨q0, q1⟩ := gG2.c2
 obtain ⟨a0, b0⟩ := row_cell gA1 0
 obtain ⟨a1, b1⟩ := row_cell gA1 1
 obtain ⟨a2, b2⟩ := row_cell gA1 2
 go_wp2_with fail
 have hs3 : w.heap.size < (((w1.setCell ⟨w.heap.size, 0, none⟩ (.slice A N c)).setCell ⟨w.heap.size, 1, none⟩ (.int .i64 (N : Nat))).setCell ⟨w.heap.size, 2, none⟩ (.int .i64 (L : Nat))).heap.size := by rw [size_setCell, size_setCell, size_setCell]; exact hs1
 have d0 : (((w1.setCell ⟨w.heap.size, 0, none⟩ (.slice A N c)).setCell ⟨w.heap.size, 1, none⟩ (.int .i64 (N : Nat))).setCell ⟨w.heap.size, 2, none⟩ (.int .i64 (L : Nat))).cell? ⟨w.heap.size, 0, none⟩ = some (.slice A N c) := by simp [go_sem, a0, a1, a2]
 have d1 : (((w1.setCell ⟨w.heap.size, 0, none⟩ (.slice A N c)).setCell ⟨w.heap.size, 1, none⟩ (.int .i64 (N : Nat))).setCell ⟨w.heap.size, 2, none⟩ (.int .i64 (L : Nat))).cell? ⟨w.heap.size, 1, none⟩ = some (.int .i64 (N : Nat)) := by simp [go_sem, a0, a1, a2]
 have d2 : (((w1.setCell ⟨w.heap.size, 0, none⟩ (.slice A N c)).setCell ⟨w.heap.size, 1, none⟩ (.int .i64 (N : Nat))).setCell ⟨w.heap.size, 2, none⟩ (.int .i64 (L : Nat))).cell? ⟨w.heap.size, 2, none⟩ = some (.int .i64 (L : Nat)) := by simp [go_sem, a0, a1, a2]
 have hBe : Below w.heap.size w (((w1.setCell ⟨w.heap.size, 0, none⟩ (.slice A N c)).setCell ⟨w.heap.size, 1, none⟩ (.int .i64 (N : Nat))).setCell ⟨w.heap.size, 2, none⟩ (.int .i64 (L : Nat))) := ((hA1.setCell (Nat.le_refl _) _).setCell (Nat.le_refl _) _).setCell (Nat.le_refl _) _
 generalize ((w1.setCell ⟨w.heap.size, 0, none⟩ (.slice A N c)).setCell ⟨w.heap.size, 1, none⟩ (.int .i64 (N : Nat))).setCell ⟨w.heap.size, 2, none⟩ (.int .i64 (L : Nat)) = W3 at *
 have hb9 := bZ W3 (.cells #[.int .i64 (N : Nat), .int .i64 (L : Nat)] 51)
 have c0 := (bcell hb9).1 _ 0 hs3
 have c1 := (bcell hb9).1 _ 1 hs3
 have c2 := (bcell hb9).1 _ 2 hs3
 rw [d0] at c0
 rw [d1] at c1
 rw [d2] at c2
 refine bodyPost_ret (v := .agg #[.slice A N c, .int .i64 (N : Nat), .int .i64 (L : Nat)]) (by simp [results, Tryz.results31, go_sem, c0, c1, c2]) rfl ⟨rfl, hBe.trans (hb9.mono hBe.size)⟩
theorem read_f (v : Value) (I : List Nat) (w : World) (hW : WL I) (hv : KL .u64 w v I) (hs : sOk I = false) :
 Calls Tryz.prog 31 #[v] w fun e w' => e = .returned (.agg #[v, .int .i64 0, .int .i64 0]) ∧ Below w.heap.size w w' := by
 have hA := bZ w (.cells #[.slice none 0 0, .int .i64 0, .int .i64 0] 73)
 have gA := HB.new w #[.slice none 0 0, .int .i64 0, .int .i64 0] 73
 obtain ⟨wa, hwa⟩ : ∃ x, w.alloc (.cells #[.slice none 0 0, .int .i64 0, .int .i64 0] 73) = x := ⟨_, rfl⟩
 rw [hwa] at hA gA
 have hsa : wa.heap.size = w.heap.size + 1 := by rw [← hwa]; simp
 obtain ⟨N, hN⟩ : ∃ N, I.length = N := ⟨_, rfl⟩
 obtain ⟨L, hL⟩ : ∃ L, I.getD 3 0 = L := ⟨_, rfl⟩
 have hD := dec_any v I wa hW (KL.sl (hv.keep hA))
 rw [hs, hL, hN] at hD
 skip
 replace hD : Calls Tryz.prog 68 #[v] wa (fun e w' => e = .returned (.tuple #[.agg #[.int .i64 0, .int .i64 0], .int .i64 7]) ∧ Below wa.heap.size wa w') := hD
 obtain ⟨A, c, rfl, -⟩ := hv.form hN
 replace hN := lh hN
 replace hL := lh hL
 clear hs hW hv
 go_enter Tryz.func31, Tryz.ntmps31
 subst hwa
 go_wp2_with fail
 refine hD.mono ?_
 rintro e w1 ⟨rfl, hb1⟩
 have hA1 := hA.trans (hb1.mono hA.size)
 have gA1 := gA.keep hb1
 have hs1 : w.heap.size < w1.heap.size := gA1.lt
 clear hD gA hA hb1 hsa
 have hB2 := hA1.alloc hA1.size (.cells #[.int .i64 0, .int .i64 0] 51)
 have gA2 := gA1.keep (bZ w1 (.cells #[.int .i64 0, .int .i64 0] 51))
 have gG2 := HB.new w1 #[.int .i64 0, .int .i64 0] 51
 obtain ⟨q0, q1⟩ := gG2.c2
 obtain ⟨a0, b0⟩ := row_cell gA1 0
 obtain ⟨a1, b1⟩ := row_cell gA1 1
 obtain ⟨a2, b2⟩ := row_cell gA1 2
 go_wp2_with fail
 have hs3 : w.heap.size < (((w1.setCell ⟨w.heap.size, 0, none⟩ (.slice A N c)).setCell ⟨w.heap.size, 1, none⟩ (.int .i64 0)).setCell ⟨w.heap.size, 2, none⟩ (.int .i64 0)).heap.size := by rw [size_setCell, size_setCell, size_setCell]; exact hs1
 have d0 : (((w1.setCell ⟨w.heap.size, 0, none⟩ (.slice A N c)).setCell ⟨w.heap.size, 1, none⟩ (.int .i64 0)).setCell ⟨w.heap.size, 2, none⟩ (.int .i64 0)).cell? ⟨w.heap.size, 0, none⟩ = some (.slice A N c) := by simp [go_sem, a0, a1, a2]
 have d1 : (((w1.setCell ⟨w.heap.size, 0, none⟩ (.slice A N c)).setCell ⟨w.heap.size, 1, none⟩ (.int .i64 0)).setCell ⟨w.heap.size, 2, none⟩ (.int .i64 0)).cell? ⟨w.heap.size, 1, none⟩ = some (.int .i64 0) := by simp [go_sem, a0, a1, a2]
 have d2 : (((w1.setCell ⟨w.heap.size, 0, none⟩ (.slice A N c)).setCell ⟨w.heap.size, 1, none⟩ (.int .i64 0)).setCell ⟨w.heap.size, 2, none⟩ (.int .i64 0)).cell? ⟨w.heap.size, 2, none⟩ = some (.int .i64 0) := by simp [go_sem, a0, a1, a2]
 have hBe : Below w.heap.size w (((w1.setCell ⟨w.heap.size, 0, none⟩ (.slice A N c)).setCell ⟨w.heap.size, 1, none⟩ (.int .i64 0)).setCell ⟨w.heap.size, 2, none⟩ (.int .i64 0)) := ((hA1.setCell (Nat.le_refl _) _).setCell (Nat.le_refl _) _).setCell (Nat.le_refl _) _
 generalize ((w1.setCell ⟨w.heap.size, 0, none⟩ (.slice A N c)).setCell ⟨w.heap.size, 1, none⟩ (.int .i64 0)).setCell ⟨w.heap.size, 2, none⟩ (.int .i64 0) = W3 at *
 have hb9 := bZ W3 (.cells #[.int .i64 0, .int .i64 0] 51)
 have c0 := (bcell hb9).1 _ 0 hs3
 have c1 := (bcell hb9).1 _ 1 hs3
 have c2 := (bcell hb9).1 _ 2 hs3
 rw [d0] at c0
 rw [d1] at c1
 rw [d2] at c2
 refine bodyPost_ret (v := .agg #[.slice A N c, .int .i64 0, .int .i64 0]) (by simp [results, Tryz.results31, go_sem, c0, c1, c2]) rfl ⟨rfl, hBe.trans (hb9.mono hBe.size)⟩
theorem table16 (g off N cap L G : Nat) (w : World) (hg : gOk (N : Nat) (L : Nat) = true) (hG : gNat N L = G) (hc : N ≤ cap) :
 Calls Tryz.prog 73 #[.agg #[.slice (some ⟨g, off, none⟩) N cap, .int .i64 (N : Nat), .int .i64 (L : Nat)]] w fun e w' => e = .returned (.slice (some ⟨g, off + (10 + 73 * L), none⟩) G (cap - (10 + 73 * L))) ∧ Below w.heap.size w w' := by
 obtain ⟨s1, s2, s3, s4, s5, s6, s7, s8⟩ := pool_size hg
 obtain ⟨F, hF⟩ : ∃ F, 10 + 73 * L = F := ⟨_, rfl⟩
 have hTb := lh (fun w1 => show Calls Tryz.prog 97 #[.agg #[.int .i64 (N : Nat), .int .i64 (L : Nat)]] w1 (fun e w' => e = .returned (.agg #[.int .i64 (F : Nat), .int .i64 (G : Nat)]) ∧ Below w1.heap.size w1 w') from by
  have h := table_t (N : Nat) (L : Nat) w1 hg
  rw [s5, hG, show (10 + 73 * (L : Int)) = ((F : Nat) : Int) from by omega] at h
  exact h)
 rw [hF]
 obtain ⟨e, he⟩ : ∃ e, F + G = e := ⟨_, rfl⟩
 have z1 : (F : Int) + (G : Int) = (e : Int) := by omega
 have z2 : IntKind.i64.wrap (e : Int) = (e : Int) := wrapQ _ (by omega) (by omega)
 obtain ⟨i0, hi, hz0, hz1, hz2⟩ := info_parts infoU64
 have hS := fun w => run_slice2 (P := Tryz.prog) Tryz.underlying25 hi hz1 g off N cap F e G (by omega) (by omega) (by omega) (by omega) w
 replace he := lh he
 replace hF := lh hF
 clear hg s5 hG
 have hb0 := bZ w (.cells #[.slice (some ⟨g, off, none⟩) N cap, .int .i64 (N : Nat), .int .i64 (L : Nat)] 73)
 have gP := HB.new w #[.slice (some ⟨g, off, none⟩) N cap, .int .i64 (N : Nat), .int .i64 (L : Nat)] 73
 obtain ⟨wb1, hwb1⟩ : ∃ x, w.alloc (.cells #[.slice (some ⟨g, off, none⟩) N cap, .int .i64 (N : Nat), .int .i64 (L : Nat)] 73) = x := ⟨_, rfl⟩
 have hswb1 : wb1.heap.size = w.heap.size + 1 := by rw [← hwb1]; simp
 rw [hwb1] at hb0 gP
 have hB : Below w.heap.size w wb1 := hb0
 obtain ⟨C, hC⟩ : ∃ C, w.heap.size = C := ⟨_, rfl⟩
 rw [hC] at gP hswb1
 clear hb0
 have p0 := (row_cell gP 0).1
 have p1 := (row_cell gP 1).1
 have p2 := (row_cell gP 2).1
 go_enter Tryz.func73, Tryz.ntmps73
 subst hwb1
 go_wp2_with fail
 refine (hTb.out _).mono ?_
 rintro e1 w1 ⟨rfl, hb1⟩
 have hA1 := hB.trans (hb1.mono hB.size)
 have gP1 := gP.keep hb1
 have hs1 : C < w1.heap.size := gP1.lt
 clear hTb hB hb1 gP p0 p1 p2
 have hB2 := hA1.alloc hA1.size (.cells #[.int .i64 (F : Nat), .int .i64 (G : Nat)] 57)
 have gP2 := gP1.keep (bZ w1 (.cells #[.int .i64 (F : Nat), .int .i64 (G : Nat)] 57))
 have gT2 := HB.new w1 #[.int .i64 (F : Nat), .int .i64 (G : Nat)] 57
 obtain ⟨q0, q1⟩ := gT2.c2
 have p0 := (row_cell gP2 0).1
 go_wp2_with fail
 go_ret
 exact ⟨rfl, by first | exact hB2 | (rw [hC] at hB2; exact hB2)⟩
end Go.Proofs.YtdmmbnnejbmdpaaGreatDoor
end
section
namespace Go.Proofs.YtdmmbnnejbmdpaaGreatDoor
open Go.Lib Go.RowKit Go.ChangeShapes Go.WideShapes Go.Deep Go.Shelf
attribute [local go_sem] Oper.semAt_some
theorem HB.kp {w w1 : World} {n₀ Bo b : Nat} {cs : Array Value} {t : TypeId} (h : HB w b cs t) (hk : Kp n₀ Bo w w1) (hne : b ≠ Bo) (ho : ¬ OwnAt w Bo b) : HB w1 b cs t := (hk.2.1 b _ _ _ h hne ho).trans h
end Go.Proofs.YtdmmbnnejbmdpaaGreatDoor
end
section
namespace Go.Proofs.YtdmmbnnejbmdpaaGreatDoor
open Go.Lib Go.RowKit Go.ChangeShapes Go.WideShapes Go.Deep Go.Shelf
theorem HB.chg {S : Nat → Prop} {w w1 : World} {b : Nat} {cs : Array Value} {t : TypeId} (h : HB w b cs t) (hc : Chg S w w1) (hn : ¬ S b) : HB w1 b cs t := (hc.block b h.lt hn).trans h
theorem HB.ne_row {w : World} {b g n c base : Nat} {cs : Array Value} {t : TypeId} {l : List Nat} (h : HB w b cs t) (ho : OwnU w base (.slice (some ⟨g, 0, none⟩) n c) l) (ht : t ≠ 33) : b ≠ g := fun e => by
 obtain ⟨_, cur, hg⟩ := OwnU_row ho
 subst e
 have h3 := (show w.heap[b]? = _ from h).symm.trans hg
 simp at h3
 exact ht h3.2
def putK (X : List Nat) (a : Nat) (l : List Nat) : Nat → List Nat
 | 0 => X
 | k + 1 => (putK X a l k).set (a + k) (l.getD k 0)
def putL (X : List Nat) (a : Nat) (l : List Nat) : List Nat := putK X a l l.length
theorem putK_len (X : List Nat) (a : Nat) (l : List Nat) : ∀ k, (putK X a l k).length = X.length
 | 0 => rfl
 | k + 1 => by rw [putK, List.length_set, putK_len X a l k]
theorem putL_len (X : List Nat) (a : Nat) (l : List Nat) : (putL X a l).length = X.length := putK_len _ _ _ _
theorem putK_stop (X : List Nat) (a : Nat) (l : List Nat) (j : Nat) (h : X.length ≤ a + j) : ∀ k, putK X a l (j + k) = putK X a l j
 | 0 => rfl
 | k + 1 => by
   rw [show j + (k + 1) = (j + k) + 1 from rfl, putK, putK_stop X a l j h k]
   exact List.set_eq_of_length_le (by rw [putK_len]; omega)
theorem putK_WL {X : List Nat} {a : Nat} {l : List Nat} (hX : WL X) (hl : WL l) : ∀ k, WL (putK X a l k)
 | 0 => hX
 | k + 1 => (putK_WL hX hl k).setN _ _ (hl.getN k)
theorem putL_WL {X : List Nat} {a : Nat} {l : List Nat} (hX : WL X) (hl : WL l) : WL (putL X a l) := putK_WL hX hl _
theorem put_any15 (B N c a : Nat) (u : Value) (X l : List Nat) (b0 : Nat) (w : World) (ho : OwnU w b0 (.slice (some ⟨B, 0, none⟩) N c) X) (hX : X.length = N) (hu : ∀ w1, Chg (fun k => k = B) w w1 → KL .u64 w1 u l) (ha : a ≤ 100000) (hl : l.length ≤ 100000) (hN : N ≤ 100000) :
 Calls Tryz.prog 49 #[.slice (some ⟨B, 0, none⟩) N c, .int .i64 (a : Nat), u] w fun e w' => e = .returned (.tuple #[]) ∧ OwnU w' b0 (.slice (some ⟨B, 0, none⟩) N c) (putL X a l) ∧ Chg (fun k => k = B) w w' := by
 obtain ⟨n, hn⟩ : ∃ n, l.length = n := ⟨_, rfl⟩
 obtain ⟨A, cap, rfl, -⟩ := (hu w (Chg.refl _ _)).form hn
 have hC := lh (fun w1 i (hc : Chg (fun k => k = B) w w1) (hi : i < n) => show ∃ g off, A = some ⟨g, off, none⟩ ∧ n ≤ cap ∧ g < w1.heap.size ∧ w1.cell? ⟨g, off + i, none⟩ = some (.int .u64 (l.getD i 0 : Nat)) from by
  obtain ⟨A2, c2, hv2, h⟩ := (hu w1 hc).form hn
  cases hv2
  obtain ⟨g, off, h1, h2, h3, h4⟩ := h w1 i (Below.refl _ _) hi
  exact ⟨g, off, h1, h2, h3, h4⟩)
 have hst := lh (fun k => show putK X a l (k + 1) = (putK X a l k).set (a + k) (l.getD k 0) from rfl)
 have hpl := lh (fun k => (putK_len X a l k).trans hX)
 have hfin := lh (show putL X a l = putK X a l n from by unfold putL; rw [hn])
 have hstop := lh (fun j (hj : j ≤ n) (h : N ≤ a + j) => show putK X a l n = putK X a l j from by
  have := putK_stop X a l j (by omega) (n - j)
  rwa [show j + (n - j) = n from by omega] at this)
 replace hn := lh hn
 have hn9 : n ≤ 100000 := by have := hn.out; omega
 clear hu hl
 go_enter Tryz.func49, Tryz.ntmps49
 go_wp2_with fail
 go_loopw [6] (fun i wr => ∃ (j : Nat), j ≤ n ∧ i = .int .i64 j ∧ OwnU wr b0 (.slice (some ⟨B, 0, none⟩) N c) (putK X a l j) ∧ Chg (fun k => k = B) w wr) (fun i _ => n + 1 - (intOf i).toNat)
 case atStart => exact ⟨0, Nat.zero_le _, rfl, ho, Chg.refl _ _⟩
 case round =>
  obtain ⟨j, hj, rfl, hor, hcr⟩ := hrel
  clear ho
  have hw1 : IntKind.i64.wrap ((a : Int) + (j : Int)) = (a : Int) + (j : Int) := by rw [IntKind.wrap_i64]; omega
  by_cases hlt : j < n
  ·have hlt' : (j : Int) < (n : Int) := by omega
   by_cases hf : a + j < N
   ·have hf' : (a : Int) + (j : Int) < (N : Int) := by omega
    obtain ⟨g, off, rfl, hcap, hg, c0⟩ := hC.out wr j hcr hlt
    obtain ⟨d0, d1⟩ := hor.cell (hpl.out j) hf
    have ho2 := hor.set (y := l.getD j 0) (hpl.out j) hf
    rw [← hst.out j] at ho2
    have hc2 := hcr.trans (Chg.setCell (S := fun k => k = B) wr B (a + j) (.int .u64 (l.getD j 0 : Nat)) rfl) (fun k h => .inl h)
    generalize l.getD j 0 = x at *
    obtain ⟨q, hq⟩ : ∃ q, a + j = q := ⟨_, rfl⟩
    have hq' : (a : Int) + (j : Int) = (q : Int) := by omega
    rw [hq'] at hw1 hf'
    rw [hq] at d0 d1 ho2 hc2
    replace hq := lh hq
    have hq2 := hq'
    clear hor hcr hf
    go_wp2_with fail
    go_roundw
    case rel => exact ⟨j + 1, by omega, by go_num, ho2, hc2⟩
    case measure => first | (simp [intOf]; done) | (simp [intOf]; omega)
   ·have hf' : decide ((a : Int) + (j : Int) < (N : Int)) = false := decide_eq_false (by omega)
    have hs := lh (hstop.out j (by omega) (by omega))
    go_wp2_with fail
    (first | go_end0 | go_ret)
    exact ⟨rfl, by rw [hfin.out, hs.out]; exact hor, hcr⟩
  ·obtain rfl : j = n := by omega
   have hlt' : decide ((j : Int) < (j : Int)) = false := decide_eq_false (by omega)
   go_wp2_with fail
   (first | go_end0 | go_ret)
   exact ⟨rfl, by rw [hfin.out]; exact hor, hcr⟩
end Go.Proofs.YtdmmbnnejbmdpaaGreatDoor
end
