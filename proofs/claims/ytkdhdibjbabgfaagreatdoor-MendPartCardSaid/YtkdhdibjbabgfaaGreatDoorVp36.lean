/-
  Part of the proof of MendPart.
-/
import Derived.Test.YtkdhdibjbabgfaaGreatDoorVp12
import Derived.Test.YtkdhdibjbabgfaaGreatDoorVp33
import Derived.Test.YtkdhdibjbabgfaaGreatDoorVp7
import Derived.Test.YtkdhdibjbabgfaaGreatDoorVp0
set_option maxRecDepth 10000
set_option maxHeartbeats 2000000
set_option linter.unusedVariables false
set_option linter.unusedSimpArgs false
section
namespace Go.Proofs.YtkdhdibjbabgfaaGreatDoor
open Go.RowKit Go.ChangeShapes Go.WideShapes Go.Deep
theorem logs1_any (B : Nat) (l : List Nat) (v : Value) (w : World) (hc : w.cell? ⟨B, 0, none⟩ = some v) (hv : CKL w v l) (x y : Nat) (hx : x < l.length) (hy : y < l.length) :
 Calls Tryz.prog 107 #[.int .i64 (x : Nat), .int .i64 (y : Nat), .pointer (some ⟨B, 0, none⟩)] w fun e w' => e = .returned (.int .i64 (keyL l x - keyL l y)) ∧ w' = w.drew := by
 obtain ⟨n, hn⟩ : ∃ n, l.length = n := ⟨_, rfl⟩
 rw [hn] at hx hy
 obtain ⟨A, cap, rfl, hC⟩ := CKL.form hv hn
 obtain ⟨g, off, rfl, hcap, hg, _, _, _, _, d3, _⟩ := hC w x (Below.refl _ _) hx
 obtain ⟨g', off', he, _, _, _, _, _, _, e3, _⟩ := hC w y (Below.refl _ _) hy
 cases he
 unfold keyL
 have p1 := (parts_bd (l.getD x 0)).2.2.2.1
 have p2 := (parts_bd (l.getD y 0)).2.2.2.1
 generalize mN (l.getD x 0) = a at *
 generalize mN (l.getD y 0) = c at *
 have b1 : (x : Int) < (n : Int) := by omega
 have b2 : (y : Int) < (n : Int) := by omega
 have hw1 : IntKind.i64.wrap ((a : Int) - (c : Int)) = (a : Int) - (c : Int) := by rw [IntKind.wrap_i64]; omega
 clear hC hv hn
 go_enter Tryz.func107, Tryz.ntmps107
 go_wp2_with fail
 go_region
 all_goals (try go_wp2_with fail)
 go_ret
 exact ⟨rfl, rfl⟩
theorem intForm {w : World} {base : Nat} {v : Value} {l : List Nat} {n : Nat} (h : IKO w base v l) (hn : l.length = n) : ∃ A c, v = .slice A n c := by
 rcases h.2 with ⟨h, h2⟩ | ⟨g', cap', cur, h, _⟩
 ·exact ⟨none, 0, by rw [h, ← hn, h2]⟩
 ·exact ⟨_, _, by rw [h, hn]⟩
theorem eI_new (w : World) (x : Nat) : EL 1 eI (w.alloc (.cells #[.int .i64 (x : Nat)] (3 : Nat))) (.slice (some ⟨w.heap.size, 0, none⟩) 1 1) [x] :=
 OwnE.el eI_len (OwnE.lit (e := 3) (en := eI) eI_len w [x] #[.int .i64 (x : Nat)] rfl (by simp))
theorem appI_ti {w : World} {base x : Nat} {v : Value} {l : List Nat} (h : IKO w base v l) (hb : base ≤ w.heap.size) (hl : l.length ≤ 100000) :
 ∃ v' w', (Builtin.append_ #[87, 87] 87 #[v, .slice (some ⟨w.heap.size, 0, none⟩) 1 1]).run Tryz.prog (w.alloc (.cells #[.int .i64 (x : Nat)] (3 : Nat))) = .ok v' w' ∧ IKO w' base v' (l ++ [x]) ∧ Below base w w' := by
 obtain ⟨v', w', hrun, ho, hg, _, _⟩ := appE iT (h.alloc (.cells #[.int .i64 (x : Nat)] (3 : Nat))) (eI_new w x) (by rw [World.size_alloc]; omega) (by omega) (by simp)
 exact ⟨v', w', hrun, ho, ((Below.refl base w).alloc hb _).trans (grown_below hg (by rw [World.size_alloc]; omega) (fun k hk => (h.lt k hk).1))⟩
theorem log8 {t : List Nat} (h : t.all okN = true) : ∀ i, i < t.length → kN (t.getD i 0) = 4 → mN (t.getD i 0) < 8 := fun i hi hk => by
 have := (okN_t (all_at h hi)).2
 omega
theorem logsT_some {t t1 : List Nat} (lane : Int) (h1 : t.all okN = true → t1 = t) (h2 : t.all okN = false → t1 = []) : logsT t lane = logsR t1 lane 8 := by
 unfold logsT
 cases h : t.all okN with
 | true => rw [if_pos rfl, h1 h]
 | false =>
   rw [if_neg (by simp), h2 h]
   rfl
theorem logs_any (v : Value) (t : List Nat) (lane : Int) (w : World) (hw : Lw w) (hv : KL .u64 w v t) (hW : WL t) (hl : t.length ≤ 40) (hl1 : -9223372036854775808 ≤ lane) (hl2 : lane < 9223372036854775808) :
 Calls Tryz.prog 77 #[v, .int .i64 lane] w fun e W' => ∃ v', e = .returned v' ∧ IKO W' w.heap.size v' (logsT t lane) ∧ Below w.heap.size w W' := by
 have hCh := chunks_any v t w hw hv hW (by omega)
 obtain ⟨R, hR⟩ : ∃ R, logsT t lane = R := ⟨_, rfl⟩
 rw [hR]
 obtain ⟨nn, hnn⟩ : ∃ n, t.length = n := ⟨_, rfl⟩
 obtain ⟨A, cap, rfl, _⟩ := hv.form hnn
 go_enter Tryz.func77, Tryz.ntmps77
 go_wp2_with fail
 refine hCh.mono ?_
 rintro e w1 ⟨hP, hb1⟩
 obtain ⟨v1, bb, t1, rfl, hk1, hok1, _, hl3, q1, q2⟩ := hP.some
 have hRt := lh (show R = logsR t1 lane 8 from by rw [← hR]; exact logsT_some lane q1 q2)
 obtain ⟨n, hn⟩ : ∃ n, t1.length = n := ⟨_, rfl⟩
 have hn40 : n ≤ 40 := by omega
 have hok := lh (fun k (hk : k < n) => okN_t (all_at hok1 (k := k) (by omega)))
 have h8 := lh (log8 hok1)
 -- the variable that the closure looks at
 have hBx := bZ w1 (.cells #[v1] 109)
 have hcx : (w1.alloc (.cells #[v1] 109)).cell? ⟨w1.heap.size, 0, none⟩ = some v1 := cell_new1 _ _ _
 have hkx := hk1.keep hBx
 have hb0 : Below w.heap.size w (w1.alloc (.cells #[v1] 109)) := hb1.trans (hBx.mono hb1.size)
 obtain ⟨w0, hw0⟩ : ∃ w0, w1.alloc (.cells #[v1] 109) = w0 := ⟨_, rfl⟩
 have hz0 : w0.heap.size = w1.heap.size + 1 := by rw [← hw0, World.size_alloc]
 rw [hw0] at hcx hkx hb0
 obtain ⟨A1, c1, rfl, hC⟩ := CKL.form hkx hn
 replace hC := lh hC
 obtain ⟨base, hbase⟩ : ∃ b, w0.heap.size = b := ⟨_, rfl⟩
 obtain ⟨B, hB⟩ : ∃ B, w1.heap.size = B := ⟨_, rfl⟩
 have hBb : B < base := by omega
 rw [hB] at hcx
 have hHC := lh (show CmpOk #[.pointer (some ⟨B, 0, none⟩)] (keyL t1) n base w0 from fun w' x y hb hx hy => by
  rw [← hbase] at hb
  have := logs1_any B t1 (.slice A1 n c1) w' (by rw [(bcell hb).1 _ _ (World.block_lt_of_cell? _ _ hcx)]; exact hcx) (hkx.keep hb) x y (by omega) (by omega)
  exact this)
 have hKey := lh (show Key n (keyL t1) (keyT t1 n) from key_mk n (keyL t1))
 have hcx' := lh (fun (w' : World) (hb : Below base w0 w') => show w'.cell? ⟨B, 0, none⟩ = some (.slice A1 n c1) from by rw [← hbase] at hb; rw [(bcell hb).1 _ _ (World.block_lt_of_cell? _ _ hcx)]; exact hcx)
 replace hC := lh (fun (w' : World) (i : Nat) (hb : Below base w0 w') (hi : i < n) => hC.out w' i (by rw [hbase]; exact hb) hi)
 replace hb0 := lh hb0
 have hsz0 := lh hbase
 have hsz1 := lh hB
 have hws : w.heap.size ≤ base := by rw [← hbase]; exact hb0.out.size
 replace hn := lh hn
 replace hw0 := lh hw0
 clear hCh hP hv hW hR hnn hk1 hok1 q1 q2 hl3 hl hkx hBx hb1 hz0 hbase hB hcx
 go_wp2_with fail
 try rw [hw0.out]
 try rw [hsz1.out]
 go_loopw [17, 7] (fun i vr wr => ∃ (j : Nat) (l : List Nat), j ≤ n ∧ i = .int .i64 j ∧ l = logsF t1 lane j ∧ IKO wr base vr l ∧ Below base w0 wr) (fun i _ _ => n + 1 - (intOf i).toNat)
 case atStart => exact ⟨0, _, Nat.zero_le _, rfl, rfl, OwnE.nil _ _ _ _ _, Below.refl _ _⟩
 case round =>
  obtain ⟨j, l, hj, rfl, rfl, hown, hB⟩ := hrel
  have hbw : base ≤ wr.heap.size := by rw [← hsz0.out]; exact hB.size
  by_cases hlt : j < n
  ·obtain ⟨g, off, rfl, hcap, hg, hg2, c0, c1, c2, c3, c4⟩ := hC.out wr j hB hlt
   have hlt' : (j : Int) < (n : Int) := by omega
   have hx := hok.out j hlt
   have hsc := logsF_succ t1 lane j
   have hlF := logsF_len t1 lane j
   have hisL : isLg t1 lane j = (decide (kN (t1.getD j 0) = 4) && decide ((lnN (t1.getD j 0) : Int) = lane)) := rfl
   generalize t1.getD j 0 = x at *
   obtain ⟨ik, hik⟩ : ∃ z : Int, ((kN x : Nat) : Int) = z := ⟨_, rfl⟩
   obtain ⟨il, hil⟩ : ∃ z : Int, ((lnN x : Nat) : Int) = z := ⟨_, rfl⟩
   rw [hik] at c0
   rw [hil] at c2 hisL
   have hA := C5.new wr ik (cN x : Nat) il (mN x : Nat) (bN x : Nat) 96
   obtain ⟨d0, d1, d2, d3, d4⟩ := hA
   have hB4 := hB.alloc hbw (.cells #[.int .i64 ik, .int .i64 (cN x : Nat), .int .i64 il, .int .i64 (mN x : Nat), .int .u64 (bN x : Nat)] 96)
   have hown4 := hown.alloc (.cells #[.int .i64 ik, .int .i64 (cN x : Nat), .int .i64 il, .int .i64 (mN x : Nat), .int .u64 (bN x : Nat)] 96)
   obtain ⟨Av, cv, rfl⟩ := intForm hown rfl
   obtain ⟨L, hL⟩ : ∃ L, (logsF t1 lane j).length = L := ⟨_, rfl⟩
   have hz5 : (wr.alloc (.cells #[.int .i64 ik, .int .i64 (cN x : Nat), .int .i64 il, .int .i64 (mN x : Nat), .int .u64 (bN x : Nat)] 96)).heap.size = wr.heap.size + 1 := World.size_alloc _ _
   rw [hL] at hown hown4 ⊢
   by_cases k4 : ik = 4
   ·subst k4
    have k4' : kN x = 4 := by omega
    by_cases kl : il = lane
    ·subst kl
     have hst := lh (show logsF t1 il (j + 1) = logsF t1 il j ++ [j] from by rw [hsc, hisL, decide_eq_true k4', decide_eq_true rfl]; rfl)
     obtain ⟨W5, hW5⟩ : ∃ W, wr.alloc (.cells #[.int .i64 4, .int .i64 (cN x : Nat), .int .i64 il, .int .i64 (mN x : Nat), .int .u64 (bN x : Nat)] 96) = W := ⟨_, rfl⟩
     rw [hW5] at d0 d1 d2 d3 d4 hB4 hown4 hz5
     obtain ⟨v', w4, hrun, ho, hb⟩ := appI_ti (x := j) hown4 (by omega) (by omega)
     have hB6 := hB4.trans (hb.mono (Nat.le_refl _))
     have hl' := lh hL
     replace hW5 := lh hW5
     replace hik := lh hik
     replace hil := lh hil
     rw [← hW5.out] at hrun
     simp only [World.size_alloc] at hrun
     clear hsc hlF hisL hx k4' hL hz5 hB4 hown4 hown hb
     clear d0 d1 d2 d3 d4
     go_wp2_with (at_builtin; refine wpList_append_run rfl _ _ 87 rfl _ _ _ rfl rfl hrun ?_)
     go_roundw
     case rel => exact ⟨j + 1, _, by omega, by go_num, rfl, by rw [hst.out]; exact ho, hB6⟩
     case measure => first | (simp [intOf]; done) | (simp [intOf]; omega)
    ·have hst := lh (show logsF t1 lane (j + 1) = logsF t1 lane j from by rw [hsc, hisL, decide_eq_false kl, Bool.and_false]; simp)
     clear hsc hlF hisL hx k4' hik hil
     go_wp2_with fail
     go_roundw
     case rel => exact ⟨j + 1, _, by omega, by go_num, rfl, by rw [hst.out]; exact hown4, hB4⟩
     case measure => first | (simp [intOf]; done) | (simp [intOf]; omega)
   ·have k4' : ¬ kN x = 4 := by omega
    have hst := lh (show logsF t1 lane (j + 1) = logsF t1 lane j from by rw [hsc, hisL, decide_eq_false k4', Bool.false_and]; simp)
    clear hsc hlF hisL hx k4' hik hil
    go_wp2_with fail
    go_roundw
    case rel => exact ⟨j + 1, _, by omega, by go_num, rfl, by rw [hst.out]; exact hown4, hB4⟩
    case measure => first | (simp [intOf]; done) | (simp [intOf]; omega)
  ·obtain rfl : j = n := by omega
   have hlF := logsF_len t1 lane j
   have hlt2 : ∀ x ∈ logsF t1 lane j, x < j := fun x hx => logsF_lt hx
   have hasc := logsF_asc t1 lane j
   have hdone := lh (fun (e : List Nat) (hp : e.Perm (logsF t1 lane j)) (hs : Srt (keyT t1 j) e 0 e.length) => show e = R from by
    rw [hRt.out]
    have hn2 := hn.out
    subst hn2
    exact logs_done (Nat.le_refl _) h8.out hp hs)
   obtain ⟨D, hD⟩ : ∃ D, logsF t1 lane j = D := ⟨_, rfl⟩
   rw [hD] at hlF hlt2 hasc hdone hown
   obtain ⟨L, hL⟩ : ∃ L, D.length = L := ⟨_, rfl⟩
   rw [hL] at hlF hasc
   replace hasc := lh hasc
   replace hlt2 := lh hlt2
   replace hD := lh hD
   by_cases h0 : 0 < L
   ·obtain ⟨g, cap', rfl, hgb, hgl, hgc⟩ := hown.form (by rw [hL]; exact h0)
    rw [hL] at hown hgc ⊢
    have hSD : SD w0 base g L cap' D wr := ⟨hown, hL, hB, hgb⟩
    have hs := lh (fun (w : World) (S : SD w0 base g L cap' D w) => sortStable_any #[.pointer (some ⟨B, 0, none⟩)] (keyL t1) (keyT t1 j) j base g L cap' w0 D w hHC hKey S (by omega) hlt2.out hasc.out)
    replace hSD := lh hSD
    replace hL := lh hL
    clear hown hgc hlF hB
    go_wp2_with fail
    refine (hs.out _ hSD.out).mono ?_
    rintro e w5 ⟨rfl, d1, S1, M1, T1⟩
    have he := lh (hdone.out d1 (M1.perm) (by rw [S1.len]; exact T1))
    have hfin := lh (show IKO w5 w.heap.size (.slice (some ⟨g, 0, none⟩) L cap') R ∧ Below w.heap.size w w5 from ⟨by rw [← he.out]; exact S1.own.mono hws, hb0.out.trans (S1.kept.mono hws)⟩)
    clear S1 M1 T1
    go_wp2_with fail
    go_ret
    exact ⟨_, rfl, hfin.out⟩
   ·obtain rfl : L = 0 := by omega
    have hDn := List.eq_nil_of_length_eq_zero hL
    have he := lh (hdone.out D (List.Perm.refl _) (fun p q _ _ hq => by omega))
    obtain ⟨Av, cv, rfl⟩ := intForm hown hL
    have hs := lh (fun (w : World) F => sortStable_nil Av cv F w)
    have hfin := lh (show IKO wr w.heap.size (.slice Av 0 cv) R ∧ Below w.heap.size w wr from ⟨by rw [← he.out]; exact hown.mono hws, hb0.out.trans (hB.mono hws)⟩)
    replace hL := lh hL
    replace hDn := lh hDn
    clear hown hlF hB
    go_wp2_with fail
    refine (hs.out _ _).mono ?_
    rintro e w5 ⟨rfl, rfl⟩
    go_wp2_with fail
    go_ret
    exact ⟨_, rfl, hfin.out⟩
end Go.Proofs.YtkdhdibjbabgfaaGreatDoor
end
section
namespace Go.Proofs.YtkdhdibjbabgfaaGreatDoor
open Go.RowKit Go.ChangeShapes Go.WideShapes Go.Deep
theorem refLogs_any (v : Value) (t : List Nat) (lane : Int) (w : World) (hw : Lw w) (hv : KL .u64 w v t) (hW : WL t) (hl : t.length ≤ 1000) :
 Calls Tryz.prog 46 #[v, .int .i64 lane] w fun e W' => ∃ v', e = .returned v' ∧ IKO W' w.heap.size v' (logsT t lane) ∧ Below w.heap.size w W' := by
 have hCh := refChunks_any v t w hw hv hW (by omega)
 obtain ⟨R, hR⟩ : ∃ R, logsT t lane = R := ⟨_, rfl⟩
 rw [hR]
 obtain ⟨nn, hnn⟩ : ∃ n, t.length = n := ⟨_, rfl⟩
 obtain ⟨A, cap, rfl, _⟩ := hv.form hnn
 go_enter Tryz.func46, Tryz.ntmps46
 go_wp2_with fail
 refine hCh.mono ?_
 rintro e w1 ⟨hP, hb1⟩
 obtain ⟨v1, bb, t1, rfl, hk1, hok1, _, hl3, q1, q2⟩ := hP.some
 have hRt := lh (show R = logsR t1 lane 8 from by rw [← hR]; exact logsT_some lane q1 q2)
 obtain ⟨n, hn⟩ : ∃ n, t1.length = n := ⟨_, rfl⟩
 have hn9 : n ≤ 1000 := by omega
 obtain ⟨A1, c1, rfl, hC⟩ := CKL.form hk1 hn
 replace hC := lh hC
 have hR0 := lh (show logsR t1 lane 0 = [] from rfl)
 have hRs := lh (fun m => (show logsR t1 lane (m + 1) = logsR t1 lane m ++ logsN t1 lane m n from by rw [logsR_succ, hn]))
 have hRl := lh (fun m => (show (logsR t1 lane m).length ≤ m * n from by rw [← hn]; exact logsR_len t1 lane m))
 have hbs1 := hb1.size
 have hbw := lh hb1
 replace hn := lh hn
 clear hCh hP hv hW hR hnn hk1 hok1 q1 q2 hl3 hl hb1
 go_wp2_with fail
 go_loopw [8, 7] (fun i vr wr => ∃ (m : Nat) (l : List Nat), m ≤ 8 ∧ i = .int .i64 m ∧ l = logsR t1 lane m ∧ IKO wr w1.heap.size vr l ∧ Below w1.heap.size w1 wr) (fun i _ _ => 9 - (intOf i).toNat)
 case atStart => exact ⟨0, _, Nat.zero_le _, rfl, rfl, by rw [hR0.out]; exact OwnE.nil _ _ _ _ _, Below.refl _ _⟩
 case round =>
  obtain ⟨m, l, hm, rfl, rfl, hown0, hB0⟩ := hrel
  by_cases hlt0 : m < 8
  ·have hlt0' : (m : Int) < 8 := by omega
   have hRl' := hRl.out m
   have hm8 : m * n ≤ 7 * 1000 := Nat.mul_le_mul (by omega) hn9
   go_wp2_with fail
   go_loopw [9, 7] (fun i vr wr => ∃ (j : Nat) (l : List Nat), j ≤ n ∧ i = .int .i64 j ∧ l = logsR t1 lane m ++ logsN t1 lane m j ∧ IKO wr w1.heap.size vr l ∧ Below w1.heap.size w1 wr) (fun i _ _ => n + 1 - (intOf i).toNat)
   case atStart => exact ⟨0, _, Nat.zero_le _, rfl, rfl, by rw [show logsN t1 lane m 0 = [] from rfl, List.append_nil]; exact hown0, hB0⟩
   case round =>
    obtain ⟨j, l, hj, rfl, rfl, hown, hB⟩ := hrel
    by_cases hlt : j < n
    ·obtain ⟨g, off, rfl, hcap, hg, hg2, c0, c1, c2, c3, c4⟩ := hC.out wr j hB hlt
     have hlt' : (j : Int) < (n : Int) := by omega
     have hsc := logsN_succ t1 lane m j
     have hlF := logsN_len t1 lane m j
     have hisL : isLog t1 lane m j = (decide (kN (t1.getD j 0) = 4) && decide ((lnN (t1.getD j 0) : Int) = lane) && decide (mN (t1.getD j 0) = m)) := rfl
     generalize t1.getD j 0 = x at *
     obtain ⟨D, hD⟩ : ∃ D, logsR t1 lane m ++ logsN t1 lane m j = D := ⟨_, rfl⟩
     have hDl : D.length ≤ 8000 := by rw [← hD, List.length_append]; omega
     rw [hD] at hown
     obtain ⟨L, hL⟩ : ∃ L, D.length = L := ⟨_, rfl⟩
     obtain ⟨Av, cv, rfl⟩ := intForm hown hL
     obtain ⟨ik, hik⟩ : ∃ z : Int, ((kN x : Nat) : Int) = z := ⟨_, rfl⟩
     obtain ⟨il, hil⟩ : ∃ z : Int, ((lnN x : Nat) : Int) = z := ⟨_, rfl⟩
     obtain ⟨im, him⟩ : ∃ z : Int, ((mN x : Nat) : Int) = z := ⟨_, rfl⟩
     rw [hik] at c0
     rw [hil] at c2 hisL
     rw [him] at c3
     have hno : ¬ (kN x = 4 ∧ il = lane ∧ mN x = m) → Hid (logsR t1 lane m ++ logsN t1 lane m (j + 1) = D) := fun h => by
      show _ = _
      rw [hsc, hisL, ← hD]
      have : (decide (kN x = 4) && decide (il = lane) && decide (mN x = m)) = false := by
       rw [Bool.eq_false_iff]; intro q; simp only [Bool.and_eq_true, decide_eq_true_eq] at q; exact h ⟨q.1.1, q.1.2, q.2⟩
      rw [this]; simp
     by_cases k4 : ik = 4
     ·subst k4
      by_cases kl : il = lane
      ·subst kl
       by_cases km : mN x = m
       ·have km' : im = (m : Int) := by omega
        rw [km'] at c3
        have hst := lh (show logsR t1 il m ++ logsN t1 il m (j + 1) = D ++ [j] from by rw [hsc, hisL, decide_eq_true (show kN x = 4 by omega), decide_eq_true rfl, decide_eq_true km, ← hD, List.append_assoc]; rfl)
        obtain ⟨v', w4, hrun, ho, hb⟩ := appI_ti (x := j) hown (by have := hB.size; omega) (by omega)
        have hB6 := hB.trans (hb.mono (Nat.le_refl _))
        replace hL := lh hL
        replace hD := lh hD
        clear hsc hlF hisL hik hil him km km' hno hown hb hDl hRl'
        go_wp2_with (at_builtin; refine wpList_append_run rfl _ _ 87 rfl _ _ _ rfl rfl hrun ?_)
        go_roundw
        case rel => exact ⟨j + 1, _, by omega, by go_num, rfl, by rw [hst.out]; exact ho, hB6⟩
        case measure => first | (simp [intOf]; done) | (simp [intOf]; omega)
       ·have km' : ¬ im = (m : Int) := by omega
        have km2 : (im == (m : Int)) = false := by rw [beq_eq_false_iff_ne]; exact km'
        have hst := hno (fun q => km q.2.2)
        replace hL := lh hL
        replace hD := lh hD
        clear hsc hlF hisL hik hil him km hno hDl hRl'
        go_wp2_with fail
        go_roundw
        case rel => exact ⟨j + 1, _, by omega, by go_num, rfl, by rw [hst.out]; exact hown, hB⟩
        case measure => first | (simp [intOf]; done) | (simp [intOf]; omega)
      ·have hst := hno (fun q => kl q.2.1)
       replace hL := lh hL
       replace hD := lh hD
       clear hsc hlF hisL hik hil him hno hDl hRl'
       go_wp2_with fail
       go_roundw
       case rel => exact ⟨j + 1, _, by omega, by go_num, rfl, by rw [hst.out]; exact hown, hB⟩
       case measure => first | (simp [intOf]; done) | (simp [intOf]; omega)
     ·have hst := hno (fun q => k4 (by have := q.1; omega))
      replace hL := lh hL
      replace hD := lh hD
      clear hsc hlF hisL hik hil him hno hDl hRl'
      go_wp2_with fail
      go_roundw
      case rel => exact ⟨j + 1, _, by omega, by go_num, rfl, by rw [hst.out]; exact hown, hB⟩
      case measure => first | (simp [intOf]; done) | (simp [intOf]; omega)
    ·obtain rfl : j = n := by omega
     have hst := lh (hRs.out m).symm
     go_wp2_with fail
     go_roundw
     case rel => exact ⟨m + 1, _, by omega, by go_num, rfl, by rw [← hst.out]; exact hown, hB⟩
     case measure => first | (simp [intOf]; done) | (simp [intOf]; omega)
  ·obtain rfl : m = 8 := by omega
   have hfin := lh (show IKO wr w.heap.size u7 R ∧ Below w.heap.size w wr from ⟨by rw [hRt.out]; exact hown0.mono hbs1, hbw.out.trans (hB0.mono hbs1)⟩)
   clear hown0 hB0
   go_wp2_with fail
   go_ret
   exact ⟨_, rfl, hfin.out⟩
theorem IKO.kl {w : World} {base : Nat} {v : Value} {l : List Nat} (h : IKO w base v l) : KL .i64 w v l := by
 obtain ⟨A, cap, hv, hc⟩ := OwnE.el eI_len h
 refine ⟨A, cap, hv, fun hl => ?_⟩
 obtain ⟨g, off, hA, hg, hcp, hi⟩ := hc hl
 refine ⟨g, off, hA, hg, hcp, fun i hil => ?_⟩
 have := hi i hil 0 (by decide)
 simpa [eI] using this
end Go.Proofs.YtkdhdibjbabgfaaGreatDoor
end
