/-
  Part of the proof of MendWhole.
-/
import Derived.Test.YtkdhdibjbabgfaaGreatDoorVw39
import Derived.Test.YtkdhdibjbabgfaaGreatDoorVw7
import Derived.Test.YtkdhdibjbabgfaaGreatDoorVw0
set_option maxRecDepth 10000
set_option maxHeartbeats 1000000
set_option linter.unusedVariables false
set_option linter.unusedSimpArgs false
section
namespace Go.Proofs.YtkdhdibjbabgfaaGreatDoor
theorem entIn_ref {N L : Nat} {x : Pe} (h : 1 ≤ x.2.length) : entIn N L x = !(decide (x.1 < ((10 + 73 * L + gNat N L : Nat) : Int)) || decide (((10 + 73 * L + gNat N L + gNat N L * 32 : Nat) : Int) < x.1 + (x.2.length : Int))) := by
 unfold entIn inCh
 rw [Bool.eq_iff_iff]
 simp only [Bool.and_eq_true, decide_eq_true_eq, Bool.not_eq_true', Bool.or_eq_false_iff, decide_eq_false_iff_not]
 omega
end Go.Proofs.YtkdhdibjbabgfaaGreatDoor
end
section
namespace Go.Proofs.YtkdhdibjbabgfaaGreatDoor
open Go.Lib Go.RowKit Go.ChangeShapes Go.WideShapes Go.Deep
theorem rlog_yes (v : Value) (I : List Nat) (L ln : Nat) (w : World) (hw : Lw w) (hW : WL I) (hv : KL .u64 w v I) (hg : gOk (I.length : Nat) (L : Nat) = true) (hln : ln < L) (h40 : gNat I.length L ≤ 40) (hlb : laneB I (I.length : Nat) (L : Nat) (ln : Nat) = true) :
 Calls Tryz.prog 18 #[v, .agg #[.int .i64 (I.length : Nat), .int .i64 (L : Nat)], .int .i64 (ln : Nat)] w fun e w' => ∃ v', e = .returned v' ∧ OwnSp w' w.heap.size v' (logSp I L ln) ∧ Below w.heap.size w w' := by
 have hPo := lh (fun w1 (hb : Below w.heap.size w w1) => pool_any v I (I.length : Nat) (L : Nat) (ln : Nat) w1 (hw.keep hb) hW (hv.keep hb) (by have := (pool_size hg).2.2.1; omega))
 rw [hlb] at hPo
 obtain ⟨nn, hnn⟩ : ∃ n, I.length = n := ⟨_, rfl⟩
 rw [hnn] at hPo
 obtain ⟨s1, s2, s3, s4, s5, s6, s7, s8⟩ := pool_size hg
 have hTl := tabW_len hg
 obtain ⟨G, hG⟩ : ∃ G, gNat I.length L = G := ⟨_, rfl⟩
 rw [hG] at s5 s6 s7 s8 h40 hTl
 have hTw := hW.part (10 + 73 * L) G
 have hTk : tabW I L = (I.drop (10 + 73 * L)).take G := by unfold tabW; rw [hG]
 rw [← hTk] at hTw
 obtain ⟨F, hF⟩ : ∃ F, 10 + 73 * L = F := ⟨_, rfl⟩
 have hF' : (10 + 73 * (L : Int)) = (F : Int) := by omega
 rw [hnn] at hg s3 s4 s5 s8
 have hlk : lOk (nn : Nat) (L : Nat) (ln : Nat) = true := by unfold lOk; rw [hg, Bool.true_and]; exact decide_eq_true (by omega)
 have hLg := lh (fun w1 => refLog_t (nn : Nat) (L : Nat) (ln : Nat) w1 hlk)
 have hTb := lh (fun w1 => refTable_t (nn : Nat) (L : Nat) w1 hg)
 rw [hF', s5] at hTb
 obtain ⟨H0, hH0⟩ : ∃ h, 10 + L + ln * 72 = h := ⟨_, rfl⟩
 have hH1 : (10 + (L : Int) + (ln : Int) * 72) = (H0 : Int) := by omega
 rw [hH1] at hLg
 have hCk := lh (fun (i : Nat) (hi : i < G) w1 => show Calls Tryz.prog 48 #[.agg #[.int .i64 (nn : Nat), .int .i64 (L : Nat)], .int .i64 (i : Nat)] w1 (fun e w' => e = .returned (.agg #[.int .i64 (chSp I.length L i).1, .int .i64 32]) ∧ Below w1.heap.size w1 w') from by
  have h := refChunk_yes (nn : Nat) (L : Nat) (i : Nat) w1 hg (by omega) (by omega)
  unfold cFrom at h
  rw [s5] at h
  unfold chSp
  rw [hG, show (((10 + 73 * L + G + i * 32 : Nat) : Int)) = 10 + 73 * (L : Int) + (G : Nat) + (i : Nat) * 32 from by push_cast; rfl]
  exact h)
 obtain ⟨g, off, cap, rfl, hcap, hgs⟩ := hv.addr hnn (by omega)
 have hWd := lh (fun w1 => part15_any g off nn cap F G w1 (by omega) hcap (by omega) (by omega))
 have hLs := lh (fun w1 (hb : Below w.heap.size w w1) => refLogs_any (.slice (some ⟨g, off + F, none⟩) G (cap - F)) (tabW I L) (ln : Nat) w1 (hw.keep hb) (by rw [hTk, hF]; exact (hv.keep hb).partC hnn F G _ (by omega) (by omega)) hTw (by rw [hTl]; omega))
 obtain ⟨R, hR⟩ : ∃ R, logsT (tabW I L) (ln : Nat) = R := ⟨_, rfl⟩
 rw [hR] at hLs
 have hRb : ∀ x ∈ R, x < G := fun x hx => by rw [← hTl]; rw [← hR] at hx; exact logs_bd x hx
 have hRl : R.length ≤ 320 := by have := logs_len (t := tabW I L) (ln := (ln : Nat)); rw [hR, hTl] at this; omega
 have hSp : logSp I L ln = ((H0 : Int), 32) :: R.map (chSp I.length L) := by unfold logSp; rw [hR, hH0]
 rw [hSp, hnn]
 obtain ⟨mm, hmm⟩ : ∃ m, R.length = m := ⟨_, rfl⟩
 have hRx := lh (fun j (hj : j < mm) => show R.getD j 0 < G from hRb _ (by rw [List.getD_eq_getElem?_getD, List.getElem?_eq_getElem (by omega)]; exact List.getElem_mem _))
 have hSt := lh (fun j (hj : j < mm) => show (((H0 : Int), 32) :: (R.take j).map (chSp I.length L)) ++ [chSp I.length L (R.getD j 0)] = ((H0 : Int), 32) :: (R.take (j + 1)).map (chSp I.length L) from by
  rw [List.take_succ_eq_append_getElem (by omega), List.map_append, List.getD_eq_getElem?_getD, List.getElem?_eq_getElem (by omega)]; rfl)
 have hEn := lh (show R.take mm = R from List.take_of_length_le (by omega))
 have hA := bZ w (.cells #[.int .i64 (nn : Nat), .int .i64 (L : Nat)] 33)
 have gB := C2.new w (.int .i64 (nn : Nat)) (.int .i64 (L : Nat)) 33
 obtain ⟨C, hC⟩ : ∃ C, w.heap.size = C := ⟨_, rfl⟩
 have hm9 : mm ≤ 320 := by omega
 replace hnn := lh hnn
 replace hmm := lh hmm
 replace hR := lh hR
 replace hG := lh hG
 clear hv hW hw hTl hTw hTk hg hlk hSp hRb hF hF' hH0 hH1 hRl
 rw [hC] at gB
 go_enter Tryz.func18, Tryz.ntmps18
 have hCC : (w.alloc (.cells #[.int .i64 (nn : Nat), .int .i64 (L : Nat)] 33)).heap.size = C + 1 := by simp; omega
 generalize hw0 : w.alloc (.cells #[.int .i64 (nn : Nat), .int .i64 (L : Nat)] 33) = w0 at *
 obtain ⟨q0, q1⟩ := id gB
 subst hw0
 go_wp2_with fail
 refine (hPo.out _ hA).mono ?_
 rintro e wp ⟨rfl, hbp⟩
 replace hA := hA.trans (hbp.mono hA.size)
 replace gB := gB.keep hbp
 obtain ⟨q0, q1⟩ := id gB
 clear hPo hbp
 go_wp2_with fail
 refine (hLg.out _).mono ?_
 rintro e w1 ⟨rfl, hb1⟩
 have hB1 := hA.trans (hb1.mono hA.size)
 have gB1 := gB.keep hb1
 obtain ⟨B, hBl⟩ : ∃ B, w1.heap.size = B := ⟨_, rfl⟩
 have hCB : C < B := by rw [← hBl]; exact gB1.lt
 have hOwn := (OwnSp.one w1 (H0 : Nat) 32 (51 : Nat) rfl)
 have hB2 := hB1.alloc hB1.size (.cells #[.int .i64 (H0 : Nat), .int .i64 32] (51 : Nat))
 have gB2 := gB1.alloc (.cells #[.int .i64 (H0 : Nat), .int .i64 32] (51 : Nat))
 rw [hBl] at hOwn
 obtain ⟨r0, r1⟩ := id gB2
 have hne : ¬ C = w1.heap.size := by omega
 clear q0 q1
 go_wp2_with fail
 refine (hTb.out _).mono ?_
 rintro e w3 ⟨rfl, hb3⟩
 have hB3 := hB2.trans (hb3.mono hB2.size)
 go_wp2_with fail
 refine (hWd.out _).mono ?_
 rintro e w4 ⟨rfl, hb4⟩
 have hB4 := hB3.trans (hb4.mono hB3.size)
 go_wp2_with fail
 refine (hLs.out _ hB4).mono ?_
 rintro e w5 ⟨v5, rfl, ho5, hb5⟩
 have hB5 := hB4.trans (hb5.mono hB4.size)
 have hs1 : (w1.alloc (.cells #[.int .i64 (H0 : Nat), .int .i64 32] (51 : Nat))).heap.size = B + 1 := by simp; omega
 have hB45 : B + 1 ≤ w4.heap.size := by rw [← hs1]; exact Nat.le_trans hb3.size hb4.size
 have hOwn5 := ((hOwn.keep hb3).keep hb4).keep hb5
 have gB5 := ((gB2.keep hb3).keep hb4).keep hb5
 obtain ⟨A5, c5, rfl, hK5⟩ := ho5.kl.form hmm.out
 have hlt5 := hb5.size
 have hoB : ∀ k, (Value.slice A5 mm c5).ownBlock = some k → ¬ k = B := fun k hk => by have := (ho5.lt k hk).1; omega
 have ho5' := lh ho5
 replace hB5 := lh hB5
 clear hB1 hB2 hB3 hB4 hb1 hb3 hb4 hb5 gB gB1 gB2 hA hOwn ho5 hK5 r0 r1
 obtain ⟨A0, c0, hv0⟩ : ∃ A0 c0, (Value.slice (some ⟨B, 0, none⟩) 1 1) = .slice A0 1 c0 := ⟨_, _, rfl⟩
 go_wp2_with fail
 go_loopw [10, 8] (fun i l wr => ∃ (j : Nat) (P : List Sp), j ≤ mm ∧ i = .int .i64 j ∧ Hid (P = ((H0 : Int), 32) :: (R.take j).map (chSp I.length L)) ∧ P.length = j + 1 ∧ OwnSp wr (C + 1) l P ∧ Chg (fun k => k = B) w5 wr ∧ (∀ k, l.ownBlock = some k → k = B ∨ w5.heap.size ≤ k)) (fun i _ _ => mm + 1 - (intOf i).toNat)
 case atStart => exact ⟨0, _, Nat.zero_le _, rfl, rfl, by simp, hOwn5.mono (by omega), Chg.refl _ _, fun k hk => .inl (by cases hk; rfl)⟩
 case round =>
  obtain ⟨j, P, hj, rfl, hP, hPl, hown, hch, hbk⟩ := hrel
  have gBr := gB5.chg hch (by omega)
  have hBr := hB5.out.trans (hch.below (N := w.heap.size) (fun k hk => by omega) hB5.out.size)
  by_cases hlt : j < mm
  ·obtain ⟨A9, c9, hv9, hK9⟩ := (IKO.kl (OwnE.chg ho5'.out hch hoB)).form hmm.out
   cases hv9
   obtain ⟨g2, o2, rfl, hcap2, hg2, c0⟩ := hK9 wr j (Below.refl _ _) hlt
   have hlt' : (j : Int) < (mm : Int) := by omega
   have hx := hRx.out j hlt
   have hst := lh (hSt.out j hlt)
   have hCj := hCk.out (R.getD j 0) hx
   generalize R.getD j 0 = x at *
   obtain ⟨q0, q1⟩ := id gBr
   rw [hnn.out] at hCj
   clear hK9
   obtain ⟨s, hs⟩ : ∃ s, chSp nn L x = s := ⟨_, rfl⟩
   have hs2 : s.2 = 32 := by rw [← hs]; rfl
   go_wp2_with fail
   refine wp_region_tail (S := (fun w' => Below wr.heap.size wr w')) (n := 8) (by kernel_rfl) ?_ (fun hHeld hInv => ?_) (by decide)
   ·(try dsimp only)
    (first | assumption | exact (Below.refl _ _).drew | exact hHeld.trans (hb.mono hHeld.size))
   refine takeS 0 (v := ?_) (tailAt (by kernel_rfl)) hInv (by decide) rfl (by kernel_rfl) (by kernel_rfl) (by kernel_rfl) (fun _ _ _ h => h) (by rfl) (by assumption) ?_ (fun hInv2 => ?_)
   rotate_left
   ·(intro w hSw; (try dsimp only at hSw); have zz := gBr.keep hSw; obtain ⟨z0, z1⟩ := zz; have z2 := (bcell hSw).1 _ (o2 + j) hg2; rw [c0] at z2; go_simp <;> with_reducible rfl)
   clear hInv
   have hInv := hInv2
   clear hInv2
   try simp only [Act.put,sA,sB,sC] at hInv ⊢
   refine takeS 1 (v := ?_) (tailAt (by kernel_rfl)) hInv (by decide) rfl (by kernel_rfl) (by kernel_rfl) (by kernel_rfl) (fun _ _ _ h => h) (by rfl) (by assumption) ?_ (fun hInv2 => ?_)
   rotate_left
   ·(intro w hSw; (try dsimp only at hSw); have zz := gBr.keep hSw; obtain ⟨z0, z1⟩ := zz; have z2 := (bcell hSw).1 _ (o2 + j) hg2; rw [c0] at z2; go_simp <;> with_reducible rfl)
   clear hInv
   have hInv := hInv2
   clear hInv2
   try simp only [Act.put,sA,sB,sC] at hInv ⊢
   refine takeS 2 (v := ?_) (tailAt (by kernel_rfl)) hInv (by decide) rfl (by kernel_rfl) (by kernel_rfl) (by kernel_rfl) (fun _ _ _ h => h) (by rfl) (by assumption) ?_ (fun hInv2 => ?_)
   rotate_left
   ·(intro w hSw; (try dsimp only at hSw); have zz := gBr.keep hSw; obtain ⟨z0, z1⟩ := zz; have z2 := (bcell hSw).1 _ (o2 + j) hg2; rw [c0] at z2; go_simp <;> with_reducible rfl)
   clear hInv
   have hInv := hInv2
   clear hInv2
   try simp only [Act.put,sA,sB,sC] at hInv ⊢
   refine takeS 3 (v := ?_) (tailAt (by kernel_rfl)) hInv (by decide) rfl (by kernel_rfl) (by kernel_rfl) (by kernel_rfl) (fun _ _ _ h => h) (by rfl) (by assumption) ?_ (fun hInv2 => ?_)
   rotate_left
   ·(intro w hSw; (try dsimp only at hSw); have zz := gBr.keep hSw; obtain ⟨z0, z1⟩ := zz; have z2 := (bcell hSw).1 _ (o2 + j) hg2; rw [c0] at z2; go_simp <;> with_reducible rfl)
   clear hInv
   have hInv := hInv2
   clear hInv2
   try simp only [Act.put,sA,sB,sC] at hInv ⊢
   refine takeS 4 (v := ?_) (tailAt (by kernel_rfl)) hInv (by decide) rfl (by kernel_rfl) (by kernel_rfl) (by kernel_rfl) (fun _ _ _ h => h) (by rfl) (by assumption) ?_ (fun hInv2 => ?_)
   rotate_left
   ·(intro w hSw; (try dsimp only at hSw); have zz := gBr.keep hSw; obtain ⟨z0, z1⟩ := zz; have z2 := (bcell hSw).1 _ (o2 + j) hg2; rw [c0] at z2; go_simp <;> with_reducible rfl)
   clear hInv
   have hInv := hInv2
   clear hInv2
   try simp only [Act.put,sA,sB,sC] at hInv ⊢
   refine takeS 5 (v := ?_) (tailAt (by kernel_rfl)) hInv (by decide) rfl (by kernel_rfl) (by kernel_rfl) (by kernel_rfl) (fun _ _ _ h => h) (by rfl) (by assumption) ?_ (fun hInv2 => ?_)
   rotate_left
   ·(intro w hSw; (try dsimp only at hSw); have zz := gBr.keep hSw; obtain ⟨z0, z1⟩ := zz; have z2 := (bcell hSw).1 _ (o2 + j) hg2; rw [c0] at z2; go_simp <;> with_reducible rfl)
   clear hInv
   have hInv := hInv2
   clear hInv2
   try simp only [Act.put,sA,sB,sC] at hInv ⊢
   refine oneS 6 hInv (by decide) rfl (by kernel_rfl) (fun K hK => ?_)
   go_simp
   refine (hCj _).mono ?_; rintro e w6 ⟨rfl, hb⟩; rw [hs]
   refine hK.out _ _ ?_ (fun hHeld2 hInv2 => ?_)
   ·(try dsimp only)
    (first | assumption | exact (Below.refl _ _).drew | exact hHeld.trans (hb.mono hHeld.size))
   clear hK K hHeld hInv
   have hHeld := hHeld2
   have hInv := hInv2
   clear hHeld2 hInv2
   try simp only [Act.put,sA,sB,sC] at hInv ⊢
   refine oneS 7 hInv (by decide) rfl (by kernel_rfl) (fun K hK => ?_)
   go_simp
   have hb := bZ w6 (.cells #[.int .i64 s.1, .int .i64 32] (51 : Nat))
   refine hK.out _ _ ?_ (fun hHeld2 hInv2 => ?_)
   ·(try dsimp only)
    (first | assumption | exact (Below.refl _ _).drew | exact hHeld.trans (hb.mono hHeld.size))
   clear hK K hHeld hInv
   have hHeld := hHeld2
   have hInv := hInv2
   clear hHeld2 hInv2
   try simp only [Act.put,sA,sB,sC] at hInv ⊢
   refine lastS 8 rfl (by decide) (by kernel_rfl) (fun K hK => ?_)
   have hC6 := C2.new w6 (.int .i64 s.1) (.int .i64 32) (51 : Nat)
   obtain ⟨v', w8, hrun, ho8, hg8, hor⟩ := app1 (s := s) (hown.keep hHeld) (by rw [hs2]; exact hC6) (by have := hBr.size; have := gBr.lt; have := hHeld.size; omega) (by omega)
   have hch8 : Chg (fun k => k = B) w5 w8 := (hch.trans (Chg.of_below (fun k => k = B) hHeld) (fun k h => .inl h)).trans (Chg.of_grown (S := fun k => k = B ∨ w5.heap.size ≤ k) hg8 (fun k hk => .inl (hbk k hk))) (fun k h => by rcases h with h | h; exact .inl h; exact .inr h)
   have hbk8 : ∀ k, v'.ownBlock = some k → k = B ∨ w5.heap.size ≤ k := fun k hk => by
    rcases hor with h | h
    ·exact hbk k (by rw [← h]; exact hk)
    ·rw [h] at hk
     cases hk
     have := hch.size; have := hHeld.size
     omega
   rw [if_pos (by rfl)]
   refine wp_append_run _ _ _ _ rfl _ _ _ rfl rfl hrun ?_
   refine hK.out _ _ ?_
   clear hK K
   try simp only [Act.put,sA,sB,sC]
   refine lastS 9 rfl (by decide) (by kernel_rfl) (fun K hK => ?_)
   go_simp
   refine hK.out _ _ ?_
   clear hK K
   try simp only [Act.put,sA,sB,sC]
   refine wpAnyS_done (by kernel_rfl) ?_ _
   go_wp2_with fail
   go_roundw
   case rel => exact ⟨j + 1, P ++ [s], by omega, by go_num, by rw [hP.out, ← hs, ← hnn.out]; exact hst.out, by rw [List.length_append, hPl]; rfl, ho8, hch8, hbk8⟩
   case measure => first | (simp [intOf]; done) | (simp [intOf]; omega)
  ·obtain rfl : j = mm := by omega
   have hfin := lh (show OwnSp wr C u8 (((H0 : Int), 32) :: R.map (chSp nn L)) from by rw [hP.out, hEn.out, hnn.out] at hown; exact hown.mono (by omega))
   clear hown hch hbk
   go_wp2_with fail
   go_ret
   exact ⟨_, rfl, by rw [hC]; exact hfin.out, hBr⟩
theorem rlog_any (v : Value) (I : List Nat) (W L ln : Int) (w : World) (hw : Lw w) (hW : WL I) (hv : KL .u64 w v I) (hlen : I.length ≤ 100000) (h40 : poolB I = true → gNat I.length (I.getD 3 0) ≤ 40) :
 Calls Tryz.prog 18 #[v, .agg #[.int .i64 W, .int .i64 L], .int .i64 ln] w fun e w' => ∃ v', e = .returned v' ∧ OwnSp w' w.heap.size v' (logP I W L ln) ∧ Below w.heap.size w w' := by
 cases hl : laneB I W L ln with
 | true =>
   have h2 := hl
   unfold laneB at h2
   rw [Bool.and_eq_true] at h2
   obtain ⟨h3, h4⟩ := h2
   have h5 := of_decide_eq_true h4
   obtain ⟨hp, hW1, hL1⟩ := readB_t h3
   obtain ⟨n, rfl⟩ := Int.eq_ofNat_of_zero_le h5.1
   subst hW1
   subst hL1
   have hy : logP I (I.length : Nat) (I.getD 3 0 : Nat) (n : Nat) = logSp I (I.getD 3 0) n := if_pos hl
   rw [hy]
   exact rlog_yes v I (I.getD 3 0) n w hw hW hv (gOk_pool (pool_t hp).1).2 (by omega) (h40 hp) hl
 | false =>
   have hno := lh (show logP I W L ln = [] from if_neg (by rw [hl]; simp))
   have hA := bZ w (.cells #[.int .i64 W, .int .i64 L] 33)
   have hPo := lh (fun w1 (hb : Below w.heap.size w w1) => pool_any v I W L ln w1 (hw.keep hb) hW (hv.keep hb) hlen)
   rw [hl] at hPo
   obtain ⟨q0, q1⟩ := C2.new w (.int .i64 W) (.int .i64 L) 33
   clear h40 hl
   go_enter Tryz.func18, Tryz.ntmps18
   go_wp2_with fail
   refine (hPo.out _ hA).mono ?_
   rintro e w1 ⟨rfl, hb1⟩
   have hB1 := hA.trans (hb1.mono hA.size)
   clear hb1 hPo
   go_wp2_with fail
   go_ret
   exact ⟨_, rfl, by rw [hno.out]; exact OwnSp.nil _ _, hB1⟩
end Go.Proofs.YtkdhdibjbabgfaaGreatDoor
end
